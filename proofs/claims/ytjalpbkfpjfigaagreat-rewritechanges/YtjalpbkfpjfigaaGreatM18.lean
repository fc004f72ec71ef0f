/-
  What tcp.Parse answers where it reads a segment: options and a body.
  What tcp.Parse answers where it reads a segment: options, no body.
  What the document's own lychref1.Icmp answers, and lychhelp.Icmp over two messages that are the same.
-/
import Derived.Test.YtjalpbkfpjfigaaGreatM11
import Derived.Test.YtjalpbkfpjfigaaGreatM12
import Derived.Test.YtjalpbkfpjfigaaGreatM08
namespace Go.Proofs.YtjalpbkfpjfigaaGreat
open Go.RowKit
open Sm
set_option linter.unusedVariables false

set_option maxRecDepth 20000 in
set_option maxHeartbeats 4000000 in
theorem tparse_okA {w : World} {b off n cap : Nat} {K o m : Nat} {l : List Int} (h : Row w (some ⟨b, off, none⟩) l) (hn : l.length = n) (hc : n ≤ cap) (k : Nat) (hk : l.getD 12 0 / 16 = k) (hK : K = 4 * k) (hKo : K = 20 + o) (hKn : n = K + m) (ho : 0 < o) (hm : 0 < m) (q : Sg)
    (e0 : w16 l 0 = q.src) (e2 : w16 l 2 = q.dst) (e4 : w32 l 4 = q.seq) (e8 : w32 l 8 = q.ack) (e13 : l.getD 13 0 = q.flags) (e14 : w16 l 14 = q.win) (e16 : w16 l 16 = q.sum) (e18 : w16 l 18 = q.urg) (eo : (l.drop 20).take o = q.opts) (eb : (l.drop K).take m = q.body) :
    Calls Tryz.prog 77 #[.slice (some ⟨b, off, none⟩) n cap] w fun r w' => ∃ v, r = .returned (.tuple #[v, .int .i64 0]) ∧ TcV w' w.heap.size v q ∧ Below w.heap.size w w' := by
  obtain ⟨X0, X2, X4, X8, X13, X14, X16, X18, op, bd⟩ := q
  simp only at e0 e2 e4 e8 e13 e14 e16 e18 eo eb
  have hln := h.len
  have hb : b < w.heap.size := cell_lt (h.cellAt 0 (by omega))
  have r12 := h.bytes 12
  obtain ⟨x, hx⟩ : ∃ x : Nat, l.getD 12 0 = x := ⟨(l.getD 12 0).toNat, by omega⟩
  have c12 : w.cell? ⟨b, off + 12, none⟩ = some (.int .u8 x) := by rw [← hx]; exact h.cellAt 12 (by omega)
  have c13 : w.cell? ⟨b, off + 13, none⟩ = some (.int .u8 X13) := by rw [← e13]; exact h.cellAt 13 (by omega)
  have hM := (Mem.nil w).push w.heap.size (.cells tc0 tcT) rfl
  have c12' : (w.alloc (.cells tc0 tcT)).cell? ⟨b, off + 12, none⟩ = some (.int .u8 x) := (hM.old hb).trans c12
  have HM0 : Hid (Mem w (w.alloc (.cells tc0 tcT)) [(w.heap.size, .cells tc0 tcT)]) := hM
  rw [hx] at hk r12
  have hdv : (x : Int) / 16 = k := by omega
  have v1 : IntKind.i64.wrap (k : Int) = k := wrap64_small _ (by omega) (by omega)
  have v2 : IntKind.i64.wrap (4 * (k : Int)) = 4 * (k : Int) := wrap64_small _ (by omega) (by omega)
  have HK : Hid (4 * (k : Int) = (K : Int)) := by show 4 * (k : Int) = (K : Int); omega
  have g0 : ∀ W L, Mem w W L → Calls Tryz.prog 105 #[.slice (some ⟨b, off, none⟩) 2 2] W fun e w' => e = .returned (.int .u16 X0) ∧ Mem w w' L := fun W L hM => by
    refine (tword_at (hM.row h) 0 (off) rfl (by omega) X0 e0 2).mono ?_; rintro e w' ⟨rfl, q, rfl⟩; exact ⟨rfl, hM.drewN q⟩
  have g2 : ∀ W L, Mem w W L → Calls Tryz.prog 105 #[.slice (some ⟨b, off + 2, none⟩) 2 2] W fun e w' => e = .returned (.int .u16 X2) ∧ Mem w w' L := fun W L hM => by
    refine (tword_at (hM.row h) 2 (off + 2) rfl (by omega) X2 e2 2).mono ?_; rintro e w' ⟨rfl, q, rfl⟩; exact ⟨rfl, hM.drewN q⟩
  have g4 : ∀ W L, Mem w W L → Calls Tryz.prog 106 #[.slice (some ⟨b, off + 4, none⟩) 4 4] W fun e w' => e = .returned (.int .u32 X4) ∧ Mem w w' L := fun W L hM => by
    refine (tlong_at (hM.row h) 4 (off + 4) rfl (by omega) X4 e4).mono ?_; rintro e w' ⟨rfl, q, rfl⟩; exact ⟨rfl, hM.drewN q⟩
  have g8 : ∀ W L, Mem w W L → Calls Tryz.prog 106 #[.slice (some ⟨b, off + 8, none⟩) 4 4] W fun e w' => e = .returned (.int .u32 X8) ∧ Mem w w' L := fun W L hM => by
    refine (tlong_at (hM.row h) 8 (off + 8) rfl (by omega) X8 e8).mono ?_; rintro e w' ⟨rfl, q, rfl⟩; exact ⟨rfl, hM.drewN q⟩
  have g14 : ∀ W L, Mem w W L → Calls Tryz.prog 105 #[.slice (some ⟨b, off + 14, none⟩) 2 2] W fun e w' => e = .returned (.int .u16 X14) ∧ Mem w w' L := fun W L hM => by
    refine (tword_at (hM.row h) 14 (off + 14) rfl (by omega) X14 e14 2).mono ?_; rintro e w' ⟨rfl, q, rfl⟩; exact ⟨rfl, hM.drewN q⟩
  have g16 : ∀ W L, Mem w W L → Calls Tryz.prog 105 #[.slice (some ⟨b, off + 16, none⟩) 2 2] W fun e w' => e = .returned (.int .u16 X16) ∧ Mem w w' L := fun W L hM => by
    refine (tword_at (hM.row h) 16 (off + 16) rfl (by omega) X16 e16 2).mono ?_; rintro e w' ⟨rfl, q, rfl⟩; exact ⟨rfl, hM.drewN q⟩
  have g18 : ∀ W L, Mem w W L → Calls Tryz.prog 105 #[.slice (some ⟨b, off + 18, none⟩) 2 2] W fun e w' => e = .returned (.int .u16 X18) ∧ Mem w w' L := fun W L hM => by
    refine (tword_at (hM.row h) 18 (off + 18) rfl (by omega) X18 e18 2).mono ?_; rintro e w' ⟨rfl, q, rfl⟩; exact ⟨rfl, hM.drewN q⟩
  have lo : op.length = o := by rw [← eo]; simp; try omega
  have lb : bd.length = m := by rw [← eb]; simp; try omega
  have t1 : ∀ W L, Mem w W L → Calls Tryz.prog 107 #[.slice (some ⟨b, off + 20, none⟩) o o] W fun e w' => e = .returned (.slice (some ⟨W.heap.size, 0, none⟩) o o) ∧ Mem w w' (L ++ [(W.heap.size, .cells (bs op) 5)]) := fun W L hM => by
    have hr := hM.row (h.part 20 o (by omega))
    rw [eo] at hr
    refine (tfresh_any hr o o lo).mono ?_; rintro e w' ⟨rfl, hK⟩; exact ⟨rfl, hM.join hK⟩
  have t2 : ∀ W L, Mem w W L → Calls Tryz.prog 107 #[.slice (some ⟨b, off + K, none⟩) m m] W fun e w' => e = .returned (.slice (some ⟨W.heap.size, 0, none⟩) m m) ∧ Mem w w' (L ++ [(W.heap.size, .cells (bs bd) 5)]) := fun W L hM => by
    have hr := hM.row (h.part K m (by omega))
    rw [eb] at hr
    refine (tfresh_any hr m m lb).mono ?_; rintro e w' ⟨rfl, hK⟩; exact ⟨rfl, hM.join hK⟩
  have HP : Hid (op.length = o ∧ bd.length = m ∧ IsBytes op ∧ IsBytes bd ∧ o ≤ 40 ∧ m ≤ 140737488351232) := ⟨lo, lb, by rw [← eo]; exact bytes_part h.bytes _ _, by rw [← eb]; exact bytes_part h.bytes _ _, by omega, by omega⟩
  have n2 : (2 : Int) ≤ cap := by omega
  have n4 : (4 : Int) ≤ cap := by omega
  have n8 : (8 : Int) ≤ cap := by omega
  have n12 : (12 : Int) ≤ cap := by omega
  have n16 : (16 : Int) ≤ cap := by omega
  have n18 : (18 : Int) ≤ cap := by omega
  have n20 : (20 : Int) ≤ cap := by omega
  have i12 : (12 : Int) < n := by omega
  have i13 : (13 : Int) < n := by omega
  have i20 : (20 : Int) ≤ n := by omega
  have nn : (n : Int) ≤ cap := by omega
  have hnl : (n : Int) ≤ 140737488351232 := by omega
  have f1 : K - 20 = o := by omega
  have f3 : ¬ K = 20 := by omega
  have f5 : (20 : Int) < K := by omega
  have nb1 : (20 : Int) ≤ K := by omega
  have nK : (K : Int) ≤ cap := by omega
  have nb2 : (K : Int) ≤ n := by omega
  have f2 : n - K = m := by omega
  have f4 : ¬ n = K := by omega
  have f6 : (K : Int) < n := by omega
  have G0 : Hid _ := g0
  have G2 : Hid _ := g2
  have G4 : Hid _ := g4
  have G8 : Hid _ := g8
  have G14 : Hid _ := g14
  have G16 : Hid _ := g16
  have G18 : Hid _ := g18
  have T1 : Hid _ := t1
  have T2 : Hid _ := t2
  have nb : w.heap.size ≠ b := by omega
  have nb' : b ≠ w.heap.size := by omega
  clear g0 g2 g4 g8 g14 g16 g18 t1 t2 h hn hc hk hK hKo hKn ho hm e0 e2 e4 e8 e13 e14 e16 e18 eo eb hln hx c12 r12 hM lo lb
  go_enter Tryz.func77, Tryz.ntmps77
  go_upto_region 3 with fail
  go_cut [4] from 5 (fun s4 wx => s4 = .int .i64 (K : Int) ∧ wx = w.alloc (.cells tc0 tcT))
  case first =>
    go_wp2_with fail
    go_meet
    case rel => exact ⟨by rw [← HK.out], rfl⟩
  case rest =>
  obtain ⟨rfl, rfl⟩ := hcut
  clear c12' hdv v1 v2 HK
  go_upto_region 8 with fail
  refine wp_letter (fun W => Mem w W [(w.heap.size, .cells tc0 tcT)]) HM0.out ?_
  intro w1 hM1
  have HM1 : Hid _ := hM1.drew
  have d13 : w1.cell? ⟨b, off + 13, none⟩ = some (.int .u8 X13) := (hM1.old hb).trans c13
  clear hM1 HM0
  go_region_held3 (fun w' => w'.cell? ⟨b, off + 13, none⟩ = some (.int .u8 X13))
    (first | go_keep | with_reducible exact (Mem.old (by with_reducible assumption) hb).trans c13)
    (first
      | (go_at_call 105; with_reducible refine (G0.out _ _ HM1.out).mono ?_; rintro e w2 ⟨rfl, hM2⟩)
      | (go_at_call 105; with_reducible refine (G2.out w2 _ hM2).mono ?_; rintro e w3 ⟨rfl, hM3⟩)
      | (go_at_call 106; with_reducible refine (G4.out w3 _ hM3).mono ?_; rintro e w4 ⟨rfl, hM4⟩)
      | (go_at_call 106; with_reducible refine (G8.out w4 _ hM4).mono ?_; rintro e w5 ⟨rfl, hM5⟩)
      | (go_at_call 105; with_reducible refine (G14.out w5 _ hM5).mono ?_; rintro e w6 ⟨rfl, hM6⟩)
      | (go_at_call 105; with_reducible refine (G16.out w6 _ hM6).mono ?_; rintro e w7 ⟨rfl, hM7⟩)
      | (go_at_call 105; with_reducible refine (G18.out w7 _ hM7).mono ?_; rintro e w8 ⟨rfl, hM8⟩)
      | (go_at_call 107; with_reducible refine (T1.out w8 _ hM8).mono ?_; rintro e w9 ⟨rfl, hM9⟩)
      | (go_at_call 107; with_reducible refine (T2.out w9 _ hM9).mono ?_; rintro e w10 ⟨rfl, hM10⟩; have kr : ∀ i, w10.cell? ⟨w.heap.size, i, none⟩ = tc0[i]? := hM10.cell 0 rfl; have kf : ∀ i, w10.frozen? ⟨w.heap.size, i, none⟩ = false := hM10.free 0 rfl))
  have HM10 : Hid (Mem w w10 [(w.heap.size, .cells tc0 tcT), (w8.heap.size, .cells (bs op) 5), (w9.heap.size, .cells (bs bd) 5)]) := hM10
  clear hM2 hM3 hM4 hM5 hM6 hM7 hM8 hM9 hM10 G0 G2 G4 G8 G14 G16 G18 T1 T2
  go_wp2_with fail
  refine bodyPost_ret (v := .tuple #[.agg (tcA X0 X2 X4 X8 X13 X14 X16 X18 (.slice (some ⟨w8.heap.size, 0, none⟩) o o) (.slice (some ⟨w9.heap.size, 0, none⟩) m m)), .int .i64 0]) (by simp [results, Tryz.results77, go_sem, kr]) rfl ⟨_, rfl, ?_, ?_⟩
  · obtain ⟨p1, p2, p3, p4, p5, p6⟩ := HP.out
    have z1 := HM10.out.ne 0 1 rfl rfl (by decide)
    have z2 := HM10.out.ne 0 2 rfl rfl (by decide)
    refine ⟨some ⟨w8.heap.size, 0, none⟩, o, some ⟨w9.heap.size, 0, none⟩, m, ?_, ?_, ?_, fun e => (by cases e), fun e => (by cases e), fun x hx => (by cases hx; exact HM10.out.ge 1 rfl), fun x hx => (by cases hx; exact HM10.out.ge 2 rfl)⟩
    · simp only [p1, p2]
    · iterate 10 (refine Row.setCell ?_ z1 _)
      exact HM10.out.own 1 rfl p3 (by rw [p1]; omega)
    · iterate 10 (refine Row.setCell ?_ z2 _)
      exact HM10.out.own 2 rfl p4 (by rw [p2]; omega)
  · iterate 10 (refine below_set ?_ (Nat.le_refl _))
    exact HM10.out.below
end Go.Proofs.YtjalpbkfpjfigaaGreat

namespace Go.Proofs.YtjalpbkfpjfigaaGreat
open Go.RowKit
open Sm
set_option linter.unusedVariables false

set_option maxRecDepth 20000 in
set_option maxHeartbeats 4000000 in
theorem tparse_okC {w : World} {b off K cap : Nat} {o : Nat} {l : List Int} (h : Row w (some ⟨b, off, none⟩) l) (hn : l.length = K) (hc : K ≤ cap) (k : Nat) (hk : l.getD 12 0 / 16 = k) (hK : K = 4 * k) (hKo : K = 20 + o) (ho : 0 < o) (q : Sg)
    (e0 : w16 l 0 = q.src) (e2 : w16 l 2 = q.dst) (e4 : w32 l 4 = q.seq) (e8 : w32 l 8 = q.ack) (e13 : l.getD 13 0 = q.flags) (e14 : w16 l 14 = q.win) (e16 : w16 l 16 = q.sum) (e18 : w16 l 18 = q.urg) (eo : (l.drop 20).take o = q.opts) (eb : (l.drop K).take 0 = q.body) :
    Calls Tryz.prog 77 #[.slice (some ⟨b, off, none⟩) K cap] w fun r w' => ∃ v, r = .returned (.tuple #[v, .int .i64 0]) ∧ TcV w' w.heap.size v q ∧ Below w.heap.size w w' := by
  obtain ⟨X0, X2, X4, X8, X13, X14, X16, X18, op, bd⟩ := q
  simp only at e0 e2 e4 e8 e13 e14 e16 e18 eo eb
  have hln := h.len
  have hb : b < w.heap.size := cell_lt (h.cellAt 0 (by omega))
  have r12 := h.bytes 12
  obtain ⟨x, hx⟩ : ∃ x : Nat, l.getD 12 0 = x := ⟨(l.getD 12 0).toNat, by omega⟩
  have c12 : w.cell? ⟨b, off + 12, none⟩ = some (.int .u8 x) := by rw [← hx]; exact h.cellAt 12 (by omega)
  have c13 : w.cell? ⟨b, off + 13, none⟩ = some (.int .u8 X13) := by rw [← e13]; exact h.cellAt 13 (by omega)
  have hM := (Mem.nil w).push w.heap.size (.cells tc0 tcT) rfl
  have c12' : (w.alloc (.cells tc0 tcT)).cell? ⟨b, off + 12, none⟩ = some (.int .u8 x) := (hM.old hb).trans c12
  have HM0 : Hid (Mem w (w.alloc (.cells tc0 tcT)) [(w.heap.size, .cells tc0 tcT)]) := hM
  rw [hx] at hk r12
  have hdv : (x : Int) / 16 = k := by omega
  have v1 : IntKind.i64.wrap (k : Int) = k := wrap64_small _ (by omega) (by omega)
  have v2 : IntKind.i64.wrap (4 * (k : Int)) = 4 * (k : Int) := wrap64_small _ (by omega) (by omega)
  have HK : Hid (4 * (k : Int) = (K : Int)) := by show 4 * (k : Int) = (K : Int); omega
  have g0 : ∀ W L, Mem w W L → Calls Tryz.prog 105 #[.slice (some ⟨b, off, none⟩) 2 2] W fun e w' => e = .returned (.int .u16 X0) ∧ Mem w w' L := fun W L hM => by
    refine (tword_at (hM.row h) 0 (off) rfl (by omega) X0 e0 2).mono ?_; rintro e w' ⟨rfl, q, rfl⟩; exact ⟨rfl, hM.drewN q⟩
  have g2 : ∀ W L, Mem w W L → Calls Tryz.prog 105 #[.slice (some ⟨b, off + 2, none⟩) 2 2] W fun e w' => e = .returned (.int .u16 X2) ∧ Mem w w' L := fun W L hM => by
    refine (tword_at (hM.row h) 2 (off + 2) rfl (by omega) X2 e2 2).mono ?_; rintro e w' ⟨rfl, q, rfl⟩; exact ⟨rfl, hM.drewN q⟩
  have g4 : ∀ W L, Mem w W L → Calls Tryz.prog 106 #[.slice (some ⟨b, off + 4, none⟩) 4 4] W fun e w' => e = .returned (.int .u32 X4) ∧ Mem w w' L := fun W L hM => by
    refine (tlong_at (hM.row h) 4 (off + 4) rfl (by omega) X4 e4).mono ?_; rintro e w' ⟨rfl, q, rfl⟩; exact ⟨rfl, hM.drewN q⟩
  have g8 : ∀ W L, Mem w W L → Calls Tryz.prog 106 #[.slice (some ⟨b, off + 8, none⟩) 4 4] W fun e w' => e = .returned (.int .u32 X8) ∧ Mem w w' L := fun W L hM => by
    refine (tlong_at (hM.row h) 8 (off + 8) rfl (by omega) X8 e8).mono ?_; rintro e w' ⟨rfl, q, rfl⟩; exact ⟨rfl, hM.drewN q⟩
  have g14 : ∀ W L, Mem w W L → Calls Tryz.prog 105 #[.slice (some ⟨b, off + 14, none⟩) 2 2] W fun e w' => e = .returned (.int .u16 X14) ∧ Mem w w' L := fun W L hM => by
    refine (tword_at (hM.row h) 14 (off + 14) rfl (by omega) X14 e14 2).mono ?_; rintro e w' ⟨rfl, q, rfl⟩; exact ⟨rfl, hM.drewN q⟩
  have g16 : ∀ W L, Mem w W L → Calls Tryz.prog 105 #[.slice (some ⟨b, off + 16, none⟩) 2 2] W fun e w' => e = .returned (.int .u16 X16) ∧ Mem w w' L := fun W L hM => by
    refine (tword_at (hM.row h) 16 (off + 16) rfl (by omega) X16 e16 2).mono ?_; rintro e w' ⟨rfl, q, rfl⟩; exact ⟨rfl, hM.drewN q⟩
  have g18 : ∀ W L, Mem w W L → Calls Tryz.prog 105 #[.slice (some ⟨b, off + 18, none⟩) 2 2] W fun e w' => e = .returned (.int .u16 X18) ∧ Mem w w' L := fun W L hM => by
    refine (tword_at (hM.row h) 18 (off + 18) rfl (by omega) X18 e18 2).mono ?_; rintro e w' ⟨rfl, q, rfl⟩; exact ⟨rfl, hM.drewN q⟩
  have lo : op.length = o := by rw [← eo]; simp; try omega
  have lb : bd.length = 0 := by rw [← eb]; simp; try omega
  have t1 : ∀ W L, Mem w W L → Calls Tryz.prog 107 #[.slice (some ⟨b, off + 20, none⟩) o o] W fun e w' => e = .returned (.slice (some ⟨W.heap.size, 0, none⟩) o o) ∧ Mem w w' (L ++ [(W.heap.size, .cells (bs op) 5)]) := fun W L hM => by
    have hr := hM.row (h.part 20 o (by omega))
    rw [eo] at hr
    refine (tfresh_any hr o o lo).mono ?_; rintro e w' ⟨rfl, hK⟩; exact ⟨rfl, hM.join hK⟩
  have t2 : ∀ W L, Mem w W L → Calls Tryz.prog 107 #[.slice (some ⟨b, off, none⟩) 0 0] W fun e w' => e = .returned (.slice (some ⟨W.heap.size, 0, none⟩) 0 0) ∧ Mem w w' (L ++ [(W.heap.size, .cells (bs bd) 5)]) := fun W L hM => by
    have hr := hM.row (h.part 0 0 (by omega))
    rw [show (l.drop 0).take 0 = bd by rw [← eb]; simp] at hr
    refine (tfresh_any hr 0 0 lb).mono ?_; rintro e w' ⟨rfl, hK⟩; exact ⟨rfl, hM.join hK⟩
  have HP : Hid (op.length = o ∧ bd.length = 0 ∧ IsBytes op ∧ IsBytes bd ∧ o ≤ 40 ∧ 0 ≤ 140737488351232) := ⟨lo, lb, by rw [← eo]; exact bytes_part h.bytes _ _, by rw [← eb]; exact bytes_part h.bytes _ _, by omega, by omega⟩
  have n2 : (2 : Int) ≤ cap := by omega
  have n4 : (4 : Int) ≤ cap := by omega
  have n8 : (8 : Int) ≤ cap := by omega
  have n12 : (12 : Int) ≤ cap := by omega
  have n16 : (16 : Int) ≤ cap := by omega
  have n18 : (18 : Int) ≤ cap := by omega
  have n20 : (20 : Int) ≤ cap := by omega
  have i12 : (12 : Int) < K := by omega
  have i13 : (13 : Int) < K := by omega
  have i20 : (20 : Int) ≤ K := by omega
  have nn : (K : Int) ≤ cap := by omega
  have hnl : (K : Int) ≤ 140737488351232 := by omega
  have f1 : K - 20 = o := by omega
  have f3 : ¬ K = 20 := by omega
  have f5 : (20 : Int) < K := by omega
  have nb1 : (20 : Int) ≤ K := by omega
  have nK : (K : Int) ≤ cap := by omega
  have G0 : Hid _ := g0
  have G2 : Hid _ := g2
  have G4 : Hid _ := g4
  have G8 : Hid _ := g8
  have G14 : Hid _ := g14
  have G16 : Hid _ := g16
  have G18 : Hid _ := g18
  have T1 : Hid _ := t1
  have T2 : Hid _ := t2
  have nb : w.heap.size ≠ b := by omega
  have nb' : b ≠ w.heap.size := by omega
  clear g0 g2 g4 g8 g14 g16 g18 t1 t2 h hn hc hk hK hKo ho e0 e2 e4 e8 e13 e14 e16 e18 eo eb hln hx c12 r12 hM lo lb
  go_enter Tryz.func77, Tryz.ntmps77
  go_upto_region 3 with fail
  go_cut [4] from 5 (fun s4 wx => s4 = .int .i64 (K : Int) ∧ wx = w.alloc (.cells tc0 tcT))
  case first =>
    go_wp2_with fail
    go_meet
    case rel => exact ⟨by rw [← HK.out], rfl⟩
  case rest =>
  obtain ⟨rfl, rfl⟩ := hcut
  clear c12' hdv v1 v2 HK
  go_upto_region 8 with fail
  refine wp_letter (fun W => Mem w W [(w.heap.size, .cells tc0 tcT)]) HM0.out ?_
  intro w1 hM1
  have HM1 : Hid _ := hM1.drew
  have d13 : w1.cell? ⟨b, off + 13, none⟩ = some (.int .u8 X13) := (hM1.old hb).trans c13
  clear hM1 HM0
  go_region_held3 (fun w' => w'.cell? ⟨b, off + 13, none⟩ = some (.int .u8 X13))
    (first | go_keep | with_reducible exact (Mem.old (by with_reducible assumption) hb).trans c13)
    (first
      | (go_at_call 105; with_reducible refine (G0.out _ _ HM1.out).mono ?_; rintro e w2 ⟨rfl, hM2⟩)
      | (go_at_call 105; with_reducible refine (G2.out w2 _ hM2).mono ?_; rintro e w3 ⟨rfl, hM3⟩)
      | (go_at_call 106; with_reducible refine (G4.out w3 _ hM3).mono ?_; rintro e w4 ⟨rfl, hM4⟩)
      | (go_at_call 106; with_reducible refine (G8.out w4 _ hM4).mono ?_; rintro e w5 ⟨rfl, hM5⟩)
      | (go_at_call 105; with_reducible refine (G14.out w5 _ hM5).mono ?_; rintro e w6 ⟨rfl, hM6⟩)
      | (go_at_call 105; with_reducible refine (G16.out w6 _ hM6).mono ?_; rintro e w7 ⟨rfl, hM7⟩)
      | (go_at_call 105; with_reducible refine (G18.out w7 _ hM7).mono ?_; rintro e w8 ⟨rfl, hM8⟩)
      | (go_at_call 107; with_reducible refine (T1.out w8 _ hM8).mono ?_; rintro e w9 ⟨rfl, hM9⟩)
      | (go_at_call 107; with_reducible refine (T2.out w9 _ hM9).mono ?_; rintro e w10 ⟨rfl, hM10⟩; have kr : ∀ i, w10.cell? ⟨w.heap.size, i, none⟩ = tc0[i]? := hM10.cell 0 rfl; have kf : ∀ i, w10.frozen? ⟨w.heap.size, i, none⟩ = false := hM10.free 0 rfl))
  have HM10 : Hid (Mem w w10 [(w.heap.size, .cells tc0 tcT), (w8.heap.size, .cells (bs op) 5), (w9.heap.size, .cells (bs bd) 5)]) := hM10
  clear hM2 hM3 hM4 hM5 hM6 hM7 hM8 hM9 hM10 G0 G2 G4 G8 G14 G16 G18 T1 T2
  go_wp2_with fail
  refine bodyPost_ret (v := .tuple #[.agg (tcA X0 X2 X4 X8 X13 X14 X16 X18 (.slice (some ⟨w8.heap.size, 0, none⟩) o o) (.slice (some ⟨w9.heap.size, 0, none⟩) 0 0)), .int .i64 0]) (by simp [results, Tryz.results77, go_sem, kr]) rfl ⟨_, rfl, ?_, ?_⟩
  · obtain ⟨p1, p2, p3, p4, p5, p6⟩ := HP.out
    have z1 := HM10.out.ne 0 1 rfl rfl (by decide)
    have z2 := HM10.out.ne 0 2 rfl rfl (by decide)
    refine ⟨some ⟨w8.heap.size, 0, none⟩, o, some ⟨w9.heap.size, 0, none⟩, 0, ?_, ?_, ?_, fun e => (by cases e), fun e => (by cases e), fun x hx => (by cases hx; exact HM10.out.ge 1 rfl), fun x hx => (by cases hx; exact HM10.out.ge 2 rfl)⟩
    · simp only [p1, p2]
    · iterate 10 (refine Row.setCell ?_ z1 _)
      exact HM10.out.own 1 rfl p3 (by rw [p1]; omega)
    · iterate 10 (refine Row.setCell ?_ z2 _)
      exact HM10.out.own 2 rfl p4 (by rw [p2]; omega)
  · iterate 10 (refine below_set ?_ (Nat.le_refl _))
    exact HM10.out.below
end Go.Proofs.YtjalpbkfpjfigaaGreat

namespace Go.Proofs.YtjalpbkfpjfigaaGreat
open Go.RowKit
open Sm
set_option linter.unusedVariables false

set_option maxHeartbeats 400000 in
theorem rmsg_short (a : Option Addr) (n cap : Nat) (w : World) (h : n < 8) :
    Calls Tryz.prog 37 #[.slice a n cap] w fun e w' => e = .returned (.tuple #[.agg mg0, .int .i64 20]) ∧ Below w.heap.size w w' := by
  have h' : (n : Int) < 8 := by omega
  go_enter Tryz.func37, Tryz.ntmps37
  go_wp2
  refine bodyPost_ret (v := .tuple #[.agg mg0, .int .i64 20]) (by simp [results, Tryz.results37, go_sem]) rfl ⟨rfl, ?_⟩
  exact (Below.refl _ _).alloc (Nat.le_refl _) _

set_option maxRecDepth 20000 in
set_option maxHeartbeats 4000000 in
theorem rmsg_ok {w : World} {b off n cap : Nat} {l : List Int} {m : Nat} (h : Row w (some ⟨b, off, none⟩) l) (hn : l.length = n) (hc : n ≤ cap) (h7 : n ≤ 70000) (hKn : n = 8 + m) (q : Mg)
    (e0 : l.getD 0 0 = q.typ) (e1 : l.getD 1 0 = q.code) (e2 : w16 l 2 = q.sum) (e4 : w32 l 4 = q.rest) (eb : (l.drop 8).take m = q.body) :
    Calls Tryz.prog 37 #[.slice (some ⟨b, off, none⟩) n cap] w fun r w' => ∃ v, r = .returned (.tuple #[v, .int .i64 0]) ∧ MgO w' w.heap.size v q ∧ Below w.heap.size w w' := by
  obtain ⟨X0, X1, X2, X4, bd⟩ := q
  simp only at e0 e1 e2 e4 eb
  have hln := h.len
  have hb : b < w.heap.size := cell_lt (h.cellAt 0 (by omega))
  have c0 : w.cell? ⟨b, off, none⟩ = some (.int .u8 X0) := by rw [← e0]; exact h.cellAt 0 (by omega)
  have c1 : w.cell? ⟨b, off + 1, none⟩ = some (.int .u8 X1) := by rw [← e1]; exact h.cellAt 1 (by omega)
  have hM := (Mem.nil w).push w.heap.size (.cells mg0 mgT) rfl
  have HM0 : Hid (Mem w (w.alloc (.cells mg0 mgT)) [(w.heap.size, .cells mg0 mgT)]) := hM
  have G2 : Hid (∀ W L, Mem w W L → Calls Tryz.prog 41 #[.slice (some ⟨b, off, none⟩) n cap, .int .i64 2] W fun e w' => e = .returned (.int .u16 X2) ∧ Mem w w' L) := fun W L hM => by
    rw [← e2]; exact get16_mem hM h 2 n cap hn (by omega)
  have G4 : Hid (∀ W L, Mem w W L → Calls Tryz.prog 70 #[.slice (some ⟨b, off, none⟩) n cap, .int .i64 4] W fun e w' => e = .returned (.int .u32 X4) ∧ Mem w w' L) := fun W L hM => by
    rw [← e4]; exact get32_mem hM h 4 n cap hn (by omega)
  have lb : bd.length = m := by rw [← eb]; simp; omega
  have T1 : Hid (∀ W L, Mem w W L → Calls Tryz.prog 66 #[.slice (some ⟨b, off, none⟩) n cap, .int .i64 8, .int .i64 (n : Int)] W fun e w' => ∃ ao co, e = .returned (.slice ao m co) ∧ w'.ownsRow W.heap.size 5 1 (.slice ao m co) m (bd.map (Value.int .u8)) ∧ Below W.heap.size W w' ∧ Mem w w' L) := fun W L hM => by
    have := cut_own hM h n cap 8 m hn hc (by omega) (by omega)
    rw [eb, ← hKn] at this
    exact this
  have HBd : Hid (IsBytes bd ∧ m ≤ 70000) := ⟨by rw [← eb]; exact bytes_part h.bytes _ _, by omega⟩
  have HP : Hid (bd.length = m) := lb
  have i0 : (0 : Int) < n := by omega
  have i0' : 0 < n := by omega
  have i1 : (1 : Int) < n := by omega
  have i8 : (8 : Int) ≤ n := by omega
  have hnl : (n : Int) ≤ 70000 := by omega
  have nb : w.heap.size ≠ b := by omega
  have nb' : b ≠ w.heap.size := by omega
  clear h hn hc h7 hKn e0 e1 e2 e4 eb hln hM lb
  go_enter Tryz.func37, Tryz.ntmps37
  go_upto_region 3 with fail
  refine wp_letter (fun W => Mem w W [(w.heap.size, .cells mg0 mgT)]) HM0.out ?_
  intro w1 hM1
  have HM1 : Hid _ := hM1.drew
  have d0 : w1.cell? ⟨b, off, none⟩ = some (.int .u8 X0) := (hM1.old hb).trans c0
  have d1 : w1.cell? ⟨b, off + 1, none⟩ = some (.int .u8 X1) := (hM1.old hb).trans c1
  clear hM1 HM0
  go_region_held3 (fun w' => w'.cell? ⟨b, off, none⟩ = some (.int .u8 X0) ∧ w'.cell? ⟨b, off + 1, none⟩ = some (.int .u8 X1))
    (first | go_keep | with_reducible exact ⟨(Mem.old (by with_reducible assumption) hb).trans c0, (Mem.old (by with_reducible assumption) hb).trans c1⟩)
    (first
      | (go_at_call 41; with_reducible refine (G2.out _ _ HM1.out).mono ?_; rintro e w2 ⟨rfl, hM2⟩)
      | (go_at_call 70; with_reducible refine (G4.out w2 _ hM2).mono ?_; rintro e w3 ⟨rfl, hM3⟩)
      | (go_at_call 66; with_reducible refine (T1.out w3 _ hM3).mono ?_; rintro e w4 ⟨bo, cb, rfl, own4, bel4, hM4⟩; have kr : ∀ i, w4.cell? ⟨w.heap.size, i, none⟩ = mg0[i]? := hM4.cell 0 rfl; have kf : ∀ i, w4.frozen? ⟨w.heap.size, i, none⟩ = false := hM4.free 0 rfl))
  have HO : Hid (w4.ownsRow (w.heap.size + 1) 5 1 (.slice bo m cb) m (bd.map (Value.int .u8))) := by
    have hl : w.heap.size < w3.heap.size := hM3.lt (p := (w.heap.size, _)) (List.mem_cons_self ..)
    exact own_base own4 hl
  have HM4 : Hid (Mem w w4 [(w.heap.size, .cells mg0 mgT)]) := hM4
  clear hM2 hM3 hM4 G2 G4 T1 own4 bel4
  go_wp2_with fail
  refine bodyPost_ret (v := .tuple #[.agg (mgA X0 X1 X2 X4 (.slice bo m cb)), .int .i64 0]) (by simp [results, Tryz.results37, go_sem, kr]) rfl ⟨_, rfl, ?_, ?_⟩
  · have p1 := HP.out
    refine ⟨bo, cb, by simp only [p1], ?_, HBd.out.1, by simp only [p1]; have := HBd.out.2; omega⟩
    simp only [p1]
    refine own_base (B := w.heap.size + 1) ?_ (Nat.le_succ _)
    iterate 5 (refine own_far ?_ (Nat.lt_succ_self _))
    exact HO.out
  · iterate 5 (refine below_set ?_ (Nat.le_refl _))
    exact HM4.out.below

/-- What lychref1.Icmp answers, whatever it is handed (up to 70000 bytes). -/
theorem rmsg_own {w : World} {a : Option Addr} {n c : Nat} {l : List Int} (hr : Row w a l) (hn : l.length = n) (hc : n ≤ c) (h7 : n ≤ 70000) :
    Calls Tryz.prog 37 #[.slice a n c] w fun r w' => ∃ v, r = .returned (.tuple #[v, .int .i64 (mgErr l)]) ∧ MgO w' w.heap.size v (mgRes l) ∧ Below w.heap.size w w' := by
  subst hn
  by_cases h1 : l.length < 8
  · rw [(mg_e20 h1).1, (mg_e20 h1).2]
    refine (rmsg_short a _ c w h1).mono ?_
    rintro r w' ⟨rfl, hb⟩
    exact ⟨_, rfl, mgo_zero _ _, hb⟩
  rcases hr.cells with e0 | ⟨b, off, rfl, -⟩
  · rw [e0] at h1; simp at h1
  rw [(mg_e0 h1).1, (mg_e0 h1).2]
  exact rmsg_ok (m := l.length - 8) hr rfl hc h7 (by omega) (mgMg l) rfl rfl rfl rfl rfl
theorem rmsg_any {w : World} {a : Option Addr} {n c : Nat} {l : List Int} (hr : Row w a l) (hn : l.length = n) (hc : n ≤ c) (h7 : n ≤ 70000) :
    Calls Tryz.prog 37 #[.slice a n c] w fun r w' => ∃ v, r = .returned (.tuple #[v, .int .i64 (mgErr l)]) ∧ MgV w' w.heap.size v (mgRes l) ∧ Below w.heap.size w w' := by
  refine (rmsg_own hr hn hc h7).mono ?_
  rintro r w' ⟨v, rfl, hv, hb⟩
  exact ⟨v, rfl, hv.v, hb⟩

end Go.Proofs.YtjalpbkfpjfigaaGreat

