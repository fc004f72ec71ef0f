/-
  What the document's own lychref1.Tcp answers, and lychhelp.Tcp over two segments that are the same.
-/
import Derived.Test.YtjalpbkfpjfigaaGreatTcpWords
import Derived.Test.YtjalpbkfpjfigaaGreatLong
namespace Go.Proofs.YtjalpbkfpjfigaaGreat
open Go.RowKit
open Sm
set_option linter.unusedVariables false

set_option maxHeartbeats 400000 in
theorem rtcp_short (a : Option Addr) (n cap : Nat) (w : World) (h : n < 20) :
    Calls Tryz.prog 34 #[.slice a n cap] w fun e w' => e = .returned (.tuple #[.agg tc0, .int .i64 20]) ∧ Below w.heap.size w w' := by
  have h' : (n : Int) < 20 := by omega
  go_enter Tryz.func34, Tryz.ntmps34
  go_wp2
  refine bodyPost_ret (v := .tuple #[.agg tc0, .int .i64 20]) (by simp [results, Tryz.results34, go_sem]) rfl ⟨rfl, ?_⟩
  exact (Below.refl _ _).alloc (Nat.le_refl _) _

set_option maxHeartbeats 1000000 in
theorem rtcp_no {w : World} {b off n cap : Nat} (x k : Nat) (c12 : w.cell? ⟨b, off + 12, none⟩ = some (.int .u8 x)) (hx : x ≤ 255) (hk : x / 16 = k) (h20 : 20 ≤ n) (hnl : n ≤ 140737488351232) (E : Int) (hE : (k < 5 ∧ E = 21) ∨ (5 ≤ k ∧ n < 4 * k ∧ E = 20)) :
    Calls Tryz.prog 34 #[.slice (some ⟨b, off, none⟩) n cap] w fun e w' => e = .returned (.tuple #[.agg tc0, .int .i64 E]) ∧ Below w.heap.size w w' := by
  have h20' : (20 : Int) ≤ n := by omega
  have h12 : (12 : Int) < n := by omega
  have hb : b < w.heap.size := cell_lt c12
  have hM := (Mem.nil w).push w.heap.size (.cells tc0 tcT) rfl
  have c12' : (w.alloc (.cells tc0 tcT)).cell? ⟨b, off + 12, none⟩ = some (.int .u8 x) := (hM.old hb).trans c12
  have hdv : (x : Int) / 16 = k := by omega
  have w1 : IntKind.i64.wrap (k : Int) = k := wrap64_small _ (by omega) (by omega)
  have w2 : IntKind.i64.wrap ((k : Int) * 4) = (k : Int) * 4 := wrap64_small _ (by omega) (by omega)
  clear hM c12
  rcases hE with ⟨h1, rfl⟩ | ⟨h1, h2, rfl⟩
  · have h1' : (k : Int) * 4 < 20 := by omega
    go_enter Tryz.func34, Tryz.ntmps34
    go_wp2_with fail
    refine bodyPost_ret (v := .tuple #[.agg tc0, .int .i64 21]) (by simp [results, Tryz.results34, go_sem]) rfl ⟨rfl, ?_⟩
    repeat (refine below_set ?_ (Nat.le_refl _))
    exact (Below.refl _ _).alloc (Nat.le_refl _) _
  · have h1' : (20 : Int) ≤ (k : Int) * 4 := by omega
    have h2' : (n : Int) < (k : Int) * 4 := by omega
    go_enter Tryz.func34, Tryz.ntmps34
    go_wp2_with fail
    refine bodyPost_ret (v := .tuple #[.agg tc0, .int .i64 20]) (by simp [results, Tryz.results34, go_sem]) rfl ⟨rfl, ?_⟩
    repeat (refine below_set ?_ (Nat.le_refl _))
    exact (Below.refl _ _).alloc (Nat.le_refl _) _

set_option maxRecDepth 20000 in
set_option maxHeartbeats 4000000 in
theorem rtcp_ok {w : World} {b off n cap : Nat} {l : List Int} {K o m : Nat} (h : Row w (some ⟨b, off, none⟩) l) (hn : l.length = n) (hc : n ≤ cap) (h7 : n ≤ 70000) (k : Nat) (hk : l.getD 12 0 / 16 = k) (hK : K = 4 * k) (hKo : K = 20 + o) (hKn : n = K + m) (q : Sg)
    (e0 : w16 l 0 = q.src) (e2 : w16 l 2 = q.dst) (e4 : w32 l 4 = q.seq) (e8 : w32 l 8 = q.ack) (e13 : l.getD 13 0 = q.flags) (e14 : w16 l 14 = q.win) (e16 : w16 l 16 = q.sum) (e18 : w16 l 18 = q.urg) (eo : (l.drop 20).take o = q.opts) (eb : (l.drop K).take m = q.body) :
    Calls Tryz.prog 34 #[.slice (some ⟨b, off, none⟩) n cap] w fun r w' => ∃ v, r = .returned (.tuple #[v, .int .i64 0]) ∧ TcV w' w.heap.size v q ∧ Below w.heap.size w w' := by
  obtain ⟨X0, X2, X4, X8, X13, X14, X16, X18, op, bd⟩ := q
  simp only at e0 e2 e4 e8 e13 e14 e16 e18 eo eb
  have hln := h.len
  have hb : b < w.heap.size := cell_lt (h.cellAt 0 (by omega))
  have r12 := h.bytes 12
  obtain ⟨x, hx⟩ : ∃ x : Nat, l.getD 12 0 = x := ⟨(l.getD 12 0).toNat, by omega⟩
  have c12 : w.cell? ⟨b, off + 12, none⟩ = some (.int .u8 x) := by rw [← hx]; exact h.cellAt 12 (by omega)
  have c13 : w.cell? ⟨b, off + 13, none⟩ = some (.int .u8 X13) := by rw [← e13]; exact h.cellAt 13 (by omega)
  have hM := (Mem.nil w).push w.heap.size (.cells tc0 tcT) rfl
  have c12' : (w.alloc (.cells tc0 tcT)).cell? ⟨b, off + 12, none⟩ = some (.int .u8 x) := (hM.old hb).trans c12
  have HM0 : Hid (Mem w (w.alloc (.cells tc0 tcT)) [(w.heap.size, .cells tc0 tcT)]) := hM
  rw [hx] at hk r12
  have hdv : (x : Int) / 16 = k := by omega
  have v1 : IntKind.i64.wrap (k : Int) = k := wrap64_small _ (by omega) (by omega)
  have v2 : IntKind.i64.wrap ((k : Int) * 4) = (k : Int) * 4 := wrap64_small _ (by omega) (by omega)
  have HK : Hid ((k : Int) * 4 = (K : Int)) := by show (k : Int) * 4 = (K : Int); omega
  have G : Hid (∀ W L, Mem w W L → ∀ (i : Nat) X, i + 1 < n → w16 l i = X → Calls Tryz.prog 41 #[.slice (some ⟨b, off, none⟩) n cap, .int .i64 i] W fun e w' => e = .returned (.int .u16 X) ∧ Mem w w' L) := fun W L hM i X hi hX => by
    rw [← hX]; exact get16_mem hM h i n cap hn hi
  have G4 : Hid (∀ W L, Mem w W L → Calls Tryz.prog 70 #[.slice (some ⟨b, off, none⟩) n cap, .int .i64 4] W fun e w' => e = .returned (.int .u32 X4) ∧ Mem w w' L) := fun W L hM => by
    rw [← e4]; exact get32_mem hM h 4 n cap hn (by omega)
  have G8 : Hid (∀ W L, Mem w W L → Calls Tryz.prog 70 #[.slice (some ⟨b, off, none⟩) n cap, .int .i64 8] W fun e w' => e = .returned (.int .u32 X8) ∧ Mem w w' L) := fun W L hM => by
    rw [← e8]; exact get32_mem hM h 8 n cap hn (by omega)
  have G0 : Hid (∀ W L, Mem w W L → Calls Tryz.prog 41 #[.slice (some ⟨b, off, none⟩) n cap, .int .i64 0] W fun e w' => e = .returned (.int .u16 X0) ∧ Mem w w' L) := fun W L hM => G.out W L hM 0 X0 (by omega) e0
  have G2 : Hid (∀ W L, Mem w W L → Calls Tryz.prog 41 #[.slice (some ⟨b, off, none⟩) n cap, .int .i64 2] W fun e w' => e = .returned (.int .u16 X2) ∧ Mem w w' L) := fun W L hM => G.out W L hM 2 X2 (by omega) e2
  have G14 : Hid (∀ W L, Mem w W L → Calls Tryz.prog 41 #[.slice (some ⟨b, off, none⟩) n cap, .int .i64 14] W fun e w' => e = .returned (.int .u16 X14) ∧ Mem w w' L) := fun W L hM => G.out W L hM 14 X14 (by omega) e14
  have G16 : Hid (∀ W L, Mem w W L → Calls Tryz.prog 41 #[.slice (some ⟨b, off, none⟩) n cap, .int .i64 16] W fun e w' => e = .returned (.int .u16 X16) ∧ Mem w w' L) := fun W L hM => G.out W L hM 16 X16 (by omega) e16
  have G18 : Hid (∀ W L, Mem w W L → Calls Tryz.prog 41 #[.slice (some ⟨b, off, none⟩) n cap, .int .i64 18] W fun e w' => e = .returned (.int .u16 X18) ∧ Mem w w' L) := fun W L hM => G.out W L hM 18 X18 (by omega) e18
  have lo : op.length = o := by rw [← eo]; simp; omega
  have lb : bd.length = m := by rw [← eb]; simp; omega
  have T1 : Hid (∀ W L, Mem w W L → Calls Tryz.prog 66 #[.slice (some ⟨b, off, none⟩) n cap, .int .i64 20, .int .i64 (K : Int)] W fun e w' => ∃ ao co, e = .returned (.slice ao o co) ∧ Row w' ao op ∧ (ao = none → co = 0) ∧ (∀ x, ao = some x → W.heap.size ≤ x.block) ∧ Below W.heap.size W w' ∧ Mem w w' L) := fun W L hM => by
    have := cut_mem hM h n cap 20 o hn hc (by omega) (by omega)
    rw [eo, ← hKo] at this
    exact this
  have T2 : Hid (∀ W L, Mem w W L → Calls Tryz.prog 66 #[.slice (some ⟨b, off, none⟩) n cap, .int .i64 (K : Int), .int .i64 (n : Int)] W fun e w' => ∃ ao co, e = .returned (.slice ao m co) ∧ Row w' ao bd ∧ (ao = none → co = 0) ∧ (∀ x, ao = some x → W.heap.size ≤ x.block) ∧ Below W.heap.size W w' ∧ Mem w w' L) := fun W L hM => by
    have := cut_mem hM h n cap K m hn hc (by omega) (by omega)
    rw [eb, ← hKn] at this
    exact this
  have HP : Hid (op.length = o ∧ bd.length = m) := ⟨lo, lb⟩
  have i12 : (12 : Int) < n := by omega
  have i13 : (13 : Int) < n := by omega
  have i20 : (20 : Int) ≤ n := by omega
  have nb1 : (20 : Int) ≤ K := by omega
  have nb2 : (K : Int) ≤ n := by omega
  have hnl : (n : Int) ≤ 70000 := by omega
  have nb : w.heap.size ≠ b := by omega
  have nb' : b ≠ w.heap.size := by omega
  clear G h hn hc h7 hk hK hKo hKn e0 e2 e4 e8 e13 e14 e16 e18 eo eb hln hx c12 r12 hM lo lb
  go_enter Tryz.func34, Tryz.ntmps34
  go_upto_region 3 with fail
  go_cut [4] from 5 (fun s4 wx => s4 = .int .i64 (K : Int) ∧ wx = w.alloc (.cells tc0 tcT))
  case first =>
    go_wp2_with fail
    go_meet
    case rel => exact ⟨by rw [← HK.out], rfl⟩
  case rest =>
  obtain ⟨rfl, rfl⟩ := hcut
  clear c12' hdv v1 v2 HK
  go_upto_region 8 with fail
  refine wp_letter (fun W => Mem w W [(w.heap.size, .cells tc0 tcT)]) HM0.out ?_
  intro w1 hM1
  have HM1 : Hid _ := hM1.drew
  have d13 : w1.cell? ⟨b, off + 13, none⟩ = some (.int .u8 X13) := (hM1.old hb).trans c13
  clear hM1 HM0
  go_region_held3 (fun w' => w'.cell? ⟨b, off + 13, none⟩ = some (.int .u8 X13))
    (first | go_keep | with_reducible exact (Mem.old (by with_reducible assumption) hb).trans c13)
    (first
      | (go_at_call 41; with_reducible refine (G0.out _ _ HM1.out).mono ?_; rintro e w2 ⟨rfl, hM2⟩)
      | (go_at_call 41; with_reducible refine (G2.out w2 _ hM2).mono ?_; rintro e w3 ⟨rfl, hM3⟩)
      | (go_at_call 70; with_reducible refine (G4.out w3 _ hM3).mono ?_; rintro e w4 ⟨rfl, hM4⟩)
      | (go_at_call 70; with_reducible refine (G8.out w4 _ hM4).mono ?_; rintro e w5 ⟨rfl, hM5⟩)
      | (go_at_call 41; with_reducible refine (G14.out w5 _ hM5).mono ?_; rintro e w6 ⟨rfl, hM6⟩)
      | (go_at_call 41; with_reducible refine (G16.out w6 _ hM6).mono ?_; rintro e w7 ⟨rfl, hM7⟩)
      | (go_at_call 41; with_reducible refine (G18.out w7 _ hM7).mono ?_; rintro e w8 ⟨rfl, hM8⟩)
      | (go_at_call 66; with_reducible refine (T1.out w8 _ hM8).mono ?_; rintro e w9 ⟨ao, co, rfl, ro9, nil9, far9, bel9, hM9⟩)
      | (go_at_call 66; with_reducible refine (T2.out w9 _ hM9).mono ?_; rintro e w10 ⟨bo, cb, rfl, rb10, nil10, far10, bel10, hM10⟩; have kr : ∀ i, w10.cell? ⟨w.heap.size, i, none⟩ = tc0[i]? := hM10.cell 0 rfl; have kf : ∀ i, w10.frozen? ⟨w.heap.size, i, none⟩ = false := hM10.free 0 rfl))
  have HO8 : Hid (Row w10 ao op ∧ (ao = none → co = 0) ∧ (∀ x, ao = some x → w.heap.size + 1 ≤ x.block)) := by
    have hl : w.heap.size < w8.heap.size := hM8.lt (p := (w.heap.size, _)) (List.mem_cons_self ..)
    exact ⟨ro9.below bel10 (Nat.le_refl _), nil9, fun x hx => by have := far9 x hx; omega⟩
  have HO9 : Hid (Row w10 bo bd ∧ (bo = none → cb = 0) ∧ (∀ x, bo = some x → w.heap.size + 1 ≤ x.block)) := by
    have hl : w.heap.size < w9.heap.size := hM9.lt (p := (w.heap.size, _)) (List.mem_cons_self ..)
    exact ⟨rb10, nil10, fun x hx => by have := far10 x hx; omega⟩
  have HM10 : Hid (Mem w w10 [(w.heap.size, .cells tc0 tcT)]) := hM10
  clear hM2 hM3 hM4 hM5 hM6 hM7 hM8 hM9 hM10 G0 G2 G4 G8 G14 G16 G18 T1 T2 ro9 nil9 far9 bel9 rb10 nil10 far10 bel10
  go_wp2_with fail
  refine bodyPost_ret (v := .tuple #[.agg (tcA X0 X2 X4 X8 X13 X14 X16 X18 (.slice ao o co) (.slice bo m cb)), .int .i64 0]) (by simp [results, Tryz.results34, go_sem, kr]) rfl ⟨_, rfl, ?_, ?_⟩
  · obtain ⟨p1, p2⟩ := HP.out
    obtain ⟨a1, a2, a3⟩ := HO8.out
    obtain ⟨b1, b2, b3⟩ := HO9.out
    have z1 : ∀ x, ao = some x → w.heap.size ≠ x.block := fun x hx => by have := a3 x hx; omega
    have z2 : ∀ x, bo = some x → w.heap.size ≠ x.block := fun x hx => by have := b3 x hx; omega
    refine ⟨ao, co, bo, cb, ?_, ?_, ?_, a2, b2, fun x hx => by have := a3 x hx; omega, fun x hx => by have := b3 x hx; omega⟩
    · simp only [p1, p2]
    · iterate 10 (refine Row.far ?_ z1)
      exact a1
    · iterate 10 (refine Row.far ?_ z2)
      exact b1
  · iterate 10 (refine below_set ?_ (Nat.le_refl _))
    exact HM10.out.below

end Go.Proofs.YtjalpbkfpjfigaaGreat
