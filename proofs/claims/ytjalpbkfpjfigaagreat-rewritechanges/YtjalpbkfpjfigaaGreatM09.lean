/-
  What udp.Parse answers: the document's datagram with a body of the call's own, or the error.
  What icmp.word, icmp.long answer and icmp.putWord, icmp.putLong write; a value that is a message.
-/
import Derived.Test.YtjalpbkfpjfigaaGreatM07
import Derived.Test.YtjalpbkfpjfigaaGreatM08
namespace Go.Proofs.YtjalpbkfpjfigaaGreat
open Go.RowKit
open Sm
set_option linter.unusedVariables false

abbrev udT : TypeId := 73
abbrev udA (s d c : Int) (b : Value) : Array Value := #[.int .u16 s, .int .u16 d, .int .u16 c, b]
abbrev ud0 : Array Value := udA 0 0 0 (.slice none 0 0)

/-- A value that is the datagram u, its body behind base B. -/
def UdV (w : World) (B : Nat) (v : Value) (u : Dg) : Prop :=
  ∃ bo cb, v = .agg (udA u.src u.dst u.sum (.slice bo u.body.length cb)) ∧ Row w bo u.body ∧ (bo = none → cb = 0) ∧ (∀ x, bo = some x → B ≤ x.block)
theorem UdV.below {w w' : World} {C : Nat} {v : Value} {u : Dg} (h : UdV w C v u) {B : Nat} (hb : Below B w w') (hB : w.heap.size ≤ B) : UdV w' C v u := by
  obtain ⟨bo, cb, e, h1, h2⟩ := h
  exact ⟨bo, cb, e, h1.below hb hB, h2⟩
theorem UdV.mono {w : World} {C D : Nat} {v : Value} {u : Dg} (h : UdV w C v u) (hD : D ≤ C) : UdV w D v u := by
  obtain ⟨bo, cb, e, h1, h2, h3⟩ := h
  exact ⟨bo, cb, e, h1, h2, fun x hx => Nat.le_trans hD (h3 x hx)⟩
theorem udv_zero (w : World) (B : Nat) : UdV w B (.agg ud0) Dg.zero := ⟨none, 0, rfl, row_nil w, fun _ => rfl, fun x hx => (by cases hx)⟩

set_option maxHeartbeats 400000 in
theorem uword_cells {w : World} {b j : Nat} (x y : Int) (c0 : w.cell? ⟨b, j, none⟩ = some (.int .u8 x)) (c1 : w.cell? ⟨b, j + 1, none⟩ = some (.int .u8 y)) (r0 : 0 ≤ x) (r1 : x ≤ 255) (r2 : 0 ≤ y) (r3 : y ≤ 255) (c : Nat) :
    Calls Tryz.prog 104 #[.slice (some ⟨b, j, none⟩) 2 c] w fun e w' => e = .returned (.int .u16 (x * 256 + y)) ∧ ∃ q, w' = w.drewN q := by
  have hor := sm_word x y r0 r1 r2 r3
  have w0 := wrap16_small x r0 (by omega)
  have w1 := wrap16_small y r2 (by omega)
  have w2 := wrap16_small (x * 256) (by omega) (by omega)
  go_enter Tryz.func104, Tryz.ntmps104
  go_wp2
  go_quiet (fail)
  go_wp2
  go_ret
  exact ⟨rfl, _, rfl⟩

theorem uword_at {w : World} {b off : Nat} {l : List Int} (h : Row w (some ⟨b, off, none⟩) l) (j k : Nat) (hk : k = off + j) (hj : j + 1 < l.length) (X : Int) (hX : w16 l j = X) (c : Nat) :
    Calls Tryz.prog 104 #[.slice (some ⟨b, k, none⟩) 2 c] w fun e w' => e = .returned (.int .u16 X) ∧ ∃ q, w' = w.drewN q := by
  subst hk hX
  have b0 := h.bytes j
  have b1 := h.bytes (j + 1)
  exact uword_cells _ _ (h.cellAt j (by omega)) (by rw [Nat.add_assoc]; exact h.cellAt (j + 1) hj) b0.1 b0.2 b1.1 b1.2 c

set_option maxHeartbeats 400000 in
theorem uparse_short (a : Option Addr) (n cap : Nat) (w : World) (h : n < 8) :
    Calls Tryz.prog 76 #[.slice a n cap] w fun e w' => e = .returned (.tuple #[.agg ud0, .int .i64 20]) ∧ Below w.heap.size w w' := by
  have h' : (n : Int) < 8 := by omega
  go_enter Tryz.func76, Tryz.ntmps76
  go_wp2
  refine bodyPost_ret (v := .tuple #[.agg ud0, .int .i64 20]) (by simp [results, Tryz.results76, go_sem]) rfl ⟨rfl, ?_⟩
  exact (Below.refl _ _).alloc (Nat.le_refl _) _

set_option maxHeartbeats 400000 in
theorem uparse_no {w : World} {b off n cap : Nat} {l : List Int} (h : Row w (some ⟨b, off, none⟩) l) (hn : l.length = n) (hc : n ≤ cap) (h8 : 8 ≤ n) (K : Nat) (hK : w16 l 4 = K) (E : Int) (hE : (K < 8 ∧ E = 21) ∨ (8 ≤ K ∧ n < K ∧ E = 20)) :
    Calls Tryz.prog 76 #[.slice (some ⟨b, off, none⟩) n cap] w fun e w' => e = .returned (.tuple #[.agg ud0, .int .i64 E]) ∧ Below w.heap.size w w' := by
  have h8' : (8 : Int) ≤ n := by omega
  have hc6 : (6 : Int) ≤ cap := by omega
  have hKb := w16_range h.bytes 4
  have hKi : (K : Int) ≤ 65535 := by omega
  have hw := uword_at (w := w.alloc (.cells ud0 udT)) (row_alloc h) 4 (off + 4) rfl (by omega) K hK 2
  have hnl := h.len
  have hnl' : (n : Int) ≤ 140737488351232 := by omega
  clear h hn hc hKb hnl
  rcases hE with ⟨h1, rfl⟩ | ⟨h1, h2, rfl⟩
  · have h1' : (K : Int) < 8 := by omega
    go_enter Tryz.func76, Tryz.ntmps76
    go_wp2_with fail
    refine hw.mono ?_
    rintro e w' ⟨rfl, q, rfl⟩
    go_wp2_with fail
    refine bodyPost_ret (v := .tuple #[.agg ud0, .int .i64 21]) (by simp [results, Tryz.results76, go_sem]) rfl ⟨rfl, ?_⟩
    repeat (refine below_set ?_ (Nat.le_refl _))
    exact below_drewN ((Below.refl _ _).alloc (Nat.le_refl _) _) _
  · have h1' : (8 : Int) ≤ K := by omega
    have h2' : (n : Int) < K := by omega
    go_enter Tryz.func76, Tryz.ntmps76
    go_wp2_with fail
    refine hw.mono ?_
    rintro e w' ⟨rfl, q, rfl⟩
    go_wp2_with fail
    refine bodyPost_ret (v := .tuple #[.agg ud0, .int .i64 20]) (by simp [results, Tryz.results76, go_sem]) rfl ⟨rfl, ?_⟩
    repeat (refine below_set ?_ (Nat.le_refl _))
    exact below_drewN ((Below.refl _ _).alloc (Nat.le_refl _) _) _

set_option maxHeartbeats 2000000 in
theorem uparse_ok {w : World} {b off n cap : Nat} {l : List Int} (h : Row w (some ⟨b, off, none⟩) l) (hn : l.length = n) (hc : n ≤ cap) (K m : Nat) (hK : w16 l 4 = K) (h8 : K = m + 8) (hKn : K ≤ n) (X0 X2 X6 : Int) (e0 : w16 l 0 = X0) (e2 : w16 l 2 = X2) (e6 : w16 l 6 = X6) (body : List Int) (hbd : (l.drop 8).take m = body) :
    Calls Tryz.prog 76 #[.slice (some ⟨b, off, none⟩) n cap] w fun e w' => ∃ g, e = .returned (.tuple #[.agg (udA X0 X2 X6 (.slice (some ⟨g, 0, none⟩) m m)), .int .i64 0]) ∧ Row w' (some ⟨g, 0, none⟩) body ∧ w.heap.size ≤ g ∧ Below w.heap.size w w' := by
  have h8' : (8 : Int) ≤ n := by omega
  have hc2 : (2 : Int) ≤ cap := by omega
  have hc4 : (4 : Int) ≤ cap := by omega
  have hc6 : (6 : Int) ≤ cap := by omega
  have hc8 : (8 : Int) ≤ cap := by omega
  have hKb := w16_range h.bytes 4
  have hKi : (K : Int) ≤ 65535 := by omega
  have hK8 : (8 : Int) ≤ K := by omega
  have hKn' : (K : Int) ≤ n := by omega
  have hKc : (K : Int) ≤ cap := by omega
  have hKm : K - 8 = m := by omega
  have hw := uword_at (w := w.alloc (.cells ud0 udT)) (row_alloc h) 4 (off + 4) rfl (by omega) K hK 2
  have hnl := h.len
  have hnl' : (n : Int) ≤ 140737488351232 := by omega
  have hbl : body.length = m := by rw [← hbd]; simp; omega
  have hmk := make_bytes m (by omega)
  have hmb : m ≤ 65527 := by omega
  have HR : Hid (Row w (some ⟨b, off, none⟩) l ∧ 8 ≤ l.length ∧ 8 + m ≤ l.length) := ⟨h, by omega, by omega⟩
  have HE : Hid (w16 l 0 = X0 ∧ w16 l 2 = X2 ∧ w16 l 6 = X6 ∧ (l.drop 8).take m = body ∧ body.length = m ∧ K = m + 8) := ⟨e0, e2, e6, hbd, hbl, h8⟩
  clear h hn hc hKb hnl e0 e2 e6 hbd hbl h8 hKn hK
  go_enter Tryz.func76, Tryz.ntmps76
  go_wp2_with fail
  refine hw.mono ?_
  rintro e w' ⟨rfl, q, rfl⟩
  have HM0 : Hid (Mem w ((w.alloc (.cells ud0 udT)).drewN q) [(w.heap.size, .cells ud0 udT)]) := ((Mem.nil w).push w.heap.size (.cells ud0 udT) rfl).drewN q
  clear hw
  generalize (w.alloc (.cells ud0 udT)).drewN q = w1 at *
  go_upto_region 8 with fail
  go_cut [0, 5] from 7 (fun s0 s5 wx => s0 = .slice (some ⟨b, off, none⟩) n cap ∧ ∃ so, s5 = .slice (some ⟨b, so, none⟩) m m ∧ (m = 0 ∨ so = off + 8) ∧ Mem w wx [(w.heap.size, .cells ud0 udT)])
  case first =>
    by_cases hm0 : m = 0
    · have hK3 : K = 8 := by have := HE.out; omega
      go_wp2_with fail
      go_meet
      case rel => exact ⟨rfl, off, by simp [hm0], Or.inl hm0, HM0.out⟩
    · have hK3 : (8 : Int) < K := by have := HE.out; omega
      have hK4 : ¬ K = 8 := by omega
      go_wp2_with fail
      go_meet
      case rel => exact ⟨rfl, _, rfl, Or.inr rfl, HM0.out⟩
  case rest =>
  obtain ⟨rfl, so, rfl, hso, hM1⟩ := hcut
  have HM1 : Hid _ := hM1
  have hS : Row wc (some ⟨b, off, none⟩) l := hM1.row HR.out.1
  clear hM1 HM0
  have D1 : ∀ (u : World) (k : Nat) (o : Obj), (u.drewN k).alloc o = (u.alloc o).drewN k := fun _ _ _ => rfl
  have D2 : ∀ (u : World) (k : Nat) (p : Addr) (v : Value), (u.drewN k).setCell p v = (u.setCell p v).drewN k := fun _ _ _ _ => rfl
  go_upto_region 9 with fail
  go_cut [6] from 7 (fun s6 wx => ∃ gm gu, s6 = .pointer (some ⟨gu, 0, none⟩) ∧ Mem w wx [(w.heap.size, .cells ud0 udT), (gm, .cells (madeCells #[.int .u8 0] m) 5), (gu, .cells (udA X0 X2 X6 (.slice (some ⟨gm, 0, none⟩) m m)) udT)])
  case first =>
    go_region_held3 (fun w' => Row w' (some ⟨b, off, none⟩) l) (repeat (first | assumption | refine row_alloc ?_ | refine row_drewN ?_ | refine row_drew ?_))
      (first
        | (go_at_call 104; with_reducible refine (uword_at (by assumption) 0 off rfl (by have := HR.out; omega) X0 HE.out.1 2).mono ?_; rintro e w5 ⟨rfl, q5, rfl⟩)
        | (go_at_call 104; with_reducible refine (uword_at (by assumption) 2 (off + 2) rfl (by have := HR.out; omega) X2 HE.out.2.1 2).mono ?_; rintro e w5 ⟨rfl, q5, rfl⟩)
        | (go_at_call 104; with_reducible refine (uword_at (by assumption) 6 (off + 6) rfl (by have := HR.out; omega) X6 HE.out.2.2.1 2).mono ?_; rintro e w5 ⟨rfl, q5, rfl⟩))
    all_goals
      go_wp2_with fail
      go_meet
      case rel => first
        | exact ⟨wc.heap.size, wc.heap.size + 1, rfl, ((HM1.out.push2 rfl).push3 (by simp)).drewN _⟩
        | exact ⟨wc.heap.size + 1, wc.heap.size, rfl, (((HM1.out.push2 rfl).push3 (by simp)).perm ((List.Perm.swap _ _ _).cons _)).drewN _⟩
  case rest =>
  clear HM1 hS D1 D2
  obtain ⟨gm, gu, rfl, hM2⟩ := hcut
  have HM2 : Hid _ := hM2
  have k3 : wc.cell? ⟨gu, 3, none⟩ = some (.slice (some ⟨gm, 0, none⟩) m m) := hM2.cell 2 rfl 3
  clear hM2
  go_upto_region 10 with fail
  go_cut [] from 7 (fun wx => Mem w wx [(w.heap.size, .cells ud0 udT), (gm, .cells (bs body) 5), (gu, .cells (udA X0 X2 X6 (.slice (some ⟨gm, 0, none⟩) m m)) udT)])
  case first =>
    have HS : Hid (0 < body.length → some (⟨gm, 0, none⟩ : Addr) = some ⟨gm, 0, none⟩ ∧ ∃ ad, some (⟨b, so, none⟩ : Addr) = some ad ∧ ∀ j v, (body.map (Value.int .u8))[j]? = some v → wc.cell? (ad.add j) = some v) := by
      intro hp
      have hm' := HE.out
      obtain rfl : so = off + 8 := by rcases hso with e | e <;> omega
      refine ⟨rfl, _, rfl, ?_⟩
      have hr := HM2.out.row (HR.out.1.part 8 m (by have := HR.out; omega))
      rw [hm'.2.2.2.1] at hr
      exact hr.news
    obtain ⟨w5, hr5, hw5⟩ := copy_bytes wc 3 (some ⟨gm, 0, none⟩) (some ⟨b, so, none⟩) m m m m gm 0 _ _ 5 (HM2.out.get 1 rfl) body (by rw [HE.out.2.2.2.2.1]; exact (Nat.min_self m).symm) HS.out (by rw [HE.out.2.2.2.2.1, size_madeCells]; omega) (made_new m body HE.out.2.2.2.2.1)
    go_wp2_with fail
    go_meet
    case rel => exact HM2.out.wrote 1 rfl hw5
  case rest =>
  have HM5 : Hid _ := hcut
  have kc : ∀ i, wc.cell? ⟨gu, i, none⟩ = (udA X0 X2 X6 (.slice (some ⟨gm, 0, none⟩) m m))[i]? := hcut.cell 2 rfl
  have kr : ∀ i, wc.cell? ⟨w.heap.size, i, none⟩ = ud0[i]? := hcut.cell 0 rfl
  have kf : ∀ i, wc.frozen? ⟨w.heap.size, i, none⟩ = false := hcut.free 0 rfl
  clear hcut HM2 k3
  go_wp2_with fail
  refine bodyPost_ret (v := .tuple #[.agg (udA X0 X2 X6 (.slice (some ⟨gm, 0, none⟩) m m)), .int .i64 0]) (by simp [results, Tryz.results76, go_sem, kr]) rfl ⟨gm, rfl, ?_, HM5.out.ge 1 rfl, ?_⟩
  · have hne := HM5.out.ne 0 1 rfl rfl (by decide)
    have hb' : IsBytes body := by rw [← HE.out.2.2.2.1]; exact bytes_part HR.out.1.bytes _ _
    repeat (refine Row.setCell ?_ hne _)
    exact HM5.out.own 1 rfl hb' (by rw [HE.out.2.2.2.2.1]; omega)
  · iterate 4 (refine below_set ?_ (Nat.le_refl _))
    exact HM5.out.below

/-- What udp.Parse answers, whatever it is handed. -/
theorem uparse_any {w : World} {a : Option Addr} {n c : Nat} {l : List Int} (hr : Row w a l) (hn : l.length = n) (hc : n ≤ c) :
    Calls Tryz.prog 76 #[.slice a n c] w fun r w' => ∃ v, r = .returned (.tuple #[v, .int .i64 (udErr l)]) ∧ UdV w' w.heap.size v (udRes l) ∧ Below w.heap.size w w' := by
  subst hn
  by_cases h1 : l.length < 8
  · have e : udErr l = 20 := by unfold udErr; rw [if_pos h1]
    rw [e, show udRes l = Dg.zero from if_neg (by rw [e]; decide)]
    refine (uparse_short a _ c w h1).mono ?_
    rintro r w' ⟨rfl, hb⟩
    exact ⟨_, rfl, udv_zero _ _, hb⟩
  rcases hr.cells with e0 | ⟨b, off, rfl, -⟩
  · rw [e0] at h1; simp at h1
  have hw := w16_range hr.bytes 4
  have hk : w16 l 4 = (ulen l : Nat) := by unfold ulen; omega
  by_cases h2 : ulen l < 8
  · have e : udErr l = 21 := by unfold udErr; rw [if_neg h1, if_pos h2]
    rw [e, show udRes l = Dg.zero from if_neg (by rw [e]; decide)]
    refine (uparse_no hr rfl hc (by omega) (ulen l) hk 21 (Or.inl ⟨h2, rfl⟩)).mono ?_
    rintro r w' ⟨rfl, hb⟩
    exact ⟨_, rfl, udv_zero _ _, hb⟩
  by_cases h3 : l.length < ulen l
  · have e : udErr l = 20 := by unfold udErr; rw [if_neg h1, if_neg h2, if_pos h3]
    rw [e, show udRes l = Dg.zero from if_neg (by rw [e]; decide)]
    refine (uparse_no hr rfl hc (by omega) (ulen l) hk 20 (Or.inr ⟨by omega, h3, rfl⟩)).mono ?_
    rintro r w' ⟨rfl, hb⟩
    exact ⟨_, rfl, udv_zero _ _, hb⟩
  · have e : udErr l = 0 := by unfold udErr; rw [if_neg h1, if_neg h2, if_neg h3]
    rw [e, show udRes l = udDg l from if_pos e]
    have hl : ((l.drop 8).take (ulen l - 8)).length = ulen l - 8 := by simp; omega
    refine (uparse_ok hr rfl hc (ulen l) (ulen l - 8) hk (by omega) (by omega) _ _ _ rfl rfl rfl _ rfl).mono ?_
    rintro r w' ⟨g, rfl, hrow, hg, hb⟩
    exact ⟨_, rfl, ⟨some ⟨g, 0, none⟩, ulen l - 8, by simp only [udDg]; rw [hl], hrow, fun e => (by cases e), fun x hx => (by cases hx; exact hg)⟩, hb⟩
end Go.Proofs.YtjalpbkfpjfigaaGreat

namespace Go.Proofs.YtjalpbkfpjfigaaGreat
open Go.RowKit
open Sm
set_option linter.unusedVariables false

abbrev mgT : TypeId := 61
abbrev mgA (t k c r : Int) (b : Value) : Array Value := #[.int .u8 t, .int .u8 k, .int .u16 c, .int .u32 r, b]
abbrev mg0 : Array Value := mgA 0 0 0 0 (.slice none 0 0)

/-- A value that is the message q, its body behind base B. -/
def MgV (w : World) (B : Nat) (v : Value) (q : Mg) : Prop :=
  ∃ bo cb, v = .agg (mgA q.typ q.code q.sum q.rest (.slice bo q.body.length cb)) ∧ Row w bo q.body ∧ (bo = none → cb = 0) ∧ (∀ x, bo = some x → B ≤ x.block)
theorem MgV.below {w w' : World} {C : Nat} {v : Value} {q : Mg} (h : MgV w C v q) {B : Nat} (hb : Below B w w') (hB : w.heap.size ≤ B) : MgV w' C v q := by
  obtain ⟨bo, cb, e, h1, h2⟩ := h
  exact ⟨bo, cb, e, h1.below hb hB, h2⟩
theorem MgV.mono {w : World} {C D : Nat} {v : Value} {q : Mg} (h : MgV w C v q) (hD : D ≤ C) : MgV w D v q := by
  obtain ⟨bo, cb, e, h1, h2, h3⟩ := h
  exact ⟨bo, cb, e, h1, h2, fun x hx => Nat.le_trans hD (h3 x hx)⟩
theorem mgv_zero (w : World) (B : Nat) : MgV w B (.agg mg0) Mg.zero := ⟨none, 0, rfl, row_nil w, fun _ => rfl, fun x hx => (by cases hx)⟩

set_option maxHeartbeats 400000 in
theorem mword_cells {w : World} {b j : Nat} (x y : Int) (c0 : w.cell? ⟨b, j, none⟩ = some (.int .u8 x)) (c1 : w.cell? ⟨b, j + 1, none⟩ = some (.int .u8 y)) (r0 : 0 ≤ x) (r1 : x ≤ 255) (r2 : 0 ≤ y) (r3 : y ≤ 255) (c : Nat) :
    Calls Tryz.prog 108 #[.slice (some ⟨b, j, none⟩) 2 c] w fun e w' => e = .returned (.int .u16 (x * 256 + y)) ∧ ∃ q, w' = w.drewN q := by
  have hor := sm_word x y r0 r1 r2 r3
  have w0 := wrap16_small x r0 (by omega)
  have w1 := wrap16_small y r2 (by omega)
  have w2 := wrap16_small (x * 256) (by omega) (by omega)
  go_enter Tryz.func108, Tryz.ntmps108
  go_wp2
  go_quiet (fail)
  go_wp2
  go_ret
  exact ⟨rfl, _, rfl⟩

theorem mword_at {w : World} {b off : Nat} {l : List Int} (h : Row w (some ⟨b, off, none⟩) l) (j k : Nat) (hk : k = off + j) (hj : j + 1 < l.length) (X : Int) (hX : w16 l j = X) (c : Nat) :
    Calls Tryz.prog 108 #[.slice (some ⟨b, k, none⟩) 2 c] w fun e w' => e = .returned (.int .u16 X) ∧ ∃ q, w' = w.drewN q := by
  subst hk hX
  have b0 := h.bytes j
  have b1 := h.bytes (j + 1)
  exact mword_cells _ _ (h.cellAt j (by omega)) (by rw [Nat.add_assoc]; exact h.cellAt (j + 1) hj) b0.1 b0.2 b1.1 b1.2 c

set_option maxHeartbeats 1000000 in
theorem mlong_at {w : World} {b off : Nat} {l : List Int} (h : Row w (some ⟨b, off, none⟩) l) (j k : Nat) (hk : k = off + j) (hj : j + 3 < l.length) (X : Int) (hX : w32 l j = X) (c : Nat) (hc4 : (4 : Int) ≤ c) :
    Calls Tryz.prog 109 #[.slice (some ⟨b, k, none⟩) 4 c] w fun e w' => e = .returned (.int .u32 X) ∧ ∃ q, w' = w.drewN q := by
  have ra := w16_range h.bytes j
  have rb := w16_range h.bytes (j + 2)
  have c1 := fun W C (hW : Row W (some ⟨b, off, none⟩) l) => mword_at hW j k hk (by omega) _ rfl C
  have c2 := fun W C (hW : Row W (some ⟨b, off, none⟩) l) => mword_at hW (j + 2) (k + 2) (by omega) (by omega) _ rfl C
  have hor := sm_long _ _ ra.1 ra.2 rb.1 rb.2
  have w0 := wrap32_small (w16 l j) (by omega) (by omega)
  have w1 := wrap32_small (w16 l (j + 2)) (by omega) (by omega)
  have w2 := wrap32_small (w16 l j * 65536) (by omega) (by omega)
  have HE : Hid (w16 l j * 65536 + w16 l (j + 2) = X) := hX
  have hc2 : (2 : Int) ≤ c := by omega
  generalize w16 l j = X1 at *
  generalize w16 l (j + 2) = X2 at *
  have C1 : Hid _ := c1
  have C2 : Hid _ := c2
  clear c1 c2 hX ra rb hk hj
  go_enter Tryz.func109, Tryz.ntmps109
  go_wp2_with fail
  go_region_held3 (fun w' => Row w' (some ⟨b, off, none⟩) l) (repeat (first | assumption | refine row_drewN ?_ | refine row_drew ?_))
    (first
      | (go_at_call 108; with_reducible refine (C1.out _ _ (by assumption)).mono ?_; rintro e w5 ⟨rfl, q5, rfl⟩)
      | (go_at_call 108; with_reducible refine (C2.out _ _ (by assumption)).mono ?_; rintro e w6 ⟨rfl, q6, rfl⟩))
  all_goals
    go_wp2_with fail
    go_ret
    exact ⟨by rw [← HE.out] <;> rfl, _, rfl⟩

set_option maxHeartbeats 1000000 in
theorem mput_ok {W : World} {g j : Nat} (z0 z1 : Int) (k0 : W.cell? ⟨g, j, none⟩ = some (.int .u8 z0)) (k1 : W.cell? ⟨g, j + 1, none⟩ = some (.int .u8 z1)) (kf : ∀ i, W.frozen? ⟨g, i, none⟩ = false) (c : Nat) (x : Int) (r0 : 0 ≤ x) (r1 : x ≤ 65535) :
    Calls Tryz.prog 115 #[.slice (some ⟨g, j, none⟩) 2 c, .int .u16 x] W fun e w' => e = .returned (.tuple #[]) ∧ w' = (W.setCell ⟨g, j, none⟩ (.int .u8 (x / 256))).setCell ⟨g, j + 1, none⟩ (.int .u8 (x % 256)) := by
  have u1 : IntKind.u8.wrap (x / 256) = x / 256 := wrap8_small _ (by omega) (by omega)
  have u2 : IntKind.u8.wrap x = x % 256 := by simp [IntKind.wrap, IntKind.bits, IntKind.signed]
  go_enter Tryz.func115, Tryz.ntmps115
  go_wp2
  go_end0
  exact ⟨rfl, rfl⟩

theorem mput_at {w W : World} {L : List (Nat × Obj)} (hM : Mem w W L) (i : Nat) {g N : Nat} {xs : List (Nat × Int)} (hi : L[i]? = some (g, .cells (bs (blz N xs)) 5 (0, 0))) (j : Nat) (hj : j + 1 < N) (c : Nat) (x : Int) (r0 : 0 ≤ x) (r1 : x ≤ 65535) :
    Calls Tryz.prog 115 #[.slice (some ⟨g, j, none⟩) 2 c, .int .u16 x] W fun e w' => e = .returned (.tuple #[]) ∧ Mem w w' (L.set i (g, .cells (bs (blz N (xs ++ [(j, x / 256), (j + 1, x % 256)]))) 5 (0, 0))) := by
  obtain ⟨z0, k0⟩ := hM.spot i hi j (by omega)
  obtain ⟨z1, k1⟩ := hM.spot i hi (j + 1) (by omega)
  refine (mput_ok z0 z1 k0 k1 (hM.free i hi) c x r0 r1).mono ?_
  rintro e w' ⟨rfl, hw⟩
  exact ⟨rfl, hM.put2 i hi j _ _ hw⟩

set_option maxHeartbeats 1000000 in
theorem mputLong_at {w W : World} {L : List (Nat × Obj)} (hM : Mem w W L) (i : Nat) {g N : Nat} {xs : List (Nat × Int)} (hi : L[i]? = some (g, .cells (bs (blz N xs)) 5 (0, 0))) (j : Nat) (hj : j + 3 < N) (c : Nat) (hc4 : (4 : Int) ≤ c) (x : Int) (r0 : 0 ≤ x) (r1 : x ≤ 4294967295) :
    Calls Tryz.prog 116 #[.slice (some ⟨g, j, none⟩) 4 c, .int .u32 x] W fun e w' => e = .returned (.tuple #[]) ∧ Mem w w' (L.set i (g, .cells (bs (blz N (xs ++ [(j, x / 16777216), (j + 1, x / 65536 % 256), (j + 2, x / 256 % 256), (j + 3, x % 256)]))) 5 (0, 0))) := by
  have u1 : IntKind.u16.wrap (x / 65536) = x / 65536 := wrap16_small _ (by omega) (by omega)
  have u2 : IntKind.u16.wrap x = x % 65536 := by simp [IntKind.wrap, IntKind.bits, IntKind.signed]
  have hil := (List.getElem?_eq_some_iff.mp hi).1
  have p1 := fun C => mput_at hM i hi j (by omega) C (x / 65536) (by omega) (by omega)
  have HN : Hid (j + 3 < N) := hj
  have HI : Hid (i < L.length) := hil
  have hc2 : (2 : Int) ≤ c := by omega
  clear hj hil hM hi
  go_enter Tryz.func116, Tryz.ntmps116
  go_wp2_with fail
  refine (p1 _).mono ?_
  rintro e w1 ⟨rfl, hM1⟩
  have p2 := fun C => mput_at hM1 i (List.getElem?_set_self HI.out) (j + 2) (by have := HN.out; omega) C (x % 65536) (by omega) (by omega)
  rw [List.set_set, List.append_assoc] at p2
  clear hM1 p1
  go_wp2_with fail
  refine (p2 _).mono ?_
  rintro e w2 ⟨rfl, hM2⟩
  go_wp2
  go_end0
  refine ⟨rfl, ?_⟩
  rw [show x / 65536 / 256 = x / 16777216 by omega, show x % 65536 / 256 = x / 256 % 256 by omega, show x % 65536 % 256 = x % 256 by omega] at hM2
  exact hM2
end Go.Proofs.YtjalpbkfpjfigaaGreat

