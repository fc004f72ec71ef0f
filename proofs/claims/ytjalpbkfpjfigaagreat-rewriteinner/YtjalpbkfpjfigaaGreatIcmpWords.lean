/-
  What icmp.word, icmp.long answer and icmp.putWord, icmp.putLong write; a value that is a message.
-/
import Derived.Test.YtjalpbkfpjfigaaGreatIcmpMath
namespace Go.Proofs.YtjalpbkfpjfigaaGreat
open Go.RowKit
open Sm
set_option linter.unusedVariables false

abbrev mgT : TypeId := 61
abbrev mgA (t k c r : Int) (b : Value) : Array Value := #[.int .u8 t, .int .u8 k, .int .u16 c, .int .u32 r, b]
abbrev mg0 : Array Value := mgA 0 0 0 0 (.slice none 0 0)

/-- A value that is the message q, its body behind base B. -/
def MgV (w : World) (B : Nat) (v : Value) (q : Mg) : Prop :=
  ∃ bo cb, v = .agg (mgA q.typ q.code q.sum q.rest (.slice bo q.body.length cb)) ∧ Row w bo q.body ∧ (bo = none → cb = 0) ∧ (∀ x, bo = some x → B ≤ x.block)
theorem MgV.below {w w' : World} {C : Nat} {v : Value} {q : Mg} (h : MgV w C v q) {B : Nat} (hb : Below B w w') (hB : w.heap.size ≤ B) : MgV w' C v q := by
  obtain ⟨bo, cb, e, h1, h2⟩ := h
  exact ⟨bo, cb, e, h1.below hb hB, h2⟩
theorem MgV.mono {w : World} {C D : Nat} {v : Value} {q : Mg} (h : MgV w C v q) (hD : D ≤ C) : MgV w D v q := by
  obtain ⟨bo, cb, e, h1, h2, h3⟩ := h
  exact ⟨bo, cb, e, h1, h2, fun x hx => Nat.le_trans hD (h3 x hx)⟩
theorem mgv_zero (w : World) (B : Nat) : MgV w B (.agg mg0) Mg.zero := ⟨none, 0, rfl, row_nil w, fun _ => rfl, fun x hx => (by cases hx)⟩

set_option maxHeartbeats 400000 in
theorem mword_cells {w : World} {b j : Nat} (x y : Int) (c0 : w.cell? ⟨b, j, none⟩ = some (.int .u8 x)) (c1 : w.cell? ⟨b, j + 1, none⟩ = some (.int .u8 y)) (r0 : 0 ≤ x) (r1 : x ≤ 255) (r2 : 0 ≤ y) (r3 : y ≤ 255) (c : Nat) :
    Calls Tryz.prog 108 #[.slice (some ⟨b, j, none⟩) 2 c] w fun e w' => e = .returned (.int .u16 (x * 256 + y)) ∧ ∃ q, w' = w.drewN q := by
  have hor := sm_word x y r0 r1 r2 r3
  have w0 := wrap16_small x r0 (by omega)
  have w1 := wrap16_small y r2 (by omega)
  have w2 := wrap16_small (x * 256) (by omega) (by omega)
  go_enter Tryz.func108, Tryz.ntmps108
  go_wp2
  go_quiet (fail)
  go_wp2
  go_ret
  exact ⟨rfl, _, rfl⟩

theorem mword_at {w : World} {b off : Nat} {l : List Int} (h : Row w (some ⟨b, off, none⟩) l) (j k : Nat) (hk : k = off + j) (hj : j + 1 < l.length) (X : Int) (hX : w16 l j = X) (c : Nat) :
    Calls Tryz.prog 108 #[.slice (some ⟨b, k, none⟩) 2 c] w fun e w' => e = .returned (.int .u16 X) ∧ ∃ q, w' = w.drewN q := by
  subst hk hX
  have b0 := h.bytes j
  have b1 := h.bytes (j + 1)
  exact mword_cells _ _ (h.cellAt j (by omega)) (by rw [Nat.add_assoc]; exact h.cellAt (j + 1) hj) b0.1 b0.2 b1.1 b1.2 c

set_option maxHeartbeats 1000000 in
theorem mlong_at {w : World} {b off : Nat} {l : List Int} (h : Row w (some ⟨b, off, none⟩) l) (j k : Nat) (hk : k = off + j) (hj : j + 3 < l.length) (X : Int) (hX : w32 l j = X) (c : Nat) (hc4 : (4 : Int) ≤ c) :
    Calls Tryz.prog 109 #[.slice (some ⟨b, k, none⟩) 4 c] w fun e w' => e = .returned (.int .u32 X) ∧ ∃ q, w' = w.drewN q := by
  have ra := w16_range h.bytes j
  have rb := w16_range h.bytes (j + 2)
  have c1 := fun W C (hW : Row W (some ⟨b, off, none⟩) l) => mword_at hW j k hk (by omega) _ rfl C
  have c2 := fun W C (hW : Row W (some ⟨b, off, none⟩) l) => mword_at hW (j + 2) (k + 2) (by omega) (by omega) _ rfl C
  have hor := sm_long _ _ ra.1 ra.2 rb.1 rb.2
  have w0 := wrap32_small (w16 l j) (by omega) (by omega)
  have w1 := wrap32_small (w16 l (j + 2)) (by omega) (by omega)
  have w2 := wrap32_small (w16 l j * 65536) (by omega) (by omega)
  have HE : Hid (w16 l j * 65536 + w16 l (j + 2) = X) := hX
  have hc2 : (2 : Int) ≤ c := by omega
  generalize w16 l j = X1 at *
  generalize w16 l (j + 2) = X2 at *
  have C1 : Hid _ := c1
  have C2 : Hid _ := c2
  clear c1 c2 hX ra rb hk hj
  go_enter Tryz.func109, Tryz.ntmps109
  go_wp2_with fail
  go_region_held3 (fun w' => Row w' (some ⟨b, off, none⟩) l) (repeat (first | assumption | refine row_drewN ?_ | refine row_drew ?_))
    (first
      | (go_at_call 108; with_reducible refine (C1.out _ _ (by assumption)).mono ?_; rintro e w5 ⟨rfl, q5, rfl⟩)
      | (go_at_call 108; with_reducible refine (C2.out _ _ (by assumption)).mono ?_; rintro e w6 ⟨rfl, q6, rfl⟩))
  all_goals
    go_wp2_with fail
    go_ret
    exact ⟨by rw [← HE.out] <;> rfl, _, rfl⟩

set_option maxHeartbeats 1000000 in
theorem mput_ok {W : World} {g j : Nat} (z0 z1 : Int) (k0 : W.cell? ⟨g, j, none⟩ = some (.int .u8 z0)) (k1 : W.cell? ⟨g, j + 1, none⟩ = some (.int .u8 z1)) (kf : ∀ i, W.frozen? ⟨g, i, none⟩ = false) (c : Nat) (x : Int) (r0 : 0 ≤ x) (r1 : x ≤ 65535) :
    Calls Tryz.prog 115 #[.slice (some ⟨g, j, none⟩) 2 c, .int .u16 x] W fun e w' => e = .returned (.tuple #[]) ∧ w' = (W.setCell ⟨g, j, none⟩ (.int .u8 (x / 256))).setCell ⟨g, j + 1, none⟩ (.int .u8 (x % 256)) := by
  have u1 : IntKind.u8.wrap (x / 256) = x / 256 := wrap8_small _ (by omega) (by omega)
  have u2 : IntKind.u8.wrap x = x % 256 := by simp [IntKind.wrap, IntKind.bits, IntKind.signed]
  go_enter Tryz.func115, Tryz.ntmps115
  go_wp2
  go_end0
  exact ⟨rfl, rfl⟩

theorem mput_at {w W : World} {L : List (Nat × Obj)} (hM : Mem w W L) (i : Nat) {g N : Nat} {xs : List (Nat × Int)} (hi : L[i]? = some (g, .cells (bs (blz N xs)) 5 (0, 0))) (j : Nat) (hj : j + 1 < N) (c : Nat) (x : Int) (r0 : 0 ≤ x) (r1 : x ≤ 65535) :
    Calls Tryz.prog 115 #[.slice (some ⟨g, j, none⟩) 2 c, .int .u16 x] W fun e w' => e = .returned (.tuple #[]) ∧ Mem w w' (L.set i (g, .cells (bs (blz N (xs ++ [(j, x / 256), (j + 1, x % 256)]))) 5 (0, 0))) := by
  obtain ⟨z0, k0⟩ := hM.spot i hi j (by omega)
  obtain ⟨z1, k1⟩ := hM.spot i hi (j + 1) (by omega)
  refine (mput_ok z0 z1 k0 k1 (hM.free i hi) c x r0 r1).mono ?_
  rintro e w' ⟨rfl, hw⟩
  exact ⟨rfl, hM.put2 i hi j _ _ hw⟩

set_option maxHeartbeats 1000000 in
theorem mputLong_at {w W : World} {L : List (Nat × Obj)} (hM : Mem w W L) (i : Nat) {g N : Nat} {xs : List (Nat × Int)} (hi : L[i]? = some (g, .cells (bs (blz N xs)) 5 (0, 0))) (j : Nat) (hj : j + 3 < N) (c : Nat) (hc4 : (4 : Int) ≤ c) (x : Int) (r0 : 0 ≤ x) (r1 : x ≤ 4294967295) :
    Calls Tryz.prog 116 #[.slice (some ⟨g, j, none⟩) 4 c, .int .u32 x] W fun e w' => e = .returned (.tuple #[]) ∧ Mem w w' (L.set i (g, .cells (bs (blz N (xs ++ [(j, x / 16777216), (j + 1, x / 65536 % 256), (j + 2, x / 256 % 256), (j + 3, x % 256)]))) 5 (0, 0))) := by
  have u1 : IntKind.u16.wrap (x / 65536) = x / 65536 := wrap16_small _ (by omega) (by omega)
  have u2 : IntKind.u16.wrap x = x % 65536 := by simp [IntKind.wrap, IntKind.bits, IntKind.signed]
  have hil := (List.getElem?_eq_some_iff.mp hi).1
  have p1 := fun C => mput_at hM i hi j (by omega) C (x / 65536) (by omega) (by omega)
  have HN : Hid (j + 3 < N) := hj
  have HI : Hid (i < L.length) := hil
  have hc2 : (2 : Int) ≤ c := by omega
  clear hj hil hM hi
  go_enter Tryz.func116, Tryz.ntmps116
  go_wp2_with fail
  refine (p1 _).mono ?_
  rintro e w1 ⟨rfl, hM1⟩
  have p2 := fun C => mput_at hM1 i (List.getElem?_set_self HI.out) (j + 2) (by have := HN.out; omega) C (x % 65536) (by omega) (by omega)
  rw [List.set_set, List.append_assoc] at p2
  clear hM1 p1
  go_wp2_with fail
  refine (p2 _).mono ?_
  rintro e w2 ⟨rfl, hM2⟩
  go_wp2
  go_end0
  refine ⟨rfl, ?_⟩
  rw [show x / 65536 / 256 = x / 16777216 by omega, show x % 65536 / 256 = x / 256 % 256 by omega, show x % 65536 % 256 = x % 256 by omega] at hM2
  exact hM2
end Go.Proofs.YtjalpbkfpjfigaaGreat
