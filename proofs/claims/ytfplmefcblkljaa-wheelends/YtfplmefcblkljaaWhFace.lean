/-
  Wheel: what the program's calls are asked to keep, whatever keeps what is due; the chapter's example.
-/
import Derived.Test.YtfplmefcblkljaaWhTick
import Derived.Test.YtfplmefcblkljaaWhInts
namespace Go.Proofs.Ytfplmefcblkljaa
open Go.RowKit
open Sm
open Po
open Wh
set_option linter.unusedVariables false
set_option linter.unusedSimpArgs false
set_option maxRecDepth 20000

namespace Wh
/-- v reads as these numbers wherever the blocks D stand. -/
def RdI (v : Value) (l : List Int) (D : List (Nat × Obj)) : Prop := ∀ (w V : World) (L : List (Nat × Obj)), Mem w V (D ++ L) → Rw V 1 v (ix l)
def WkQ (PS : List Du → Int → Nat → List (Nat × Obj) → Prop) (w : World) (p : Nat) (L : List (Nat × Obj)) (r : Value) (xs : List Du) (now : Int) (e : Ending) (W' : World) : Prop :=
  e = .returned r ∧ ∃ B', PS xs now p B' ∧ Mem w W' (B' ++ L)
def WtQ (PS : List Du → Int → Nat → List (Nat × Obj) → Prop) (w : World) (p : Nat) (L : List (Nat × Obj)) (os : List Int) (xs : List Du) (now : Int) (e : Ending) (W' : World) : Prop :=
  ∃ v D B', e = .returned v ∧ RdI v os D ∧ PS xs now p B' ∧ Mem w W' (D ++ (B' ++ L))
/-- The program's wheel: PS xs now p B: the box p, with all that belongs to it in the blocks B, holds what is due. -/
structure WC (w : World) (PS : List Du → Int → Nat → List (Nat × Obj) → Prop) : Prop where
  new : ∀ (W : World), Below w.heap.size w W → ∀ now : Int, 0 ≤ now ∧ now ≤ 4294967295 → Calls Try.prog 8 #[.int .u32 now] W fun e W' => ∃ p B, e = .returned (.pointer (some ⟨p, 0, none⟩)) ∧ PS [] now p B ∧ Mem W W' B
  set : ∀ {W : World} {p : Nat} {xs : List Du} {now : Int} {B L : List (Nat × Obj)}, PS xs now p B → Mem w W (B ++ L) → xs.length ≤ 1000 → ∀ id t : Int, (-9223372036854775808 ≤ id ∧ id ≤ 9223372036854775807) → (0 ≤ t ∧ t ≤ 4294967295) →
    Calls Try.prog 9 #[.pointer (some ⟨p, 0, none⟩), .int .i64 id, .int .u32 t] W (WkQ PS w p L (.tuple #[]) (wset xs id t) now)
  drop : ∀ {W : World} {p : Nat} {xs : List Du} {now : Int} {B L : List (Nat × Obj)}, PS xs now p B → Mem w W (B ++ L) → xs.length ≤ 1000 → ∀ id : Int, (-9223372036854775808 ≤ id ∧ id ≤ 9223372036854775807) →
    Calls Try.prog 11 #[.pointer (some ⟨p, 0, none⟩), .int .i64 id] W (WkQ PS w p L (.bool (wat id xs).isSome) (wdel id xs) now)
  at_ : ∀ {W : World} {p : Nat} {xs : List Du} {now : Int} {B L : List (Nat × Obj)}, PS xs now p B → Mem w W (B ++ L) → xs.length ≤ 1000 → ∀ id : Int, (-9223372036854775808 ≤ id ∧ id ≤ 9223372036854775807) →
    Calls Try.prog 16 #[.pointer (some ⟨p, 0, none⟩), .int .i64 id] W (WkQ PS w p L (.tuple #[.int .u32 ((wat id xs).getD 0), .bool (wat id xs).isSome]) xs now)
  now : ∀ {W : World} {p : Nat} {xs : List Du} {now : Int} {B L : List (Nat × Obj)}, PS xs now p B → Mem w W (B ++ L) → xs.length ≤ 1000 →
    Calls Try.prog 19 #[.pointer (some ⟨p, 0, none⟩)] W (WkQ PS w p L (.int .u32 now) xs now)
  count : ∀ {W : World} {p : Nat} {xs : List Du} {now : Int} {B L : List (Nat × Obj)}, PS xs now p B → Mem w W (B ++ L) → xs.length ≤ 1000 →
    Calls Try.prog 18 #[.pointer (some ⟨p, 0, none⟩)] W (WkQ PS w p L (.int .i64 xs.length) xs now)
  tick : ∀ {W : World} {p : Nat} {xs : List Du} {now : Int} {B L : List (Nat × Obj)}, PS xs now p B → Mem w W (B ++ L) → xs.length ≤ 1000 → 0 ≤ now ∧ now ≤ 4294967295 →
    Calls Try.prog 14 #[.pointer (some ⟨p, 0, none⟩)] W (WtQ PS w p L (tout now xs) (trest now xs) (tnow now))
theorem RdI.slice {v : Value} {l : List Int} {D L : List (Nat × Obj)} {w V : World} (h : RdI v l D) (hM : Mem w V (D ++ L)) : ∃ a c, v = .slice a l.length c := by
  obtain ⟨a, c, e, -⟩ := ints_at (h w V L hM)
  exact ⟨a, c, e⟩
theorem rd_one {V : World} {g : Nat} {x : Int} (h : V.cell? ⟨g, 0, none⟩ = some (.int .i64 x)) : Rw V 1 (.slice (some ⟨g, 0, none⟩) 1 1) (ix [x]) := by
  refine ⟨_, _, rfl, Nat.le_refl _, by omega, nofun, Or.inr ⟨g, 0, rfl, fun i hi j u hj => ?_⟩⟩
  have h0 : i = 0 := by simp [ix] at hi; omega
  subst h0
  match j, hj with
  | 0, hj => rw [← show Value.int .i64 x = u by simpa [ix] using hj]; simpa using h
  | j + 1, hj => simp [ix] at hj
section
variable {PS : List Du → Int → Nat → List (Nat × Obj) → Prop}
theorem k18_a : wset [] 7 2 = [(7, 2)] := by decide
theorem k18_b : tout 0 [(7, 2)] = [] ∧ trest 0 [(7, 2)] = [(7, 2)] ∧ tnow 0 = 1 := by decide
theorem k18_c : tout 1 [(7, 2)] = [7] ∧ trest 1 [(7, 2)] = [] ∧ tnow 1 = 2 := by decide
theorem k18_d : wat 7 [(7, 2)] = some 2 := by decide
set_option maxHeartbeats 8000000 in
theorem known18_any (W : World) (hc : WC W PS) : Calls Try.prog 7 #[] W fun e W' => e = .returned (.bool true) ∧ Below W.heap.size W W' := by
  have HC : Hid (WC W PS) := hc
  have C1 := hc.new W (Below.refl _ _) 0 (by omega)
  clear hc
  go_enter Try.func7, Try.ntmps7
  go_wp2_with fail
  refine C1.mono ?_
  rintro e W1 ⟨p, B, rfl, h1, m1⟩
  have C2 := HC.out.set (L := []) h1 (by rw [List.append_nil]; exact m1) (by simp) 7 2 (by omega) (by omega)
  rw [k18_a] at C2
  clear C1 h1 m1
  go_wp2_with fail
  refine C2.mono ?_
  rintro e W2 ⟨rfl, B2, h2, m2⟩
  have C3 := HC.out.tick h2 m2 (by simp) (by omega)
  rw [k18_b.1, k18_b.2.1, k18_b.2.2] at C3
  clear C2 h2 m2
  go_wp2_with fail
  refine C3.mono ?_
  rintro e W3 ⟨v3, D3, B3, rfl, hv3, h3, m3⟩
  obtain ⟨a3, c3, rfl⟩ := hv3.slice m3
  have m3' : Mem W W3 (B3 ++ (D3 ++ [])) := m3.perm (by
    classical
    rw [List.perm_iff_count]
    intro q
    simp only [List.count_append]
    omega)
  have C4 := HC.out.at_ h3 m3' (by simp) 7 (by omega)
  rw [k18_d] at C4
  simp only [Option.getD_some, Option.isSome_some, List.length_nil] at C4 ⊢
  clear C3 h3 m3 m3' hv3
  go_wp2_with fail
  refine C4.mono ?_
  rintro e W4 ⟨rfl, B4, h4, m4⟩
  have C5 := HC.out.tick h4 m4 (by simp) (by omega)
  rw [k18_c.1, k18_c.2.1, k18_c.2.2] at C5
  clear C4 h4 m4
  go_wp2_with fail
  refine C5.mono ?_
  rintro e W5 ⟨v5, D5, B5, rfl, hv5, h5, m5⟩
  have hA := m5.after ((Below.refl _ _).alloc (Nat.le_refl _) (.cells #[.int .i64 7] 3))
  have C6 := ints_any (hv5 _ _ _ hA) (rd_one (V := W5.alloc (.cells #[.int .i64 7] 3)) (g := W5.heap.size) (x := 7) (by simp [World.cell?_alloc_new]))
  have hd : decide (([7] : List Int) = [7]) = true := by decide
  rw [hd] at C6
  have hM6 := hA.perm (show List.Perm _ (B5 ++ (D5 ++ (D3 ++ []))) by
    classical
    rw [List.perm_iff_count]
    intro q
    simp only [List.count_append]
    omega)
  have HM6 : Hid (Mem W (W5.alloc (.cells #[.int .i64 7] 3)) (B5 ++ (D5 ++ (D3 ++ [])))) := hM6
  clear C5 m5 hA hv5 hM6
  go_wp2_with fail
  refine C6.mono ?_
  rintro e W6 ⟨rfl, hb6⟩
  have C7 := HC.out.now h5 (HM6.out.after hb6) (by simp)
  clear C6 hb6 HM6 h5
  go_wp2_with fail
  refine C7.mono ?_
  rintro e W7 ⟨rfl, B7, h7, m7⟩
  have C8 := HC.out.count h7 m7 (by simp)
  clear C7 h7 m7
  simp only [List.length_nil, Int.natCast_zero] at C8
  go_wp2_with fail
  refine C8.mono ?_
  rintro e W8 ⟨rfl, B8, h8, m8⟩
  have C9 := HC.out.drop h8 m8 (by simp) 7 (by omega)
  have e9 : (wat 7 []).isSome = false := rfl
  rw [e9] at C9
  clear C8 h8 m8
  go_wp2_with fail
  refine C9.mono ?_
  rintro e W9 ⟨rfl, B9, h9, m9⟩
  have HB : Hid (Below W.heap.size W W9) := m9.below
  clear C9 h9 m9
  go_wp2_with fail
  go_ret
  exact ⟨rfl, HB.out⟩
end
end Wh
end Go.Proofs.Ytfplmefcblkljaa
