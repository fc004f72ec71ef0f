/-
  Ports: what the program's calls are asked to keep, whatever keeps the marks; the chapter's example.
-/
import Derived.Test.YtkbjiackjefkkaaDoorPoTake
namespace Go.Proofs.YtkbjiackjefkkaaDoor
open Go.RowKit
open Sm
open Po
set_option linter.unusedVariables false
set_option linter.unusedSimpArgs false
set_option maxRecDepth 20000

namespace Po
/-- A mark that may be. -/
def MOk (m : Mk) : Prop := (0 ≤ m.1 ∧ m.1 ≤ 255) ∧ (0 ≤ m.2.1 ∧ m.2.1 ≤ 4294967295) ∧ (0 ≤ m.2.2 ∧ m.2.2 ≤ 65535)
/-- What Take leaves, of whatever keeps the marks. -/
def TkQ (PS : List Mk → Nat → List (Nat × Obj) → Prop) (w : World) (xs : List Mk) (pr : Int) (p : Nat) (L : List (Nat × Obj)) (R : Option (Int × Int)) (e : Ending) (W' : World) : Prop :=
  match R with
  | some (ip, k) => e = .returned (.tuple #[.agg #[.int .u32 ip, .int .u16 k], .int .i64 0]) ∧ ∃ B', PS (xs ++ [(pr, ip, k)]) p B' ∧ Mem w W' (B' ++ L)
  | none => e = .returned (.tuple #[.agg #[.int .u32 0, .int .u16 0], .int .i64 120]) ∧ ∃ B', PS xs p B' ∧ Mem w W' (B' ++ L)
/-- The program's ports: PS xs p B: the box p, with all that belongs to it in the blocks B, holds the marks xs. -/
structure PC (w : World) (PS : List Mk → Nat → List (Nat × Obj) → Prop) : Prop where
  new : ∀ W, Calls Tryd.prog 9 #[] W fun e W' => ∃ p B, e = .returned (.pointer (some ⟨p, 0, none⟩)) ∧ PS [] p B ∧ Mem W W' B
  take : ∀ {W : World} {p : Nat} {xs : List Mk} {B L : List (Nat × Obj)}, PS xs p B → Mem w W (B ++ L) → xs.length ≤ 1000 → ∀ {vp : Value} {l : List Int}, Rw W 1 vp (ux l) → l.length ≤ 1000 → (∀ x ∈ l, 0 ≤ x ∧ x ≤ 4294967295) →
    ∀ pr lo hi want : Int, 0 ≤ pr ∧ pr ≤ 255 → 0 ≤ lo ∧ lo ≤ 65535 → 0 ≤ hi ∧ hi ≤ 65535 → 0 ≤ want ∧ want ≤ 65535 →
    Calls Tryd.prog 11 #[.pointer (some ⟨p, 0, none⟩), .int .u8 pr, vp, .int .u16 lo, .int .u16 hi, .int .u16 want] W (TkQ PS w xs pr p L (tk xs pr (frm lo want) (upt hi want) l))
  hold : ∀ {W : World} {p : Nat} {xs : List Mk} {B L : List (Nat × Obj)}, PS xs p B → Mem w W (B ++ L) → xs.length ≤ 1000 → ∀ pr a b : Int, MOk (pr, a, b) →
    Calls Tryd.prog 13 #[.pointer (some ⟨p, 0, none⟩), .int .u8 pr, .agg #[.int .u32 a, .int .u16 b]] W fun e W' => e = .returned (.int .i64 (if (pr, a, b) ∈ xs then 121 else 0)) ∧ ∃ B', PS (if (pr, a, b) ∈ xs then xs else xs ++ [(pr, a, b)]) p B' ∧ Mem w W' (B' ++ L)
  free : ∀ {W : World} {p : Nat} {xs : List Mk} {B L : List (Nat × Obj)}, PS xs p B → Mem w W (B ++ L) → xs.length ≤ 1000 → ∀ pr a b : Int, MOk (pr, a, b) →
    Calls Tryd.prog 15 #[.pointer (some ⟨p, 0, none⟩), .int .u8 pr, .agg #[.int .u32 a, .int .u16 b]] W fun e W' => e = .returned (.int .i64 (if (pr, a, b) ∈ xs then 0 else 121)) ∧ ∃ B', PS (xs.erase (pr, a, b)) p B' ∧ Mem w W' (B' ++ L)
  held : ∀ {W : World} {p : Nat} {xs : List Mk} {B L : List (Nat × Obj)}, PS xs p B → Mem w W (B ++ L) → xs.length ≤ 1000 → ∀ pr a b : Int, MOk (pr, a, b) →
    Calls Tryd.prog 18 #[.pointer (some ⟨p, 0, none⟩), .int .u8 pr, .agg #[.int .u32 a, .int .u16 b]] W fun e W' => e = .returned (.bool (decide ((pr, a, b) ∈ xs))) ∧ ∃ B', PS xs p B' ∧ Mem w W' (B' ++ L)
  count : ∀ {W : World} {p : Nat} {xs : List Mk} {B L : List (Nat × Obj)}, PS xs p B → Mem w W (B ++ L) → xs.length ≤ 1000 →
    Calls Tryd.prog 17 #[.pointer (some ⟨p, 0, none⟩)] W fun e W' => e = .returned (.int .i64 xs.length) ∧ ∃ B', PS xs p B' ∧ Mem w W' (B' ++ L)
section
variable {PS : List Mk → Nat → List (Nat × Obj) → Prop}
theorem tkq_some {w W' : World} {xs : List Mk} {pr : Int} {p : Nat} {L : List (Nat × Obj)} {ip k : Int} {e : Ending} (h : TkQ PS w xs pr p L (some (ip, k)) e W') : e = .returned (.tuple #[.agg #[.int .u32 ip, .int .u16 k], .int .i64 0]) ∧ ∃ B', PS (xs ++ [(pr, ip, k)]) p B' ∧ Mem w W' (B' ++ L) := h
theorem tkq_none {w W' : World} {xs : List Mk} {pr : Int} {p : Nat} {L : List (Nat × Obj)} {e : Ending} (h : TkQ PS w xs pr p L none e W') : e = .returned (.tuple #[.agg #[.int .u32 0, .int .u16 0], .int .i64 120]) ∧ ∃ B', PS xs p B' ∧ Mem w W' (B' ++ L) := h
theorem ex_one : tk [] 17 (frm 1024 4000) (upt 65535 4000) [5] = some (5, 1024) := by
  have e1 : frm 1024 4000 = 1024 := by decide
  have e2 : upt 65535 4000 = 65535 := by decide
  rw [e1, e2, tk, cnt_more (by decide), t1]
  rfl
theorem ex_two : tk [(17, 5, 1024)] 17 (frm 1024 4000) (upt 65535 4000) [5] = some (5, 1026) := by
  have e1 : frm 1024 4000 = 1024 := by decide
  have e2 : upt 65535 4000 = 65535 := by decide
  rw [e1, e2, tk, cnt_more (by decide), t1, if_pos (by simp), cnt_more (by decide), t1]
  rfl
theorem rw_one {W : World} {g : Nat} {x : Int} (h : W.cell? ⟨g, 0, none⟩ = some (.int .u32 x)) : Rw W 1 (.slice (some ⟨g, 0, none⟩) 1 1) (ux [x]) := by
  refine ⟨_, _, rfl, Nat.le_refl _, by omega, nofun, Or.inr ⟨g, 0, rfl, fun i hi j u hj => ?_⟩⟩
  have h0 : i = 0 := by simp [ux] at hi; omega
  subst h0
  match j, hj with
  | 0, hj => rw [← show Value.int .u32 x = u by simpa [ux] using hj]; simpa using h
  | j + 1, hj => simp [ux] at hj
theorem rw_nil (W : World) : Rw W 1 (.slice none 0 0) (ux []) := ⟨none, 0, rfl, Nat.le_refl _, by omega, fun _ => rfl, Or.inl rfl⟩
set_option maxHeartbeats 4000000 in
theorem known17_any (W : World) (hc : PC W PS) : Calls Tryd.prog 7 #[] W fun e W' => e = .returned (.bool true) ∧ Below W.heap.size W W' := by
  have C1 := hc.new W
  have HC : Hid (PC W PS) := hc
  clear hc
  go_enter Tryd.func7, Tryd.ntmps7
  go_wp2_with fail
  refine C1.mono ?_
  rintro e W1 ⟨p, B, rfl, h1, m1⟩
  clear C1
  have hA1 : Mem W (W1.alloc (.cells #[.int .u32 5] 33)) (B ++ [(W1.heap.size, .cells #[.int .u32 5] 33 (0, 0))]) := m1.alloc _
  have C2 := HC.out.take h1 hA1 (by simp) (rw_one (W := W1.alloc (.cells #[.int .u32 5] 33)) (g := W1.heap.size) (x := 5) (by simp [World.cell?_alloc_new])) (by simp) (by simp) 17 1024 65535 4000 (by omega) (by omega) (by omega) (by omega)
  rw [ex_one] at C2
  clear hA1 h1 m1
  go_wp2_with fail
  refine C2.mono ?_
  intro e W2 hT
  obtain ⟨rfl, B2, h2, m2⟩ := tkq_some hT
  clear hT C2
  obtain ⟨L2, hL2⟩ : ∃ L, [(W1.heap.size, Obj.cells #[.int .u32 5] 33 (0, 0))] = L := ⟨_, rfl⟩
  rw [hL2] at m2
  obtain ⟨g1, hg1⟩ : ∃ g, W2.heap.size = g := ⟨_, rfl⟩
  have HM1 : Hid (Mem W (W2.alloc (.cells #[.int .u32 5, .int .u16 1024] 35)) ((B2 ++ L2) ++ [(g1, .cells #[.int .u32 5, .int .u16 1024] 35 (0, 0))])) := m2.push g1 _ hg1.symm
  clear hL2 m2
  go_upto_region 5 with fail
  refine wp_letter (fun X => Mem W X ((B2 ++ L2) ++ [(g1, .cells #[.int .u32 5, .int .u16 1024] 35 (0, 0))])) (by exact HM1.out) ?_
  intro W3 m3
  try simp only [hg1]
  clear HM1 hg1
  rw [List.append_assoc] at m3
  have hA2 := m3.alloc (.cells #[.int .u32 5] 33)
  rw [List.append_assoc] at hA2
  have C2 := HC.out.take h2 hA2 (by simp) (rw_one (W := W3.alloc (.cells #[.int .u32 5] 33)) (g := W3.heap.size) (x := 5) (by simp [World.cell?_alloc_new])) (by simp) (by simp) 17 1024 65535 4000 (by omega) (by omega) (by omega) (by omega)
  rw [List.nil_append, ex_two] at C2
  clear hA2 h2 m3
  go_wp2_with fail
  refine C2.mono ?_
  intro e W4 hT
  obtain ⟨rfl, B4, h4, m4⟩ := tkq_some hT
  clear hT C2
  have m4' : Mem W W4 (B4 ++ ((g1, .cells #[.int .u32 5, .int .u16 1024] 35 (0, 0)) :: (L2 ++ [(W3.heap.size, .cells #[.int .u32 5] 33 (0, 0))]))) := m4.perm (by
    classical
    rw [List.perm_iff_count]
    intro q
    simp only [List.count_append, List.count_cons, List.count_nil]
    omega)
  obtain ⟨L4, hL4⟩ : ∃ L, L2 ++ [(W3.heap.size, Obj.cells #[.int .u32 5] 33 (0, 0))] = L := ⟨_, rfl⟩
  rw [hL4] at m4'
  obtain ⟨g2, hg2⟩ : ∃ g, W4.heap.size = g := ⟨_, rfl⟩
  have HM2 : Hid (Mem W (W4.alloc (.cells #[.int .u32 5, .int .u16 1026] 35)) ((B4 ++ ((g1, .cells #[.int .u32 5, .int .u16 1024] 35 (0, 0)) :: L4)) ++ [(g2, .cells #[.int .u32 5, .int .u16 1026] 35 (0, 0))])) := m4'.push g2 _ hg2.symm
  clear hL4 m4 m4'
  go_upto_region 6 with fail
  refine wp_letter (fun X => Mem W X ((B4 ++ ((g1, .cells #[.int .u32 5, .int .u16 1024] 35 (0, 0)) :: L4)) ++ [(g2, .cells #[.int .u32 5, .int .u16 1026] 35 (0, 0))])) (by exact HM2.out) ?_
  intro W5 m5
  try simp only [hg2]
  clear HM2 hg2
  rw [List.append_assoc] at m5
  have C3 := HC.out.take h4 m5 (by simp) (rw_nil W5) (by simp) (by simp) 17 1 2 3 (by omega) (by omega) (by omega) (by omega)
  rw [tk] at C3
  simp only [List.nil_append, List.cons_append] at C3 h4
  clear h4 m5
  go_wp2_with fail
  refine C3.mono ?_
  intro e W6 hT
  obtain ⟨rfl, B6, h6, m6⟩ := tkq_none hT
  clear hT C3
  have m6' : Mem W W6 ((g1, .cells #[.int .u32 5, .int .u16 1024] 35 (0, 0)) :: (g2, .cells #[.int .u32 5, .int .u16 1026] 35 (0, 0)) :: (B6 ++ L4)) := m6.perm (by
    classical
    rw [List.perm_iff_count]
    intro q
    simp only [List.count_append, List.count_cons, List.count_nil]
    omega)
  obtain ⟨g3, hg3⟩ : ∃ g, W6.heap.size = g := ⟨_, rfl⟩
  have HM3 : Hid (Mem W (W6.alloc (.cells #[.int .u32 0, .int .u16 0] 35)) ((g1, .cells #[.int .u32 5, .int .u16 1024] 35 (0, 0)) :: (g2, .cells #[.int .u32 5, .int .u16 1026] 35 (0, 0)) :: (B6 ++ L4))) := m6'.after ((Below.refl _ _).alloc (Nat.le_refl _) _)
  have HP6 : Hid (PS [(17, 5, 1024), (17, 5, 1026)] p B6) := h6
  clear m6 m6' h6
  go_upto_region 7 with fail
  refine wp_letter (fun X => Mem W X ((g1, .cells #[.int .u32 5, .int .u16 1024] 35 (0, 0)) :: (g2, .cells #[.int .u32 5, .int .u16 1026] 35 (0, 0)) :: (B6 ++ L4))) (by exact HM3.out) ?_
  intro W7 m7
  try simp only [hg3]
  clear HM3 hg3
  have q1 := pt_eq 5 1024 5 1024
  have q2 := pt_eq 5 1026 5 1026
  simp only [BEq.rfl, Bool.and_self] at q1 q2
  have a0 : W7.cell? ⟨g1, 0, none⟩ = some (.int .u32 5) := m7.cell 0 rfl 0
  have a1 : W7.cell? ⟨g1, 1, none⟩ = some (.int .u16 1024) := m7.cell 0 rfl 1
  have b0 : W7.cell? ⟨g2, 0, none⟩ = some (.int .u32 5) := m7.cell 1 rfl 0
  have b1 : W7.cell? ⟨g2, 1, none⟩ = some (.int .u16 1026) := m7.cell 1 rfl 1
  have C4 := HC.out.count HP6.out (m7.perm (show List.Perm _ (B6 ++ ((g1, .cells #[.int .u32 5, .int .u16 1024] 35 (0, 0)) :: L4 ++ [(g2, .cells #[.int .u32 5, .int .u16 1026] 35 (0, 0))])) by
    classical
    rw [List.perm_iff_count]
    intro q
    simp only [List.cons_append, List.count_append, List.count_cons, List.count_nil]
    omega)) (by simp)
  clear HP6 m7
  go_wp2_with fail
  refine C4.mono ?_
  rintro e W8 ⟨rfl, B8, h8, m8⟩
  have m8' : Mem W W8 ((g1, .cells #[.int .u32 5, .int .u16 1024] 35 (0, 0)) :: (B8 ++ (L4 ++ [(g2, .cells #[.int .u32 5, .int .u16 1026] 35 (0, 0))]))) := m8.perm (by
    classical
    rw [List.perm_iff_count]
    intro q
    simp only [List.cons_append, List.count_append, List.count_cons, List.count_nil]
    omega)
  clear C4 a0 a1 b0 b1
  have a0 : W8.cell? ⟨g1, 0, none⟩ = some (.int .u32 5) := m8'.cell 0 rfl 0
  have a1 : W8.cell? ⟨g1, 1, none⟩ = some (.int .u16 1024) := m8'.cell 0 rfl 1
  have C5 := HC.out.held h8 m8 (by simp) 17 5 1024 (by unfold MOk; simp)
  have C5' : Calls Tryd.prog 18 #[.pointer (some ⟨p, 0, none⟩), .int .u8 17, .agg #[.int .u32 5, .int .u16 1024]] W8 fun e W' => e = .returned (.bool true) ∧ ∃ B', PS [(17, 5, 1024), (17, 5, 1026)] p B' ∧ Mem W W' (B' ++ ((g1, .cells #[.int .u32 5, .int .u16 1024] 35 (0, 0)) :: L4 ++ [(g2, .cells #[.int .u32 5, .int .u16 1026] 35 (0, 0))])) := by simpa using C5
  clear C5 h8 m8 m8'
  go_wp2_with fail
  refine C5'.mono ?_
  rintro e W9 ⟨rfl, B9, h9, m9⟩
  have m9' : Mem W W9 ((g1, .cells #[.int .u32 5, .int .u16 1024] 35 (0, 0)) :: (B9 ++ (L4 ++ [(g2, .cells #[.int .u32 5, .int .u16 1026] 35 (0, 0))]))) := m9.perm (by
    classical
    rw [List.perm_iff_count]
    intro q
    simp only [List.cons_append, List.count_append, List.count_cons, List.count_nil]
    omega)
  clear C5' a0 a1
  have a0 : W9.cell? ⟨g1, 0, none⟩ = some (.int .u32 5) := m9'.cell 0 rfl 0
  have a1 : W9.cell? ⟨g1, 1, none⟩ = some (.int .u16 1024) := m9'.cell 0 rfl 1
  have C6 := HC.out.held h9 m9 (by simp) 6 5 1024 (by unfold MOk; simp)
  have C6' : Calls Tryd.prog 18 #[.pointer (some ⟨p, 0, none⟩), .int .u8 6, .agg #[.int .u32 5, .int .u16 1024]] W9 fun e W' => e = .returned (.bool false) ∧ Below W.heap.size W W' := by
    refine C6.mono ?_
    rintro e W' ⟨rfl, B', -, m'⟩
    exact ⟨by simp, m'.below⟩
  clear C6 h9 m9 m9'
  go_wp2_with fail
  refine C6'.mono ?_
  rintro e W10 ⟨rfl, hb⟩
  have HB : Hid (Below W.heap.size W W10) := hb
  clear C6' hb
  go_wp2_with fail
  go_ret
  exact ⟨rfl, HB.out⟩
end
end Po
end Go.Proofs.YtkbjiackjefkkaaDoor
