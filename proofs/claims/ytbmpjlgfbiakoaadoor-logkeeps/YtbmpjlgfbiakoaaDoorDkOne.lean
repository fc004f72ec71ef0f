/-
  What package disk's smaller functions answer: bounded, has, Blocks, Size, Dead, same, Power, Cut.
-/
import Derived.Test.YtbmpjlgfbiakoaaDoorDkMem
namespace Go.Proofs.YtbmpjlgfbiakoaaDoor
open Go.RowKit
open Sm
set_option linter.unusedVariables false

/-- A store's power and cut. -/
structure Dk where
  dead : Bool
  set : Bool
  left : Int
  pre : Int
abbrev dkA (h n : Nat) (D : Dk) : Array Value := #[.slice (some ⟨h, 0, none⟩) n n, .bool D.dead, .bool D.set, .int .i64 D.left, .int .i64 D.pre]
abbrev dkT : TypeId := 56

structure DkAt (w W : World) (p h m : Nat) (D : Dk) (hc : Array Value) (ks : List Bk) (L : List (Nat × Obj)) : Prop where
  st : St w W p (dkA h ks.length D) dkT h m hc ks L
  pos : 0 < ks.length
  top : ks.length ≤ 64
  mlo : 64 ≤ m
  mhi : m ≤ 65536
  left : 0 ≤ D.left ∧ D.left ≤ 9223372036854775807
  pre : 0 ≤ D.pre ∧ D.pre ≤ m

def bd (n lo hi : Int) : Int := min (max n lo) hi
def dIn (n : Nat) (i : Int) : Bool := decide (0 ≤ i) && decide (i < n)

theorem bounded_any (n lo hi : Int) (w : World) : Calls Tryd.prog 27 #[.int .i64 n, .int .i64 lo, .int .i64 hi] w fun e w' => e = .returned (.int .i64 (bd n lo hi)) ∧ w = w' := by
  go_enter Tryd.func27, Tryd.ntmps27
  go_wp2
  all_goals go_ret
  all_goals exact ⟨ret_int (by unfold bd; omega), rfl⟩

section
variable {w W : World} {p h m : Nat} {D : Dk} {hc : Array Value} {ks : List Bk} {L : List (Nat × Obj)}
theorem dblocks_any (H : DkAt w W p h m D hc ks L) : Calls Tryd.prog 16 #[.pointer (some ⟨p, 0, none⟩)] W fun e W' => e = .returned (.int .i64 ks.length) ∧ W = W' := by
  have c0 := H.st.box 0
  simp at c0
  generalize ks.length = n at c0 ⊢
  clear H
  go_enter Tryd.func16, Tryd.ntmps16
  go_wp2
  go_ret
  exact ⟨rfl, rfl⟩
theorem dsize_any (H : DkAt w W p h m D hc ks L) : Calls Tryd.prog 17 #[.pointer (some ⟨p, 0, none⟩)] W fun e W' => e = .returned (.int .i64 m) ∧ W = W' := by
  have c0 := H.st.box 0
  simp at c0
  have hp := H.pos
  obtain ⟨k, hk⟩ : ∃ k, ks[0]? = some k := ⟨_, List.getElem?_eq_getElem hp⟩
  have c1 := H.st.head hk
  have hp2 : (0 : Int) < (ks.length : Int) := by omega
  generalize ks.length = n at c0 hp hp2 ⊢
  clear H hk
  go_enter Tryd.func17, Tryd.ntmps17
  go_wp2
  go_ret
  exact ⟨rfl, rfl⟩
theorem ddead_any (H : DkAt w W p h m D hc ks L) : Calls Tryd.prog 25 #[.pointer (some ⟨p, 0, none⟩)] W fun e W' => e = .returned (.bool D.dead) ∧ W = W' := by
  have c0 := H.st.box 1
  simp at c0
  clear H
  go_enter Tryd.func25, Tryd.ntmps25
  go_wp2
  go_ret
  exact ⟨rfl, rfl⟩
theorem dhas_any (H : DkAt w W p h m D hc ks L) (i : Int) : Calls Tryd.prog 51 #[.pointer (some ⟨p, 0, none⟩), .int .i64 i] W fun e W' => e = .returned (.bool (dIn ks.length i)) ∧ W = W' := by
  have c0 := H.st.box 0
  simp at c0
  generalize ks.length = n at c0 ⊢
  clear H
  unfold dIn
  by_cases h0 : 0 ≤ i
  · go_enter Tryd.func51, Tryd.ntmps51
    go_wp2
    go_ret
    exact ⟨by simp [h0], rfl⟩
  · go_enter Tryd.func51, Tryd.ntmps51
    go_wp2
    go_ret
    exact ⟨by simp; omega, rfl⟩

/-- A row's bytes in memory of their own. -/
theorem dsame_any {a : Option Addr} {l : List Int} {n : Nat} (hn : l.length = n) (hr : Row W a l) (c : Nat) :
    Calls Tryd.prog 58 #[.slice a n c] W fun e W' => ∃ g, e = .returned (.slice (some ⟨g, 0, none⟩) n n) ∧ Mem W W' [(g, .cells (bs l) 5 (0, 0))] := by
  have hl := hr.len
  have hM := make_bytes n (by omega) W
  have hM1 : Mem W (W.alloc (.cells (madeCells #[.int .u8 0] n) 5)) [(W.heap.size, .cells (madeCells #[.int .u8 0] n) 5 (0, 0))] := (Mem.nil W).push1 rfl
  have hr1 : Row (W.alloc (.cells (madeCells #[.int .u8 0] n) 5)) a l := row_alloc hr
  generalize W.alloc (.cells (madeCells #[.int .u8 0] n) 5) = w1 at hM hM1 hr1
  obtain ⟨w2, hr2, hw2⟩ := copy_bytes w1 3 (some ⟨W.heap.size, 0, none⟩) a n n n c W.heap.size 0 _ (bs l) 5 (hM1.get 0 rfl) l (by rw [hn]; exact (Nat.min_self n).symm)
    (fun hp => by
      rcases hr1.cells with e | ⟨b, off, rfl, hc⟩
      · subst e; simp at hp
      · exact ⟨rfl, _, rfl, hr1.news⟩)
    (by rw [size_madeCells]; simp; omega) (made_new n l hn)
  rw [hn] at hr2
  have hM2 := hM1.wrote 0 rfl hw2
  have HM2 : Hid (Mem W w2 [(W.heap.size, .cells (bs l) 5 (0, 0))]) := hM2
  generalize W.heap.size = g at *
  clear hM1 hr hr1 hw2 hl hn hM2
  go_enter Tryd.func58, Tryd.ntmps58
  go_wp2
  go_ret
  exact ⟨g, rfl, HM2.out⟩

theorem dk_put (H : DkAt w W p h m D hc ks L) (d' : Bool) (s' : Bool) (l' q' : Int) (hl : 0 ≤ l' ∧ l' ≤ 9223372036854775807) (hq : 0 ≤ q' ∧ q' ≤ m) {W' : World} {A' : Array Value} (hs : St w W' p A' dkT h m hc ks L)
    (hA : A' = dkA h ks.length ⟨d', s', l', q'⟩) : DkAt w W' p h m ⟨d', s', l', q'⟩ hc ks L := by
  subst hA
  exact ⟨hs, H.pos, H.top, H.mlo, H.mhi, hl, hq⟩

theorem dpower_any (H : DkAt w W p h m D hc ks L) : Calls Tryd.prog 26 #[.pointer (some ⟨p, 0, none⟩)] W fun e W' => e = .returned (.tuple #[]) ∧ DkAt w W' p h m ⟨false, false, 0, 0⟩ hc ks L := by
  have c1 := H.st.box 1
  have c2 := H.st.box 2
  have c3 := H.st.box 3
  have c4 := H.st.box 4
  simp at c1 c2 c3 c4
  have f1 := H.st.boxFree 1
  have f2 := H.st.boxFree 2
  have f3 := H.st.boxFree 3
  have f4 := H.st.boxFree 4
  have HH : Hid (DkAt w W p h m D hc ks L) := H
  clear H
  go_enter Tryd.func26, Tryd.ntmps26
  go_wp2
  go_end0
  have H := HH.out
  exact ⟨rfl, dk_put H false false 0 0 (by omega) (by omega) ((((H.st.put 1 (.bool false)).put 2 (.bool false)).put 3 (.int .i64 0)).put 4 (.int .i64 0)) (by simp [dkA])⟩

theorem dcut_any (H : DkAt w W p h m D hc ks L) (n q : Int) (hn : n ≤ 9223372036854775807) : Calls Tryd.prog 24 #[.pointer (some ⟨p, 0, none⟩), .int .i64 n, .int .i64 q] W fun e W' => e = .returned (.tuple #[]) ∧ DkAt w W' p h m ⟨D.dead, true, max n 0, bd q 0 m⟩ hc ks L := by
  have c2 := H.st.box 2
  have c3 := H.st.box 3
  have c4 := H.st.box 4
  simp at c2 c3 c4
  have f2 := H.st.boxFree 2
  have f3 := H.st.boxFree 3
  have f4 := H.st.boxFree 4
  have HS : Hid (Calls Tryd.prog 17 #[.pointer (some ⟨p, 0, none⟩)] W fun e W' => e = .returned (.int .i64 m) ∧ W = W') := dsize_any H
  have HH : Hid (DkAt w W p h m D hc ks L) := H
  clear H
  have HB : Hid (bd q 0 m = bd q 0 m) := rfl
  have hb := bounded_any q 0 m W
  have HBR : Hid (0 ≤ bd q 0 m ∧ bd q 0 m ≤ m) := by constructor <;> unfold bd <;> omega
  generalize bd q 0 m = z at hb HBR ⊢
  have fin : ∀ x, x = max n 0 → Hid (DkAt w ((((W.setCell ⟨p, 2, none⟩ (.bool true)).setCell ⟨p, 3, none⟩ (.int .i64 x)).setCell ⟨p, 4, none⟩ (.int .i64 z))) p h m ⟨D.dead, true, max n 0, z⟩ hc ks L) := by
    intro x hx; subst hx
    have H := HH.out
    exact dk_put H D.dead true (max n 0) z (by omega) HBR.out (((H.st.put 2 _).put 3 _).put 4 _) (by simp [dkA])
  by_cases h0 : n < 0
  · have fin0 := fin 0 (by omega)
    clear fin HH HBR
    go_enter Tryd.func24, Tryd.ntmps24
    go_wp2_with fail
    refine HS.out.mono ?_
    rintro e w' ⟨rfl, rfl⟩
    go_wp2_with fail
    refine hb.mono ?_
    rintro e w' ⟨rfl, rfl⟩
    go_wp2
    go_end0
    exact ⟨rfl, fin0.out⟩
  · have fin0 := fin n (by omega)
    have h1 : 0 ≤ n := by omega
    clear fin HH HBR h0
    go_enter Tryd.func24, Tryd.ntmps24
    go_wp2_with fail
    refine HS.out.mono ?_
    rintro e w' ⟨rfl, rfl⟩
    go_wp2_with fail
    refine hb.mono ?_
    rintro e w' ⟨rfl, rfl⟩
    go_wp2
    go_end0
    exact ⟨rfl, fin0.out⟩
end
end Go.Proofs.YtbmpjlgfbiakoaaDoor
