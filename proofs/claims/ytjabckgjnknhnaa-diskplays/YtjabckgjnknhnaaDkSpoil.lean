/-
  What package disk's Spoil answers.
-/
import Derived.Test.YtjabckgjnknhnaaDkOne
namespace Go.Proofs.Ytjabckgjnknhnaa
open Go.RowKit
open Sm
set_option linter.unusedVariables false

section
variable {w W : World} {p h m : Nat} {D : Dk} {hc : Array Value} {ks : List Bk} {L : List (Nat × Obj)}
def spB (m : Nat) (i at_ x : Int) (bl : List (List Int)) : List (List Int) :=
  if dIn bl.length i && dIn m at_ then bl.set i.toNat ((bl.getD i.toNat []).set at_.toNat (bits .xor .u8 ((bl.getD i.toNat []).getD at_.toNat 0) x)) else bl

theorem dspoil_no (H : DkAt w W p h m D hc ks L) (i at_ x : Int) (hno : dIn ks.length i = false ∨ dIn m at_ = false) :
    Calls Try.prog 15 #[.pointer (some ⟨p, 0, none⟩), .int .i64 i, .int .i64 at_, .int .u8 x] W fun e W' => e = .returned (.tuple #[]) ∧ W = W' := by
  have hh := dhas_any H i
  have hs := dsize_any H
  clear H
  rcases Bool.eq_false_or_eq_true (dIn ks.length i) with hi | hi
  · rw [hi] at hh hno
    have hm : dIn m at_ = false := by simpa using hno
    clear hno
    by_cases h0 : 0 ≤ at_
    · have h1 : (m : Int) ≤ at_ := by
        by_cases h : at_ < (m : Int)
        · simp [dIn, h0, h] at hm
        · omega
      clear hm
      go_enter Try.func15, Try.ntmps15
      go_wp2_with fail
      refine hh.mono ?_
      rintro e w' ⟨rfl, rfl⟩
      go_wp2_with fail
      refine hs.mono ?_
      rintro e w' ⟨rfl, rfl⟩
      go_wp2
      go_end0
      exact ⟨rfl, rfl⟩
    · clear hm
      go_enter Try.func15, Try.ntmps15
      go_wp2_with fail
      refine hh.mono ?_
      rintro e w' ⟨rfl, rfl⟩
      go_wp2
      go_end0
      exact ⟨rfl, rfl⟩
  · rw [hi] at hh
    clear hno
    go_enter Try.func15, Try.ntmps15
    go_wp2_with fail
    refine hh.mono ?_
    rintro e w' ⟨rfl, rfl⟩
    go_wp2
    go_end0
    exact ⟨rfl, rfl⟩

theorem xor8_range (a x : Int) : 0 ≤ bits .xor .u8 a x ∧ bits .xor .u8 a x ≤ 255 := by
  have h : ∀ y, 0 ≤ IntKind.u8.wrap y ∧ IntKind.u8.wrap y ≤ 255 := fun y => by rw [IntKind.wrap_u8']; omega
  exact h _

theorem dspoil_yes (H : DkAt w W p h m D hc ks L) (i j : Nat) (x : Int) {k : Bk} (hi : ks[i]? = some k) (hj : j < m) :
    Calls Try.prog 15 #[.pointer (some ⟨p, 0, none⟩), .int .i64 i, .int .i64 j, .int .u8 x] W fun e W' => e = .returned (.tuple #[]) ∧ ∃ ks', DkAt w W' p h m D hc ks' L ∧
      ks'.map Bk.b = (ks.map Bk.b).set i (k.b.set j (bits .xor .u8 (k.b.getD j 0) x)) := by
  have c0 := H.st.box 0
  simp at c0
  have hh := dhas_any H i
  have hs := dsize_any H
  have hil := (List.getElem?_eq_some_iff.mp hi).1
  rw [show dIn ks.length i = true by simp [dIn, hil]] at hh
  have c2 := H.st.head hi
  have c3 := H.st.cell hi hj
  have f3 := H.st.free hi j
  have hil2 : (i : Int) < (ks.length : Int) := by omega
  have hj2 : (j : Int) < (m : Int) := by omega
  have xr := xor8_range (k.b.getD j 0) x
  have hb := (H.st.okAt hi).bytes j
  have HS : Hid (DkAt w (W.setCell ⟨k.g, j, none⟩ (.int .u8 (bits .xor .u8 (k.b.getD j 0) x))) p h m D hc (ks.set i ⟨k.g, k.cap, k.cur.setIfInBounds j (.int .u8 (bits .xor .u8 (k.b.getD j 0) x)), k.b.set j (bits .xor .u8 (k.b.getD j 0) x)⟩) L) := by
    have s := H.st.byte hi hj xr
    exact ⟨by rw [List.length_set]; exact s, by rw [List.length_set]; exact H.pos, by rw [List.length_set]; exact H.top, H.mlo, H.mhi, H.left, H.pre⟩
  generalize hn : ks.length = n at *
  generalize hz : k.b.getD j 0 = z at *
  clear H hil xr
  go_enter Try.func15, Try.ntmps15
  go_wp2_with fail
  refine hh.mono ?_
  rintro e w' ⟨rfl, rfl⟩
  go_wp2_with fail
  refine hs.mono ?_
  rintro e w' ⟨rfl, rfl⟩
  go_wp2
  go_end0
  exact ⟨rfl, _, HS.out, by rw [List.map_set]⟩

theorem dspoil_any (H : DkAt w W p h m D hc ks L) (i at_ x : Int) :
    Calls Try.prog 15 #[.pointer (some ⟨p, 0, none⟩), .int .i64 i, .int .i64 at_, .int .u8 x] W fun e W' => e = .returned (.tuple #[]) ∧ ∃ ks', DkAt w W' p h m D hc ks' L ∧ ks'.map Bk.b = spB m i at_ x (ks.map Bk.b) := by
  by_cases hc : dIn ks.length i = true ∧ dIn m at_ = true
  · have h1 : 0 ≤ i ∧ i < ks.length := by simpa [dIn] using hc.1
    have h2 : 0 ≤ at_ ∧ at_ < m := by simpa [dIn] using hc.2
    obtain ⟨a, rfl, ha⟩ := place_small h1.1 h1.2
    obtain ⟨b, rfl, hb⟩ := place_small h2.1 h2.2
    have hk : ks[a]? = some ks[a] := List.getElem?_eq_getElem ha
    generalize ks[a] = k at hk
    refine (dspoil_yes H a b x hk hb).mono ?_
    rintro e W' ⟨rfl, ks', hH, hB⟩
    refine ⟨rfl, ks', hH, ?_⟩
    have hgd : (ks.map Bk.b).getD a [] = k.b := by simp [List.getD, hk]
    rw [spB, List.length_map, hc.1, hc.2, Int.toNat_natCast, Int.toNat_natCast, hgd]; exact hB
  · have hno : dIn ks.length i = false ∨ dIn m at_ = false := by
      cases h1 : dIn ks.length i
      · exact Or.inl rfl
      · cases h2 : dIn m at_
        · exact Or.inr rfl
        · exact absurd ⟨h1, h2⟩ hc
    refine (dspoil_no H i at_ x hno).mono ?_
    rintro e W' ⟨rfl, rfl⟩
    refine ⟨rfl, ks, H, ?_⟩
    rw [spB, List.length_map, if_neg]
    rcases hno with e | e <;> simp [e]
end
end Go.Proofs.Ytjabckgjnknhnaa
