/-
  DiskPlays: what a round's ways leave.
-/
import Derived.Test.YtjabckgjnknhnaaDkPlayGrow
import Derived.Test.YtjabckgjnknhnaaDkFrame
namespace Go.Proofs.Ytjabckgjnknhnaa
open Go.RowKit
open Sm
set_option linter.unusedVariables false

/-- Where the ways of a round meet. -/
def Mt (w1 : World) (N m q : Nat) (s2 s10 s12 : Value) (a' : Act) (w' : World) : Prop :=
  a'.defers = [] ∧ a'.tmps.size = 301 ∧ a'.tmps.getD 2 undef = s2 ∧ a'.tmps.getD 8 undef = .pointer (some ⟨q, 0, none⟩) ∧ a'.tmps.getD 10 undef = s10 ∧ a'.tmps.getD 12 undef = s12 ∧
    ∃ p h D hc ks hm cm M hcm km, a'.tmps.getD 7 undef = .pointer (some ⟨p, 0, none⟩) ∧ km.length = N ∧ Pl w1 w' p h m D hc ks q hm cm M hcm km []

theorem Mem.behind {w W : World} {A B : List (Nat × Obj)} (h : Mem w W (A ++ B)) : Mem w W B := by
  induction A with
  | nil => exact h
  | cons x A ih => exact ih h.sub

section
variable {w W W' : World} {p h m : Nat} {D : Dk} {hc : Array Value} {ks : List Bk} {q hm cm : Nat} {M : Dk} {hcm : Array Value} {km : List Bk} {L : List (Nat × Obj)}

theorem pl_power {L0 : List (Nat × Obj)} (H : DkAt w W' p h m ⟨false, false, 0, 0⟩ hc ks (stL q (mdA hm km.length cm m M) mdT hm hcm km L)) (E : MdAt w W q hm m cm M hcm km L0) (hs : ks.map Bk.b = km.map Bk.b) :
    Pl w ((W'.setCell ⟨q, 2, none⟩ (.bool false)).setCell ⟨q, 3, none⟩ (.bool false)) p h m ⟨false, false, 0, 0⟩ hc ks q hm cm ⟨false, false, M.left, M.pre⟩ hcm km L := by
  have E1 := pl_d H E
  have s := (E1.st.put 2 (.bool false)).put 3 (.bool false)
  have E2 : MdAt w ((W'.setCell ⟨q, 2, none⟩ (.bool false)).setCell ⟨q, 3, none⟩ (.bool false)) q hm m cm ⟨false, false, M.left, M.pre⟩ hcm km (stL p (dkA h ks.length ⟨false, false, 0, 0⟩) dkT h hc ks L) := ⟨s, E.mlo, E.mhi, E.cap, E.left, E.pre⟩
  exact ⟨pl_e E2 H, E2, hs, ⟨rfl, fun _ => ⟨rfl, fun e => by cases e⟩⟩⟩

/-- The cut laid into the statements' own store; the three stores in whatever order. -/
theorem pl_cut {L0 : List (Nat × Obj)} {x y : Int} (H : DkAt w W' p h m ⟨D.dead, true, x, y⟩ hc ks (stL q (mdA hm km.length cm m M) mdT hm hcm km L)) (E : MdAt w W q hm m cm M hcm km L0) (hs : ks.map Bk.b = km.map Bk.b) (hd : D.dead = M.dead)
    (W2 : World) (s : St w W2 q (mdA hm km.length cm m ⟨M.dead, true, x, y⟩) mdT hm m hcm km (stL p (dkA h ks.length ⟨D.dead, true, x, y⟩) dkT h hc ks L)) :
    Pl w W2 p h m ⟨D.dead, true, x, y⟩ hc ks q hm cm ⟨M.dead, true, x, y⟩ hcm km L := by
  have E2 : MdAt w W2 q hm m cm ⟨M.dead, true, x, y⟩ hcm km (stL p (dkA h ks.length ⟨D.dead, true, x, y⟩) dkT h hc ks L) := ⟨s, E.mlo, E.mhi, E.cap, H.left, H.pre⟩
  exact ⟨pl_e E2 H, E2, hs, ⟨hd, fun _ => ⟨rfl, fun _ => ⟨rfl, rfl⟩⟩⟩⟩

/-- Both wrote. -/
theorem pl_write {W0 : World} (P : Pl w W0 p h m D hc ks q hm cm M hcm km L) {ks' : List Bk} {i : Int} {l : List Int} {n : Nat} (hn : l.length = n) {L1 : List (Nat × Obj)}
    (H : DkAt w W p h m (wD D ks.length m i n) hc ks' (stL q (mdA hm km.length cm m M) mdT hm hcm km L)) (hB : ks'.map Bk.b = wB D m i l (ks.map Bk.b))
    {hcm' : Array Value} {km' : List Bk} (E : MdAt w W' q hm m cm (mD M km.length m i n) hcm' km' (stL p (dkA h ks'.length (wD D ks.length m i n)) dkT h hc ks' L)) (hB2 : km'.map Bk.b = wB M m i l (km.map Bk.b)) :
    Pl w W' p h m (wD D ks.length m i n) hc ks' q hm cm (mD M km.length m i n) hcm' km' L :=
  ⟨pl_e E H, E, by rw [hB, hB2, P.same]; exact rel_bl P.rel m i l _, by rw [P.len]; exact rel_next P.rel km.length m i n⟩

/-- Spoilt where there is no such byte. -/
theorem spB_no {N : Nat} {i at_ x : Int} {bl : List (List Int)} (hl : bl.length = N) (hno : dIn N i = false ∨ dIn m at_ = false) : spB m i at_ x bl = bl := by
  rw [spB, hl, if_neg]
  rcases hno with e | e <;> simp [e]
theorem pl_spoil_no {W0 : World} (P : Pl w W0 p h m D hc ks q hm cm M hcm km L) {ks' : List Bk} {i at_ x : Int} (H : DkAt w W p h m D hc ks' (stL q (mdA hm km.length cm m M) mdT hm hcm km L)) (hB : ks'.map Bk.b = spB m i at_ x (ks.map Bk.b))
    (hno : dIn km.length i = false ∨ dIn m at_ = false) : Pl w W p h m D hc ks' q hm cm M hcm km L :=
  ⟨H, pl_d H P.e, by rw [hB, P.same]; exact spB_no (by simp) hno, P.rel⟩
theorem pl_spoil_yes {W0 : World} (P : Pl w W0 p h m D hc ks q hm cm M hcm km L) {ks' : List Bk} {i j : Nat} {x : Int} (H : DkAt w W p h m D hc ks' (stL q (mdA hm km.length cm m M) mdT hm hcm km L)) (hB : ks'.map Bk.b = spB m i j x (ks.map Bk.b))
    {kk : Bk} (hk : km[i]? = some kk) (hj : j < m) :
    ∃ km', km'.length = km.length ∧ Pl w (W.setCell ⟨kk.g, j, none⟩ (.int .u8 (bits .xor .u8 (kk.b.getD j 0) x))) p h m D hc ks' q hm cm M hcm km' L := by
  have E1 := pl_d H P.e
  have hil := (List.getElem?_eq_some_iff.mp hk).1
  have s := E1.st.byte hk hj (xor8_range (kk.b.getD j 0) x)
  refine ⟨km.set i ⟨kk.g, kk.cap, kk.cur.setIfInBounds j (.int .u8 (bits .xor .u8 (kk.b.getD j 0) x)), kk.b.set j (bits .xor .u8 (kk.b.getD j 0) x)⟩, by simp, ?_⟩
  have E2 : MdAt w (W.setCell ⟨kk.g, j, none⟩ (.int .u8 (bits .xor .u8 (kk.b.getD j 0) x))) q hm m cm M hcm (km.set i ⟨kk.g, kk.cap, kk.cur.setIfInBounds j (.int .u8 (bits .xor .u8 (kk.b.getD j 0) x)), kk.b.set j (bits .xor .u8 (kk.b.getD j 0) x)⟩) (stL p (dkA h ks'.length D) dkT h hc ks' L) :=
    ⟨by rw [List.length_set]; exact s, E1.mlo, E1.mhi, by rw [List.length_set]; exact E1.cap, E1.left, E1.pre⟩
  refine ⟨pl_e E2 H, E2, ?_, P.rel⟩
  have hgd : (km.map Bk.b).getD i [] = kk.b := by simp [List.getD, hk]
  rw [hB, P.same, spB, if_pos (by simp [dIn, hil, hj]), Int.toNat_natCast, Int.toNat_natCast, hgd, List.map_set]

/-- The copy in the store's place. -/
theorem pl_copy {W0 : World} (P : Pl w W0 p h m D hc ks q hm cm M hcm km L) {pc h2 : Nat} {hc2 : Array Value} {kc : List Bk} {W1 : World} (C : DkAt w W1 pc h2 m D hc2 kc (stL p (dkA h ks.length D) dkT h hc ks (stL q (mdA hm km.length cm m M) mdT hm hcm km L)))
    (hB : kc.map Bk.b = ks.map Bk.b) {D' : Dk} {ks' : List Bk} {x : Nat × Obj} (H : DkAt w W p h m D' hc ks' (x :: stL pc (dkA h2 kc.length D) dkT h2 hc2 kc (stL q (mdA hm km.length cm m M) mdT hm hcm km L))) :
    Pl w W pc h2 m D hc2 kc q hm cm M hcm km L := by
  have hm0 := H.st.mem
  have hm1 : Mem w W (((p, Obj.cells (dkA h ks'.length D') dkT (0, 0)) :: (h, .cells hc 31 (0, 0)) :: (ks'.map Bk.ob ++ [x])) ++ stL pc (dkA h2 kc.length D) dkT h2 hc2 kc (stL q (mdA hm km.length cm m M) mdT hm hcm km L)) := by
    refine hm0.perm (List.Perm.of_eq ?_)
    simp [stL]
  have d : DkAt w W pc h2 m D hc2 kc (stL q (mdA hm km.length cm m M) mdT hm hcm km L) := C.of ⟨hm1.behind, C.st.heads, C.st.ok⟩
  exact ⟨d, pl_d d P.e, by rw [hB, P.same], P.rel⟩
end
end Go.Proofs.Ytjabckgjnknhnaa
