/-
  The store and the statements' own store side by side.
-/
import Derived.Test.YtjabckgjnknhnaaDkModel
import Derived.Test.YtjabckgjnknhnaaDkSpoil
import Derived.Test.YtjabckgjnknhnaaDkLawCopies
import Derived.Test.YtjabckgjnknhnaaDkOpen
namespace Go.Proofs.Ytjabckgjnknhnaa
open Go.RowKit
open Sm
set_option linter.unusedVariables false

section
variable {w W : World} {p h m c : Nat} {M : Dk} {hc : Array Value} {ks : List Bk} {L : List (Nat × Obj)}
/-- Whatever is handed in. -/
theorem mwrite_any (H : MdAt w W p h m c M hc ks L) {a : Option Addr} {l : List Int} {n : Nat} (hn : l.length = n) (hr : Row W a l) {cap : Nat} (hcap : n ≤ cap) (i : Int) :
    Calls Try.prog 12 #[.pointer (some ⟨p, 0, none⟩), .int .i64 i, .slice a n cap] W fun e W' => e = .returned (.int .i64 (wErr M ks.length m i n)) ∧ ∃ hc' ks', MdAt w W' p h m c (mD M ks.length m i n) hc' ks' L ∧
      ks'.map Bk.b = wB M m i l (ks.map Bk.b) := by
  by_cases hno : M.dead = true ∨ dIn ks.length i = false ∨ n ≠ m
  · refine (mwrite_no H i hno).mono ?_
    rintro e W' ⟨rfl, rfl⟩
    have e1 : (M.dead || !dIn ks.length i || n != m) = true := by
      rcases hno with e | e | e <;> simp [e]
    refine ⟨rfl, hc, ks, ?_, ?_⟩
    · rw [mD, if_pos e1]; exact H
    · rw [wB, List.length_map, hn, if_pos e1]
  · have hd : M.dead = false := by cases hD : M.dead <;> simp_all
    have hi : dIn ks.length i = true := by cases hD : dIn ks.length i <;> simp_all
    have hm : n = m := by
      by_cases e : n = m
      · exact e
      · exact absurd (Or.inr (Or.inr e)) hno
    clear hno
    subst hm
    have hi2 : 0 ≤ i ∧ i < ks.length := by simpa [dIn] using hi
    obtain ⟨j, rfl, hj⟩ := place_small hi2.1 hi2.2
    have hk : ks[j]? = some ks[j] := List.getElem?_eq_getElem hj
    generalize ks[j] = k at hk
    have e1 : (M.dead || !dIn ks.length (j : Int) || n != n) = false := by simp [hd, hi]
    have hgd : (ks.map Bk.b).getD j [] = k.b := by simp [List.getD, hk]
    by_cases hq : M.set = true ∧ M.left = 0
    · have e2 : (M.set && M.left == 0) = true := by simp [hq.1, hq.2]
      refine (mwrite_cut H hr hcap hn j hk hd hq.1 hq.2).mono ?_
      rintro e W' ⟨rfl, ks', hH, hB⟩
      refine ⟨by simp [wErr, hd, hi, e2], hc, ks', ?_, ?_⟩
      · rw [mD, e1, e2, hq.1, hq.2]; exact hH
      · rw [wB, List.length_map, hn, e1, e2, if_neg (by decide), if_pos rfl, Int.toNat_natCast, hgd]; exact hB
    · have hs : M.set = false ∨ M.left ≠ 0 := by
        cases hD : M.set
        · exact Or.inl rfl
        · exact Or.inr (fun e => hq ⟨hD, e⟩)
      have e2 : (M.set && M.left == 0) = false := by
        rcases hs with e | e <;> simp [e]
      refine (mwrite_ok H hr hn j hk hd hs).mono ?_
      rintro e W' ⟨rfl, hc', ks', hH, hB⟩
      refine ⟨by simp [wErr, hd, hi, e2], hc', ks', ?_, ?_⟩
      · rw [mD, e1, e2]
        obtain ⟨d, s, lf, pr⟩ := M
        simp at hd; subst hd
        cases s <;> exact hH
      · rw [wB, List.length_map, hn, e1, e2, if_neg (by decide), if_neg (by decide), Int.toNat_natCast]; exact hB
end

abbrev acT : TypeId := 34
abbrev acA (C : Ac) : Array Value := #[.int .i64 C.what, .int .i64 C.i, .int .i64 C.n, .int .i64 C.p, .int .u8 C.x]

theorem quiet_of_eq {P : Program} {f : FuncId} {args : Array Value} {w : World} {n : Nat} {v : Value} (h : Calls P f args (w.drewN n) fun e w' => e = .returned v ∧ w.drewN n = w') : Calls P f args (w.drewN n) fun e w'' => e = .returned v ∧ ∃ m, w'' = w.drewN m :=
  h.mono fun _ _ ⟨he, hm⟩ => ⟨he, n, hm.symm⟩

structure Rel (D M : Dk) : Prop where
  dead : D.dead = M.dead
  rest : D.dead = false → D.set = M.set ∧ (D.set = true → D.left = M.left ∧ D.pre = M.pre)
theorem rel_cut {D M : Dk} (h : Rel D M) (hd : D.dead = false) : (D.set && D.left == 0) = (M.set && M.left == 0) := by
  obtain ⟨r1, r2⟩ := h.rest hd
  rw [← r1]
  cases hs : D.set
  · rfl
  · rw [(r2 hs).1]
theorem rel_err {D M : Dk} (h : Rel D M) (n m : Nat) (i : Int) (k : Nat) : wErr D n m i k = wErr M n m i k := by
  unfold wErr
  rw [← h.dead]
  cases hd : D.dead
  · rw [rel_cut h hd]
  · rfl
theorem rel_bl {D M : Dk} (h : Rel D M) (m : Nat) (i : Int) (l : List Int) (bl : List (List Int)) : wB D m i l bl = wB M m i l bl := by
  unfold wB
  rw [← h.dead]
  cases hd : D.dead
  · rw [rel_cut h hd]
    cases hs : (M.set && M.left == 0)
    · rfl
    · have e := rel_cut h hd
      rw [hs] at e
      have hset : D.set = true := by
        cases hq : D.set
        · rw [hq] at e; cases e
        · rfl
      rw [((h.rest hd).2 hset).2]
  · rfl
theorem rel_next {D M : Dk} (h : Rel D M) (n m : Nat) (i : Int) (k : Nat) : Rel (wD D n m i k) (mD M n m i k) := by
  unfold wD mD
  rw [← h.dead]
  by_cases hr : (D.dead || !dIn n i || k != m) = true
  · rw [if_pos hr, if_pos hr]; exact h
  · rw [if_neg hr, if_neg hr]
    have hd : D.dead = false := by
      cases hq : D.dead
      · rfl
      · rw [hq] at hr; simp at hr
    rw [rel_cut h hd]
    obtain ⟨r1, r2⟩ := h.rest hd
    by_cases hs : (M.set && M.left == 0) = true
    · rw [if_pos hs, if_pos hs]
      exact ⟨rfl, fun e => by cases e⟩
    · rw [if_neg hs, if_neg hs, ← r1]
      by_cases hq : D.set = true
      · rw [if_pos hq, if_pos hq]
        refine ⟨rfl, fun _ => ⟨rfl, fun _ => ⟨?_, (r2 hq).2⟩⟩⟩
        show D.left - 1 = M.left - 1
        rw [(r2 hq).1]
      · rw [if_neg hq, if_neg hq]; exact h

structure Pl (w W : World) (p h m : Nat) (D : Dk) (hc : Array Value) (ks : List Bk) (q hm cm : Nat) (M : Dk) (hcm : Array Value) (km : List Bk) (L : List (Nat × Obj)) : Prop where
  d : DkAt w W p h m D hc ks (stL q (mdA hm km.length cm m M) mdT hm hcm km L)
  e : MdAt w W q hm m cm M hcm km (stL p (dkA h ks.length D) dkT h hc ks L)
  same : ks.map Bk.b = km.map Bk.b
  rel : Rel D M

section
variable {w W W' : World} {p h m : Nat} {D : Dk} {hc : Array Value} {ks : List Bk} {q hm cm : Nat} {M : Dk} {hcm : Array Value} {km : List Bk} {L : List (Nat × Obj)}
theorem pl_d {L0 : List (Nat × Obj)} (H : DkAt w W' p h m D hc ks (stL q (mdA hm km.length cm m M) mdT hm hcm km L)) (E : MdAt w W q hm m cm M hcm km L0) : MdAt w W' q hm m cm M hcm km (stL p (dkA h ks.length D) dkT h hc ks L) :=
  ⟨H.st.swap E.st.heads E.st.ok, E.mlo, E.mhi, E.cap, E.left, E.pre⟩
theorem pl_e {L0 : List (Nat × Obj)} (E : MdAt w W' q hm m cm M hcm km (stL p (dkA h ks.length D) dkT h hc ks L)) (H : DkAt w W p h m D hc ks L0) : DkAt w W' p h m D hc ks (stL q (mdA hm km.length cm m M) mdT hm hcm km L) :=
  ⟨E.st.swap H.st.heads H.st.ok, H.pos, H.top, H.mlo, H.mhi, H.left, H.pre⟩
theorem Pl.len (P : Pl w W p h m D hc ks q hm cm M hcm km L) : ks.length = km.length := by
  have := congrArg List.length P.same
  simpa using this
theorem DkAt.of {L' : List (Nat × Obj)} (H : DkAt w W p h m D hc ks L) (s : St w W' p (dkA h ks.length D) dkT h m hc ks L') : DkAt w W' p h m D hc ks L' := ⟨s, H.pos, H.top, H.mlo, H.mhi, H.left, H.pre⟩
theorem MdAt.of {L' : List (Nat × Obj)} (E : MdAt w W q hm m cm M hcm km L) (s : St w W' q (mdA hm km.length cm m M) mdT hm m hcm km L') : MdAt w W' q hm m cm M hcm km L' := ⟨s, E.mlo, E.mhi, E.cap, E.left, E.pre⟩
theorem stL_perm {x : Nat × Obj} {A : Array Value} {T : TypeId} : (stL p A T h hc ks (x :: L)).Perm (x :: stL p A T h hc ks L) :=
  (List.Perm.cons _ ((List.Perm.cons _ List.perm_middle).trans (List.Perm.swap _ _ _))).trans (List.Perm.swap _ _ _)
/-- What else the call made, taken in and let go. -/
theorem Pl.more (P : Pl w W p h m D hc ks q hm cm M hcm km L) {K : List (Nat × Obj)} (k : Mem W W' K) : Pl w W' p h m D hc ks q hm cm M hcm km (K ++ L) := by
  have s : St w W' p (dkA h ks.length D) dkT h m hc ks (stL q (mdA hm km.length cm m M) mdT hm hcm km (K ++ L)) := by
    refine (P.d.st.join k).perm ?_
    have e : ∀ (a : List (Nat × Obj)) (u v : Nat × Obj), (K ++ (u :: v :: (a ++ L))).Perm (u :: v :: (a ++ (K ++ L))) := by
      intro a u v
      have q : (K ++ ((u :: v :: a) ++ L)).Perm ((u :: v :: a) ++ (K ++ L)) := by
        rw [← List.append_assoc, ← List.append_assoc]
        exact (List.perm_append_comm).append_right L
      simpa using q
    exact e _ _ _
  have d := P.d.of s
  exact ⟨d, pl_d d P.e, P.same, P.rel⟩
theorem Pl.less {x : Nat × Obj} (P : Pl w W p h m D hc ks q hm cm M hcm km (x :: L)) : Pl w W p h m D hc ks q hm cm M hcm km L := by
  have d := P.d.of ((P.d.st.perm stL_perm).sub)
  exact ⟨d, pl_d d P.e, P.same, P.rel⟩
theorem Pl.drewN (P : Pl w W p h m D hc ks q hm cm M hcm km L) (n : Nat) : Pl w (W.drewN n) p h m D hc ks q hm cm M hcm km L :=
  ⟨P.d.of (P.d.st.drewN n), P.e.of (P.e.st.drewN n), P.same, P.rel⟩
theorem Pl.drew (P : Pl w W p h m D hc ks q hm cm M hcm km L) : Pl w W.drew p h m D hc ks q hm cm M hcm km L :=
  ⟨P.d.of P.d.st.drew, P.e.of P.e.st.drew, P.same, P.rel⟩
/-- A cell of what lies behind. -/
theorem Pl.extra {g : Nat} {A : Array Value} {t : TypeId} (P : Pl w W p h m D hc ks q hm cm M hcm km L) (hin : (g, Obj.cells A t (0, 0)) ∈ L) (j : Nat) : W.cell? ⟨g, j, none⟩ = A[j]? := by
  have hx := P.d.st.mem.at_ (g, .cells A t (0, 0)) (List.mem_cons_of_mem _ (List.mem_cons_of_mem _ (List.mem_append_right _ (List.mem_cons_of_mem _ (List.mem_cons_of_mem _ (List.mem_append_right _ hin))))))
  exact cell_of hx j
theorem Pl.extraFree {g : Nat} {A : Array Value} {t : TypeId} (P : Pl w W p h m D hc ks q hm cm M hcm km L) (hin : (g, Obj.cells A t (0, 0)) ∈ L) (j : Nat) : W.frozen? ⟨g, j, none⟩ = false := by
  have hx := P.d.st.mem.at_ (g, .cells A t (0, 0)) (List.mem_cons_of_mem _ (List.mem_cons_of_mem _ (List.mem_append_right _ (List.mem_cons_of_mem _ (List.mem_cons_of_mem _ (List.mem_append_right _ hin))))))
  simp [World.frozen?, hx]
theorem Pl.extraRow {g : Nat} {l : List Int} (P : Pl w W p h m D hc ks q hm cm M hcm km L) (hin : (g, Obj.cells (bs l) 5 (0, 0)) ∈ L) (hb : IsBytes l) (hl : l.length ≤ 140737488351232) : Row W (some ⟨g, 0, none⟩) l :=
  P.d.st.mem.rowIn (List.mem_cons_of_mem _ (List.mem_cons_of_mem _ (List.mem_append_right _ (List.mem_cons_of_mem _ (List.mem_cons_of_mem _ (List.mem_append_right _ hin)))))) hb hl
theorem md_neq (E : MdAt w W q hm m cm M hcm km L) {g : Nat} {o : Obj} (hin : (g, o) ∈ L) : q ≠ g := by
  have hx : (g, o) ∈ (hm, Obj.cells hcm 31 (0, 0)) :: (km.map Bk.ob ++ L) := List.mem_cons_of_mem _ (List.mem_append_right _ hin)
  have hn := E.st.mem.apart
  simp only [stL, List.map_cons, List.nodup_cons] at hn
  intro e
  subst e
  have hy : q ∈ List.map Prod.fst ((hm, Obj.cells hcm 31 (0, 0)) :: (km.map Bk.ob ++ L)) := List.mem_map.mpr ⟨_, hx, rfl⟩
  exact hn.1 hy
theorem Pl.neq (P : Pl w W p h m D hc ks q hm cm M hcm km L) {g : Nat} {o : Obj} (hin : (g, o) ∈ L) : q ≠ g :=
  md_neq P.e (List.mem_cons_of_mem _ (List.mem_cons_of_mem _ (List.mem_append_right _ hin)))
/-- A store into the first of what lies behind. -/
theorem Pl.put {g : Nat} {A : Array Value} {t : TypeId} (P : Pl w W p h m D hc ks q hm cm M hcm km ((g, .cells A t (0, 0)) :: L)) (j : Nat) (v : Value) : Pl w (W.setCell ⟨g, j, none⟩ v) p h m D hc ks q hm cm M hcm km ((g, .cells (A.setIfInBounds j v) t (0, 0)) :: L) := by
  have s1 := (P.d.st.perm stL_perm).extraSet j v
  have d := P.d.of (s1.perm stL_perm.symm)
  exact ⟨d, pl_d d P.e, P.same, P.rel⟩
end
end Go.Proofs.Ytjabckgjnknhnaa
