/-
  DiskPlays: the statements' own store while it is laid.
-/
import Derived.Test.YtjabckgjnknhnaaDkRel
namespace Go.Proofs.Ytjabckgjnknhnaa
open Go.RowKit
open Sm
set_option linter.unusedVariables false

abbrev D0 : Dk := ⟨false, false, 0, 0⟩
abbrev mdN (v : Value) (m : Nat) : Array Value := #[v, .int .i64 m, .bool false, .bool false, .int .i64 0, .int .i64 0]
def nots (m : Nat) : List Int := List.replicate m 0
/-- So many blocks are laid. -/
structure Grow (w W : World) (p h m : Nat) (hc : Array Value) (ks : List Bk) (q : Nat) (v : Value) (i : Nat) : Prop where
  d : ∃ R, DkAt w W p h m D0 hc ks ((q, .cells (mdN v m) mdT (0, 0)) :: R) ∧
    ((i = 0 ∧ v = .slice none 0 0 ∧ R = []) ∨ ∃ (hm cm : Nat) (hcm : Array Value) (km : List Bk), R = (hm, .cells hcm 31 (0, 0)) :: (km.map Bk.ob ++ []) ∧ v = .slice (some ⟨hm, 0, none⟩) i cm ∧ km.length = i ∧ i ≤ cm ∧ cm ≤ hcm.size ∧
      hcm.toList.take i = km.map (Bk.hd m) ∧ (∀ k ∈ km, k.Ok m) ∧ km.map Bk.b = List.replicate i (nots m))

section
variable {w W : World} {p h m : Nat} {hc : Array Value} {ks : List Bk} {q : Nat} {v : Value} {i : Nat}
theorem Grow.box (G : Grow w W p h m hc ks q v i) (j : Nat) : W.cell? ⟨q, j, none⟩ = (mdN v m)[j]? := by
  obtain ⟨R, H, _⟩ := G.d
  exact H.st.extraCell j
theorem Grow.free (G : Grow w W p h m hc ks q v i) (j : Nat) : W.frozen? ⟨q, j, none⟩ = false := by
  obtain ⟨R, H, _⟩ := G.d
  exact H.st.extraFree j

/-- A block made, laid into a row of one, and put behind: what the box then wants. -/
theorem Grow.next (G : Grow w W p h m hc ks q v i) (hi : i ≤ 100) {W1 : World} {g gt : Nat} (hk : Mem W W1 [(g, .cells (bs (nots m)) 5 (0, 0)), (gt, .cells #[.slice (some ⟨g, 0, none⟩) m m] 31 (0, 0))]) (ty : TypeId) :
    ∃ v' W', (Builtin.append_ #[28, 28] ty #[v, .slice (some ⟨gt, 0, none⟩) 1 1]).run Try.prog W1 = .ok v' W' ∧ v'.oneCell' = true ∧ (∃ a b c, v' = .slice a b c) ∧
      W'.cell? ⟨q, 0, none⟩ = some v ∧ W'.frozen? ⟨q, 0, none⟩ = false ∧ Grow w (W'.setCell ⟨q, 0, none⟩ v') p h m hc ks q v' (i + 1) := by
  obtain ⟨R, H, hR⟩ := G.d
  have hmhi := H.mhi
  have s1 := H.st.join hk
  have hone : W1.cell? ⟨gt, 0, none⟩ = some (.slice (some ⟨g, 0, none⟩) m m) := hk.cell 1 rfl 0
  have kok : (Bk.mk g m (bs (nots m)) (nots m)).Ok m := made_ok g m
  -- all that stays
  have key : ∀ (Rs Rk : List (Nat × Obj)) (W2 : World), Mem w W2 ((p, .cells (dkA h ks.length D0) dkT (0, 0)) :: (h, .cells hc 31 (0, 0)) :: (ks.map Bk.ob ++ ((q, .cells (mdN v m) mdT (0, 0)) :: Rs))) →
      DkAt w W2 p h m D0 hc ks ((q, .cells (mdN v m) mdT (0, 0)) :: Rs) := fun Rs Rk W2 hm => ⟨⟨hm, H.st.heads, H.st.ok⟩, H.pos, H.top, H.mlo, H.mhi, H.left, H.pre⟩
  rcases hR with ⟨rfl, rfl, rfl⟩ | ⟨hm, cm, hcm, km, rfl, rfl, hlen, hcap, hsz, hheads, hok, hB⟩
  · obtain ⟨h', c', W', hr, hc', hc1, hc2, hc3, hM⟩ := append_first s1.mem ty ⟨gt, 0, none⟩ _ hone
    have hM2 : Mem w W' ((p, .cells (dkA h ks.length D0) dkT (0, 0)) :: (h, .cells hc 31 (0, 0)) :: (ks.map Bk.ob ++ ((q, .cells (mdN (.slice none 0 0) m) mdT (0, 0)) :: ((h', .cells hc' 31 (0, 0)) :: ([Bk.mk g m (bs (nots m)) (nots m)].map Bk.ob ++ []))))) := by
      have e : ((h', Obj.cells hc' 31 (0, 0)) :: stL p (dkA h ks.length D0) dkT h hc ks ([(g, .cells (bs (nots m)) 5 (0, 0)), (gt, .cells #[.slice (some ⟨g, 0, none⟩) m m] 31 (0, 0))] ++ [(q, .cells (mdN (.slice none 0 0) m) mdT (0, 0))])).Perm
          ((gt, .cells #[.slice (some ⟨g, 0, none⟩) m m] 31 (0, 0)) :: ((p, .cells (dkA h ks.length D0) dkT (0, 0)) :: (h, .cells hc 31 (0, 0)) :: (ks.map Bk.ob ++ ((q, .cells (mdN (.slice none 0 0) m) mdT (0, 0)) :: ((h', .cells hc' 31 (0, 0)) :: ([Bk.mk g m (bs (nots m)) (nots m)].map Bk.ob ++ [])))))) := by
        classical
        apply List.perm_iff_count.mpr
        intro x
        simp only [stL, List.count_cons, List.count_append, List.map_cons, List.map_nil, List.count_nil, Bk.ob]
        omega
      exact (hM.perm e).sub
    have H2 := key _ [] W' hM2
    refine ⟨_, _, hr, rfl, ⟨_, _, _, rfl⟩, ?_, H2.st.extraFree 0, ?_⟩
    · rw [H2.st.extraCell 0]; rfl
    · have s3 := H2.st.extraSet 0 (.slice (some ⟨h', 0, none⟩) 1 c')
      refine ⟨_, ⟨s3, H.pos, H.top, H.mlo, H.mhi, H.left, H.pre⟩, Or.inr ⟨h', c', hc', [Bk.mk g m (bs (nots m)) (nots m)], rfl, rfl, rfl, hc1, hc2, hc3, fun k hk => ?_, rfl⟩⟩
      simp at hk; subst hk; exact kok
  · have hMh : Mem w W1 ((hm, .cells hcm 31 (0, 0)) :: ((gt, .cells #[.slice (some ⟨g, 0, none⟩) m m] 31 (0, 0)) :: ((p, .cells (dkA h ks.length D0) dkT (0, 0)) :: (h, .cells hc 31 (0, 0)) :: (ks.map Bk.ob ++ ((q, .cells (mdN (.slice (some ⟨hm, 0, none⟩) i cm) m) mdT (0, 0)) :: (km ++ [Bk.mk g m (bs (nots m)) (nots m)]).map Bk.ob))))) := by
      refine s1.mem.perm ?_
      classical
      apply List.perm_iff_count.mpr
      intro x
      simp only [stL, List.count_cons, List.count_append, List.map_append, List.map_cons, List.map_nil, List.count_nil, Bk.ob]
      omega
    obtain ⟨h', c', W', hr, hc', hc1, hc2, hc3, hM⟩ := append_head hMh hcap hsz (by omega) ty ⟨gt, 0, none⟩ _ rfl hone
    have hM2 : Mem w W' ((p, .cells (dkA h ks.length D0) dkT (0, 0)) :: (h, .cells hc 31 (0, 0)) :: (ks.map Bk.ob ++ ((q, .cells (mdN (.slice (some ⟨hm, 0, none⟩) i cm) m) mdT (0, 0)) :: ((h', .cells hc' 31 (0, 0)) :: ((km ++ [Bk.mk g m (bs (nots m)) (nots m)]).map Bk.ob ++ []))))) := by
      have e := hM.perm (List.Perm.swap _ _ _)
      refine e.sub.perm ?_
      classical
      apply List.perm_iff_count.mpr
      intro x
      simp only [List.count_cons, List.count_append, List.count_nil]
      omega
    have H2 := key _ [] W' hM2
    refine ⟨_, _, hr, rfl, ⟨_, _, _, rfl⟩, ?_, H2.st.extraFree 0, ?_⟩
    · rw [H2.st.extraCell 0]; rfl
    · have s3 := H2.st.extraSet 0 (.slice (some ⟨h', 0, none⟩) (i + 1) c')
      refine ⟨_, ⟨s3, H.pos, H.top, H.mlo, H.mhi, H.left, H.pre⟩, Or.inr ⟨h', c', hc', km ++ [Bk.mk g m (bs (nots m)) (nots m)], rfl, rfl, by simp [hlen], hc1, hc2, ?_, fun k hk => ?_, ?_⟩⟩
      · rw [hc3, hheads, List.map_append]; rfl
      · rcases List.mem_append.mp hk with a | a
        · exact hok k a
        · simp at a; subst a; exact kok
      · rw [List.map_append, hB, List.replicate_succ']; rfl
/-- All are laid. -/
theorem Grow.pl (G : Grow w W p h m hc ks q v i) (hi : 0 < i) (hks : ks.map Bk.b = List.replicate i (nots m)) : ∃ hm cm hcm km, v = .slice (some ⟨hm, 0, none⟩) i cm ∧ km.length = i ∧ Pl w W p h m D0 hc ks q hm cm D0 hcm km [] := by
  obtain ⟨R, H, hR⟩ := G.d
  rcases hR with ⟨rfl, _⟩ | ⟨hm, cm, hcm, km, rfl, rfl, hlen, hcap, hsz, hheads, hok, hB⟩
  · omega
  · refine ⟨hm, cm, hcm, km, rfl, hlen, ?_⟩
    subst hlen
    have d : DkAt w W p h m D0 hc ks (stL q (mdA hm km.length cm m D0) mdT hm hcm km []) := H
    refine ⟨d, ⟨H.st.swap (L := []) (p2 := q) (A2 := mdA hm km.length cm m D0) (T2 := mdT) (h2 := hm) (hc2 := hcm) (ks2 := km) hheads hok, H.mlo, H.mhi, hcap, by decide, ⟨Int.le_refl 0, Int.natCast_nonneg m⟩⟩, by rw [hks, hB], ⟨rfl, fun _ => ⟨rfl, fun _ => ⟨rfl, rfl⟩⟩⟩⟩
end
end Go.Proofs.Ytjabckgjnknhnaa
