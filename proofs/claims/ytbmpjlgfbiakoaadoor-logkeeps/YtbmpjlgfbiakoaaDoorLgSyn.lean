/-
  Plain mathematics of the log: the store holds the last of the records that were acknowledged, whatever write fails.
-/
import Derived.Test.YtbmpjlgfbiakoaaDoorLgNext
namespace Go.Proofs.YtbmpjlgfbiakoaaDoor
open Sm
set_option linter.unusedVariables false

/-- The store holds the last of all, and maybe the one ahead of it. -/
def Syn (B : Int) (all : List (List Int)) (bl : List (List Int)) : Prop :=
  (all = [] ∧ rd bl 0 = none ∧ rd bl 1 = none) ∨
  ∃ q : En, q.s ≤ 1 ∧ rd bl q.s = some q ∧ q.c = all.length ∧ all.getLast? = some q.r ∧ 1 ≤ q.t ∧ q.t ≤ B ∧
    (rd bl (1 - q.s) = none ∨ ∃ o : En, rd bl (1 - q.s) = some o ∧ 0 ≤ o.t ∧ o.t < q.t ∧ 0 ≤ o.c ∧ o.c ≤ 1000000 ∧ (o.c + 1 = q.c → all.dropLast.getLast? = some o.r))
theorem ltr_small {a b : Int} (ha : 0 ≤ a) (ha1 : a ≤ 1000000) (hb : 0 ≤ b) (hb1 : b ≤ 1000000) : ltr a b = decide (b < a) := by
  unfold ltr
  have e : IntKind.u64.wrap (a - b) = (a - b) % 18446744073709551616 := by simp [IntKind.wrap, IntKind.bits, IntKind.signed]
  rw [e, IntKind.wrap_i64]
  by_cases h : b < a
  · rw [decide_eq_true h, decide_eq_true (by omega)]
  · rw [decide_eq_false h, decide_eq_false (by omega)]
theorem fd_of {bl : List (List Int)} {q : En} (hs : q.s ≤ 1) (h : rd bl q.s = some q) (ho : rd bl (1 - q.s) = none ∨ ∃ o : En, rd bl (1 - q.s) = some o ∧ 0 ≤ o.t ∧ o.t < q.t) (hq : q.t ≤ 1000000) : fd bl = (rd bl (1 - q.s)).toList ++ [q] := by
  unfold fd
  rcases Nat.le_one_iff_eq_zero_or_eq_one.mp hs with e | e
  · rw [e] at h ho ⊢
    rw [h]
    rcases ho with ho | ⟨o, ho, h1, h2⟩
    · simp only [Nat.sub_zero] at ho ⊢; rw [ho]; rfl
    · simp only [Nat.sub_zero] at ho ⊢; rw [ho]
      simp only [ltr_small (a := q.t) (b := o.t) (by omega) hq h1 (by omega), decide_eq_true h2, if_true]
      rfl
  · rw [e] at h ho ⊢
    rw [h]
    rcases ho with ho | ⟨o, ho, h1, h2⟩
    · simp only [Nat.sub_self] at ho ⊢; rw [ho]; rfl
    · simp only [Nat.sub_self] at ho ⊢; rw [ho]
      have : ¬ q.t < o.t := by omega
      simp only [ltr_small (a := o.t) (b := q.t) h1 (by omega) (by omega) hq, decide_eq_false this]
      rfl
theorem syn_fd {B : Int} {all bl : List (List Int)} (h : Syn B all bl) (hB : B ≤ 1000000) : (all = [] ∧ fd bl = []) ∨ ∃ q : En, q.s ≤ 1 ∧ rd bl q.s = some q ∧ q.c = all.length ∧ all.getLast? = some q.r ∧ 1 ≤ q.t ∧ q.t ≤ B ∧ (fd bl = [q] ∨ ∃ o : En, fd bl = [o, q] ∧ rd bl (1 - q.s) = some o ∧ 0 ≤ o.c ∧ o.c ≤ 1000000 ∧ (o.c + 1 = q.c → all.dropLast.getLast? = some o.r)) := by
  rcases h with ⟨h1, h2, h3⟩ | ⟨q, h1, h2, h3, h4, h5, h6, h7⟩
  · left; exact ⟨h1, by unfold fd; rw [h2, h3]⟩
  · right
    refine ⟨q, h1, h2, h3, h4, h5, h6, ?_⟩
    rcases h7 with h7 | ⟨o, h7, h8, h9, h10, h11, h12⟩
    · left; rw [fd_of h1 h2 (Or.inl h7) (by omega), h7]; rfl
    · right; exact ⟨o, by rw [fd_of h1 h2 (Or.inr ⟨o, h7, h8, h9⟩) (by omega), h7]; rfl, h7, h10, h11, h12⟩
/-- The newest entry is the last record. -/
theorem syn_nw {B : Int} {all bl : List (List Int)} (h : Syn B all bl) (hB : B ≤ 1000000) (hB0 : 0 ≤ B) : (nw (fd bl)).c = all.length ∧ (nw (fd bl)).r = all.getLastD [] ∧ 0 ≤ (nw (fd bl)).t ∧ (nw (fd bl)).t ≤ B := by
  rcases syn_fd h hB with ⟨rfl, e⟩ | ⟨q, h1, h2, h3, h4, h5, h6, e | ⟨o, e, _⟩⟩
  · rw [e]; exact ⟨rfl, rfl, Int.le_refl _, hB0⟩
  · rw [e, List.getLastD_eq_getLast?, h4]; exact ⟨h3, rfl, by show 0 ≤ q.t; omega, h6⟩
  · rw [e, List.getLastD_eq_getLast?, h4]; exact ⟨h3, rfl, by show 0 ≤ q.t; omega, h6⟩
/-- What is kept is the end of all. -/
def Ends (got all : List (List Int)) : Prop := got.length ≤ all.length ∧ (got = [] → all = []) ∧ got = all.drop (all.length - got.length)
theorem ends_one {all : List (List Int)} {r : List Int} (h : all.getLast? = some r) : Ends [r] all := by
  rcases List.eq_nil_or_concat all with e | ⟨l, x, e⟩
  · subst e; simp at h
  · subst e
    simp at h; subst h
    refine ⟨by simp, by simp, ?_⟩
    simp
theorem ends_two {all : List (List Int)} {r s : List Int} (h : all.getLast? = some r) (h2 : all.dropLast.getLast? = some s) : Ends [s, r] all := by
  rcases List.eq_nil_or_concat all with e | ⟨l, x, e⟩
  · subst e; simp at h
  · subst e
    simp at h h2; subst h
    rcases List.eq_nil_or_concat l with e | ⟨l', y, e⟩
    · subst e; simp at h2
    · subst e
      simp at h2; subst h2
      refine ⟨by simp, by simp, ?_⟩
      simp
theorem syn_kp {B : Int} {all bl : List (List Int)} (h : Syn B all bl) (hB : B ≤ 1000000) : Ends (kp (fd bl)) all := by
  rcases syn_fd h hB with ⟨rfl, e⟩ | ⟨q, h1, h2, h3, h4, h5, h6, e | ⟨o, e, h7, h8, h9, h10⟩⟩
  · rw [e]; exact ⟨by simp [kp, kpL], fun _ => rfl, by simp [kp, kpL]⟩
  · rw [e]; exact ends_one h4
  · rw [e]
    have e2 : kp [o, q] = (if IntKind.i64.wrap (o.c + 1) = q.c then [o.r] else []) ++ [q.r] := rfl
    rw [e2, show IntKind.i64.wrap (o.c + 1) = o.c + 1 by rw [IntKind.wrap_i64]; omega]
    by_cases hc : o.c + 1 = q.c
    · rw [if_pos hc]; exact ends_two h4 (h10 hc)
    · rw [if_neg hc]; exact ends_one h4
theorem kp_last {B : Int} {all bl : List (List Int)} (h : Syn B all bl) (hB : B ≤ 1000000) (hne : all ≠ []) : (kp (fd bl)).getLast? = all.getLast? ∧ kp (fd bl) ≠ [] := by
  have he := syn_kp h hB
  obtain ⟨h1, h2, h3⟩ := he
  have h4 : kp (fd bl) ≠ [] := fun e => hne (h2 e)
  refine ⟨?_, h4⟩
  rw [h3, List.getLast?_drop, if_neg]
  have : 0 < (kp (fd bl)).length := List.length_pos_iff.mpr h4
  omega
/-- A store that was never written. -/
theorem unf_zeros (m : Nat) (hm : 0 < m) : unf (List.replicate m 0) = none := by
  refine unf_no0 _ ?_
  obtain ⟨k, rfl⟩ : ∃ k, m = k + 1 := ⟨m - 1, by omega⟩
  simp [List.replicate_succ]
theorem unf_nil : unf [] = none := unf_no0 _ (by simp)
theorem rd_zeros (n m slot : Nat) (hm : 0 < m) : rd (List.replicate n (List.replicate m 0)) slot = none := by
  refine rd_no ?_
  by_cases h : slot * sbk (List.replicate n (List.replicate m (0 : Int))).length < n
  · have : (List.replicate n (List.replicate m (0 : Int))).getD (slot * sbk (List.replicate n (List.replicate m (0 : Int))).length) [] = List.replicate m 0 := by
      rw [List.getD, List.getElem?_replicate, if_pos h]; rfl
    rw [this]; exact unf_zeros m hm
  · have : (List.replicate n (List.replicate m (0 : Int))).getD (slot * sbk (List.replicate n (List.replicate m (0 : Int))).length) [] = [] := by
      rw [List.getD, List.getElem?_replicate, if_neg h]; rfl
    rw [this]; exact unf_nil
theorem syn_new (n m : Nat) (hm : 0 < m) : Syn 0 [] (List.replicate n (List.replicate m 0)) := Or.inl ⟨rfl, rd_zeros n m 0 hm, rd_zeros n m 1 hm⟩
theorem syn_more {B C : Int} {all bl : List (List Int)} (h : Syn B all bl) (hC : B ≤ C) : Syn C all bl := by
  rcases h with h | ⟨q, h1, h2, h3, h4, h5, h6, h7⟩
  · exact Or.inl h
  · exact Or.inr ⟨q, h1, h2, h3, h4, h5, by omega, h7⟩
/-- The next entry of a log that is as its store. -/
theorem syn_nxt {B : Int} {all bl : List (List Int)} (h : Syn B all bl) (hB : B ≤ 900000) (hB0 : 0 ≤ B) (hl : all.length ≤ 900000) {t c : Int} (ht : t = (nw (fd bl)).t) (hc : c = (nw (fd bl)).c) (r : List Int) :
    (nxt t c (nw (fd bl)) r).s = 1 - (nw (fd bl)).s ∧ (nxt t c (nw (fd bl)) r).t = t + 1 ∧ (nxt t c (nw (fd bl)) r).c = all.length + 1 ∧ (nxt t c (nw (fd bl)) r).r = r := by
  obtain ⟨n1, n2, n3, n4⟩ := syn_nw h (by omega) hB0
  refine ⟨rfl, ?_, ?_, rfl⟩
  · simp only [nxt, ht]
    have e : IntKind.u64.wrap ((nw (fd bl)).t + 1) = ((nw (fd bl)).t + 1) % 18446744073709551616 := by simp [IntKind.wrap, IntKind.bits, IntKind.signed]
    rw [e]; omega
  · have hlt : ltr (nw (fd bl)).t t = false := by rw [ltr_small n3 (by omega) (by omega) (by omega)]; exact decide_eq_false (by omega)
    simp only [nxt, hlt, hc]
    rw [if_neg (by decide), IntKind.wrap_i64]; omega
theorem nw_of {bl : List (List Int)} {q : En} (hs : q.s ≤ 1) (h : rd bl q.s = some q) (ho : rd bl (1 - q.s) = none ∨ ∃ o : En, rd bl (1 - q.s) = some o ∧ 0 ≤ o.t ∧ o.t < q.t) (hq : q.t ≤ 1000000) : nw (fd bl) = q := by
  rw [fd_of hs h ho hq, nw, List.getLastD_eq_getLast?, List.getLast?_append]
  rfl
/-- The slot ahead: what it holds is the last of all, or nothing. -/
theorem syn_ahead {B : Int} {all bl : List (List Int)} (h : Syn B all bl) (hB : B ≤ 1000000) : (all = [] ∧ nw (fd bl) = En.zero ∧ rd bl 0 = none ∧ rd bl 1 = none) ∨ (rd bl (nw (fd bl)).s = some (nw (fd bl)) ∧ (nw (fd bl)).s ≤ 1 ∧ all ≠ []) := by
  rcases h with ⟨h1, h2, h3⟩ | ⟨q, h1, h2, h3, h4, h5, h6, h7⟩
  · left; exact ⟨h1, by unfold fd; rw [h2, h3]; rfl, h2, h3⟩
  · right
    have : nw (fd bl) = q := nw_of h1 h2 (by
      rcases h7 with h7 | ⟨o, h7, h8, h9, _⟩
      · exact Or.inl h7
      · exact Or.inr ⟨o, h7, h8, h9⟩) (by omega)
    rw [this]
    exact ⟨h2, h1, fun e => by rw [e] at h4; simp at h4⟩
/-- Its slot holds the entry whole: it is the last of all. -/
theorem syn_whole {B : Int} {all bl bl' : List (List Int)} (h : Syn B all bl) (hB : B ≤ 900000) (hB0 : 0 ≤ B) (hl : all.length ≤ 900000) {t c : Int} (ht : t = (nw (fd bl)).t) (hc : c = (nw (fd bl)).c) (r : List Int)
    (h1 : rd bl' (nxt t c (nw (fd bl)) r).s = some (nxt t c (nw (fd bl)) r)) (h2 : rd bl' (1 - (nxt t c (nw (fd bl)) r).s) = rd bl (1 - (nxt t c (nw (fd bl)) r).s)) : Syn (B + 1) (all ++ [r]) bl' ∧ nw (fd bl') = nxt t c (nw (fd bl)) r := by
  obtain ⟨x1, x2, x3, x4⟩ := syn_nxt h hB hB0 hl ht hc r
  obtain ⟨n1, n2, n3, n4⟩ := syn_nw h (by omega) hB0
  have hqs := syn_ahead h (by omega)
  generalize hE : nxt t c (nw (fd bl)) r = e at *
  have hes : e.s ≤ 1 := by omega
  have hother : rd bl' (1 - e.s) = none ∨ ∃ o : En, rd bl' (1 - e.s) = some o ∧ 0 ≤ o.t ∧ o.t < e.t ∧ 0 ≤ o.c ∧ o.c ≤ 1000000 ∧ (o.c + 1 = e.c → (all ++ [r]).dropLast.getLast? = some o.r) := by
    rw [h2]
    rcases hqs with ⟨a1, a2, a3, a4⟩ | ⟨a1, a2, a3⟩
    · left
      rcases Nat.le_one_iff_eq_zero_or_eq_one.mp (show 1 - e.s ≤ 1 by omega) with e0 | e0 <;> rw [e0]
      · exact a3
      · exact a4
    · right
      have e0 : 1 - e.s = (nw (fd bl)).s := by omega
      rw [e0]
      refine ⟨_, a1, n3, by omega, by omega, by omega, fun _ => ?_⟩
      rw [List.dropLast_concat, n2]
      rw [List.getLastD_eq_getLast?]
      cases hx : all.getLast? with
      | none => exact absurd (List.getLast?_eq_none_iff.mp hx) a3
      | some z => rfl
  refine ⟨Or.inr ⟨e, hes, h1, by rw [x3]; simp, by rw [List.getLast?_concat, x4], by omega, by omega, hother⟩, ?_⟩
  exact nw_of hes h1 (by
    rcases hother with q | ⟨o, q1, q2, q3, _⟩
    · exact Or.inl q
    · exact Or.inr ⟨o, q1, q2, q3⟩) (by omega)
/-- Its slot holds nothing whole: all is as it was. -/
theorem syn_lost {B : Int} {all bl bl' : List (List Int)} (h : Syn B all bl) (hB : B ≤ 900000) {s : Nat} (hs : s = 1 - (nw (fd bl)).s) (h1 : rd bl' s = none) (h2 : rd bl' (1 - s) = rd bl (1 - s)) : Syn B all bl' := by
  have hqs := syn_ahead h (by omega)
  rcases h with ⟨a1, a2, a3⟩ | ⟨q, b1, b2, b3, b4, b5, b6, b7⟩
  · left
    refine ⟨a1, ?_, ?_⟩
    · rcases Nat.le_one_iff_eq_zero_or_eq_one.mp (show s ≤ 1 by omega) with e | e
      · rw [e] at h1; exact h1
      · rw [e] at h2; rw [show (0 : Nat) = 1 - 1 by rfl, h2]; exact a2
    · rcases Nat.le_one_iff_eq_zero_or_eq_one.mp (show s ≤ 1 by omega) with e | e
      · rw [e] at h2; rw [show (1 : Nat) = 1 - 0 by rfl, h2]; exact a3
      · rw [e] at h1; exact h1
  · have hq : nw (fd bl) = q := nw_of b1 b2 (by
      rcases b7 with h7 | ⟨o, h7, h8, h9, _⟩
      · exact Or.inl h7
      · exact Or.inr ⟨o, h7, h8, h9⟩) (by omega)
    rw [hq] at hs
    have e1 : 1 - s = q.s := by omega
    have e2 : 1 - q.s = s := by omega
    refine Or.inr ⟨q, b1, by rw [← e1, h2, e1]; exact b2, b3, b4, b5, b6, Or.inl (by rw [e2]; exact h1)⟩
/-- Both slots as they were. -/
theorem syn_same {B : Int} {all bl bl' : List (List Int)} (h : Syn B all bl) {s : Nat} (hs : s ≤ 1) (h1 : rd bl' s = rd bl s) (h2 : rd bl' (1 - s) = rd bl (1 - s)) : Syn B all bl' := by
  have e0 : rd bl' 0 = rd bl 0 := by
    rcases Nat.le_one_iff_eq_zero_or_eq_one.mp hs with e | e
    · rw [e] at h1; exact h1
    · rw [e] at h2; exact h2
  have e1 : rd bl' 1 = rd bl 1 := by
    rcases Nat.le_one_iff_eq_zero_or_eq_one.mp hs with e | e
    · rw [e] at h2; exact h2
    · rw [e] at h1; exact h1
  have e2 : ∀ k, k ≤ 1 → rd bl' k = rd bl k := by
    intro k hk
    rcases Nat.le_one_iff_eq_zero_or_eq_one.mp hk with e | e <;> rw [e]
    · exact e0
    · exact e1
  rcases h with ⟨a1, a2, a3⟩ | ⟨q, b1, b2, b3, b4, b5, b6, b7⟩
  · exact Or.inl ⟨a1, by rw [e0]; exact a2, by rw [e1]; exact a3⟩
  · exact Or.inr ⟨q, b1, by rw [e2 _ b1]; exact b2, b3, b4, b5, b6, by rw [e2 _ (by omega)]; exact b7⟩
/-- An Append that goes well. -/
theorem syn_ok {n m : Nat} {B : Int} {all bl : List (List Int)} (h : Syn B all bl) (hB : B ≤ 900000) (hB0 : 0 ≤ B) (hl : all.length ≤ 900000) {t c : Int} (ht : t = (nw (fd bl)).t) (hc : c = (nw (fd bl)).c) {r : List Int} (he : EnOk n m (nxt t c (nw (fd bl)) r)) (hn : bl.length = n) :
    Syn (B + 1) (all ++ [r]) (part m (nxt t c (nw (fd bl)) r) bl (npc (m - 64) (nxt t c (nw (fd bl)) r).r.length)) ∧ nw (fd (part m (nxt t c (nw (fd bl)) r) bl (npc (m - 64) (nxt t c (nw (fd bl)) r).r.length))) = nxt t c (nw (fd bl)) r :=
  syn_whole h hB hB0 hl ht hc r (Left.whole he hn) (Left.other he hn .all)
/-- An Append that fails. -/
theorem syn_fail {n m : Nat} {B : Int} {all bl bl' : List (List Int)} (h : Syn B all bl) (hB : B ≤ 900000) (hB0 : 0 ≤ B) (hl : all.length ≤ 900000) {t c : Int} (ht : t = (nw (fd bl)).t) (hc : c = (nw (fd bl)).c) {r : List Int} (he : EnOk n m (nxt t c (nw (fd bl)) r)) (hn : bl.length = n) (hb : ∀ b ∈ bl, b.length = m)
    (hL : Left m (nxt t c (nw (fd bl)) r) bl bl') : Syn B all bl' ∨ Syn (B + 1) (all ++ [r]) bl' := by
  have ho := Left.other he hn hL
  have hs := (syn_nxt h hB hB0 hl ht hc r).1
  rcases Left.own he hn hb hL with e | e | e
  · left; exact syn_same h he.s e ho
  · left; exact syn_lost h hB hs e ho
  · right; exact (syn_whole h hB hB0 hl ht hc r e ho).1
end Go.Proofs.YtbmpjlgfbiakoaaDoor
