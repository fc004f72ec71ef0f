/-
  Wheel, the program's own: its calls keep what is asked of them.
-/
import Derived.Test.YtfplmefcblkljaaWpTick
namespace Go.Proofs.Ytfplmefcblkljaa
open Go.RowKit
open Sm
open Po
open Wh
set_option linter.unusedVariables false
set_option linter.unusedSimpArgs false
set_option maxRecDepth 20000

namespace Wp
abbrev ids (xs : List Du) : List Int := xs.map (·.1)
theorem wat_mem : ∀ {xs : List Du}, (ids xs).Nodup → ∀ {k t : Int}, wat k xs = some t ↔ (k, t) ∈ xs
  | [], _, k, t => by simp [wat]
  | d :: r, h, k, t => by
    obtain ⟨h1, h2⟩ := List.nodup_cons.1 h
    obtain ⟨i, a⟩ := d
    unfold wat
    simp only
    by_cases e : i = k
    · subst e
      rw [if_pos rfl]
      constructor
      · intro hh
        rw [Option.some.inj hh]
        exact List.mem_cons_self ..
      · intro hh
        rcases List.mem_cons.1 hh with hh | hh
        · rw [Prod.mk.inj hh |>.2]
        · exact absurd (List.mem_map.2 ⟨_, hh, rfl⟩) h1
    · rw [if_neg e, wat_mem h2]
      constructor
      · exact List.mem_cons_of_mem _
      · intro hh
        rcases List.mem_cons.1 hh with hh | hh
        · exact absurd (Prod.mk.inj hh).1.symm e
        · exact hh
theorem wat_ids {xs : List Du} {k : Int} : wat k xs ≠ none ↔ k ∈ ids xs := by
  induction xs with
  | nil => simp [wat]
  | cons d r ih =>
    unfold wat
    by_cases e : d.1 = k
    · simp [e]
    · rw [if_neg e]
      simp only [ids, List.map_cons, List.mem_cons]
      rw [ih]
      constructor
      · exact Or.inr
      · rintro (h | h)
        · exact absurd h.symm e
        · exact h
theorem wdel_sub (id : Int) : ∀ xs : List Du, (wdel id xs).Sublist xs
  | [] => List.Sublist.refl _
  | d :: r => by
    unfold wdel
    split
    · exact List.sublist_cons_self ..
    · exact (wdel_sub id r).cons_cons d
theorem wdel_mem {id : Int} : ∀ {xs : List Du}, (ids xs).Nodup → ∀ d : Du, d ∈ wdel id xs ↔ d ∈ xs ∧ d.1 ≠ id
  | [], _, d => by simp [wdel]
  | e :: r, h, d => by
    obtain ⟨h1, h2⟩ := List.nodup_cons.1 h
    unfold wdel
    by_cases he : e.1 = id
    · rw [if_pos he]
      constructor
      · intro hd
        refine ⟨List.mem_cons_of_mem _ hd, fun hh => h1 ?_⟩
        show e.1 ∈ List.map (·.1) r
        rw [he, ← hh]
        exact List.mem_map.2 ⟨d, hd, rfl⟩
      · rintro ⟨hd, hne⟩
        rcases List.mem_cons.1 hd with rfl | hd
        · exact absurd he hne
        · exact hd
    · rw [if_neg he, List.mem_cons, wdel_mem h2 d, List.mem_cons]
      constructor
      · rintro (rfl | ⟨a, b⟩)
        · exact ⟨Or.inl rfl, he⟩
        · exact ⟨Or.inr a, b⟩
      · rintro ⟨rfl | a, b⟩
        · exact Or.inl rfl
        · exact Or.inr ⟨a, b⟩
theorem wins_perm (d : Du) : ∀ xs : List Du, (wins d xs).Perm (d :: xs)
  | [] => List.Perm.refl _
  | e :: r => by
    unfold wins
    split
    · exact ((wins_perm d r).cons e).trans (List.Perm.swap ..)
    · exact List.Perm.refl _
theorem dlt_trans {a b c : Du} (h1 : dlt a b) (h2 : dlt b c) : dlt a c := by unfold dlt at *; omega
theorem wins_srt {d : Du} : ∀ {xs : List Du}, xs.Pairwise dlt → d ∉ xs → (wins d xs).Pairwise dlt
  | [], _, _ => by simp [wins]
  | e :: r, h, hd => by
    obtain ⟨h1, h2⟩ := List.pairwise_cons.1 h
    unfold wins
    by_cases he : dlt e d
    · rw [if_pos he]
      refine List.pairwise_cons.2 ⟨fun x hx => ?_, wins_srt h2 fun hh => hd (List.mem_cons_of_mem _ hh)⟩
      rcases List.mem_cons.1 ((wins_perm d r).mem_iff.1 hx) with rfl | hx
      · exact he
      · exact h1 x hx
    · rw [if_neg he]
      have hde : dlt d e := by
        have hne : d ≠ e := fun e1 => hd (e1 ▸ List.mem_cons_self ..)
        obtain ⟨i, a⟩ := d
        obtain ⟨j, b⟩ := e
        have : ¬ (i = j ∧ a = b) := fun ⟨x, y⟩ => hne (by rw [x, y])
        unfold dlt at *
        simp only at *
        omega
      refine List.pairwise_cons.2 ⟨fun x hx => ?_, h⟩
      rcases List.mem_cons.1 hx with rfl | hx
      · exact hde
      · exact dlt_trans hde (h1 x hx)
/-- Sorted, and each once. -/
def Srt (xs : List Du) : Prop := xs.Pairwise dlt ∧ (ids xs).Nodup
theorem srt_nil : Srt [] := ⟨List.Pairwise.nil, List.nodup_nil⟩
theorem Srt.del {xs : List Du} (h : Srt xs) (id : Int) : Srt (wdel id xs) := ⟨h.1.sublist (wdel_sub id xs), h.2.sublist ((wdel_sub id xs).map _)⟩
theorem opt_ext {β : Type} {a b : Option β} (h : ∀ t, a = some t ↔ b = some t) : a = b := by
  cases a with
  | none =>
    cases b with
    | none => rfl
    | some t => have := (h t).2 rfl; cases this
  | some t => exact ((h t).1 rfl).symm
theorem Srt.wat_del {xs : List Du} (h : Srt xs) (id : Int) : (fun k => wat k (wdel id xs)) = upd (fun k => wat k xs) id none := by
  funext k
  refine opt_ext fun t => ?_
  rw [wat_mem (h.del id).2, wdel_mem h.2]
  unfold upd
  by_cases e : k = id
  · rw [if_pos e]; simp [e]
  · rw [if_neg e, wat_mem h.2]; simp [e]
theorem del_no {xs : List Du} (h : Srt xs) (id t : Int) : (id, t) ∉ wdel id xs := fun hh => ((wdel_mem h.2 _).1 hh).2 rfl
theorem del_ids {xs : List Du} (h : Srt xs) (id : Int) : id ∉ ids (wdel id xs) := fun hh => by
  obtain ⟨d, hd, e⟩ := List.mem_map.1 hh
  exact ((wdel_mem h.2 d).1 hd).2 e
theorem Srt.set {xs : List Du} (h : Srt xs) (id t : Int) : Srt (wset xs id t) := by
  refine ⟨wins_srt (h.del id).1 (del_no h id t), ?_⟩
  have hp := (wins_perm (id, t) (wdel id xs)).map (·.1)
  unfold wset ids
  rw [hp.nodup_iff, List.map_cons, List.nodup_cons]
  exact ⟨del_ids h id, (h.del id).2⟩
theorem Srt.wat_set {xs : List Du} (h : Srt xs) (id t : Int) : (fun k => wat k (wset xs id t)) = upd (fun k => wat k xs) id (some t) := by
  funext k
  refine opt_ext fun u => ?_
  rw [wat_mem (h.set id t).2]
  unfold wset
  rw [(wins_perm (id, t) (wdel id xs)).mem_iff, List.mem_cons, wdel_mem h.2]
  unfold upd
  by_cases e : k = id
  · subst e
    rw [if_pos rfl]
    constructor
    · rintro (hh | ⟨-, hh⟩)
      · rw [(Prod.mk.inj hh).2]
      · exact absurd rfl hh
    · intro hh
      exact Or.inl (by rw [Option.some.inj hh])
  · rw [if_neg e, wat_mem h.2]
    constructor
    · rintro (hh | ⟨hh, -⟩)
      · exact absurd (Prod.mk.inj hh).1 e
      · exact hh
    · intro hh
      exact Or.inr ⟨hh, e⟩
theorem rest_mem {N : Int} : ∀ {xs : List Du}, xs.Pairwise dlt → ∀ d, d ∈ wrest N xs ↔ d ∈ xs ∧ ¬ d.2 ≤ N
  | [], _, d => by simp [wrest]
  | e :: r, h, d => by
    obtain ⟨h1, h2⟩ := List.pairwise_cons.1 h
    unfold wrest
    by_cases he : e.2 ≤ N
    · rw [if_pos he, rest_mem h2, List.mem_cons]
      constructor
      · rintro ⟨a, b⟩; exact ⟨Or.inr a, b⟩
      · rintro ⟨rfl | a, b⟩
        · exact absurd he b
        · exact ⟨a, b⟩
    · rw [if_neg he]
      constructor
      · intro hd
        refine ⟨hd, ?_⟩
        rcases List.mem_cons.1 hd with rfl | hd
        · exact he
        · have := h1 d hd
          unfold dlt at this
          omega
      · exact fun hd => hd.1
theorem rest_sub (N : Int) : ∀ xs : List Du, (wrest N xs).Sublist xs
  | [] => List.Sublist.refl _
  | e :: r => by
    unfold wrest
    split
    · exact (rest_sub N r).cons _
    · exact List.Sublist.refl _
theorem Srt.rest {xs : List Du} (h : Srt xs) (N : Int) : Srt (wrest N xs) := ⟨h.1.sublist (rest_sub N xs), h.2.sublist ((rest_sub N xs).map _)⟩
/-- What is told, with its ticks. -/
def wpre (N : Int) : List Du → List Du
  | [] => []
  | d :: r => if d.2 ≤ N then d :: wpre N r else []
theorem wpre_out (N : Int) : ∀ xs : List Du, wout N xs = (wpre N xs).map (·.1)
  | [] => rfl
  | d :: r => by
    unfold wout wpre
    split
    · rw [List.map_cons, wpre_out N r]
    · rfl
theorem wpre_sub (N : Int) : ∀ xs : List Du, (wpre N xs).Sublist xs
  | [] => List.Sublist.refl _
  | d :: r => by
    unfold wpre
    split
    · exact (wpre_sub N r).cons_cons d
    · exact List.nil_sublist _
theorem wpre_mem {N : Int} : ∀ {xs : List Du}, xs.Pairwise dlt → ∀ d, d ∈ wpre N xs ↔ d ∈ xs ∧ d.2 ≤ N
  | [], _, d => by simp [wpre]
  | e :: r, h, d => by
    obtain ⟨h1, h2⟩ := List.pairwise_cons.1 h
    unfold wpre
    by_cases he : e.2 ≤ N
    · rw [if_pos he, List.mem_cons, wpre_mem h2, List.mem_cons]
      constructor
      · rintro (rfl | ⟨a, b⟩)
        · exact ⟨Or.inl rfl, he⟩
        · exact ⟨Or.inr a, b⟩
      · rintro ⟨rfl | a, b⟩
        · exact Or.inl rfl
        · exact Or.inr ⟨a, b⟩
    · rw [if_neg he]
      constructor
      · intro hd; cases hd
      · rintro ⟨hd, b⟩
        rcases List.mem_cons.1 hd with rfl | hd
        · exact absurd b he
        · have := h1 d hd
          unfold dlt at this
          omega
theorem nodup_of_fst {xs : List Du} (h : (ids xs).Nodup) : xs.Nodup := by
  unfold ids List.Nodup at h
  rw [List.pairwise_map] at h
  exact h.imp fun {a b} hab e => hab (by rw [e])
theorem perm_mem {α : Type} : ∀ {l m : List α}, l.Nodup → m.Nodup → (∀ x, x ∈ l ↔ x ∈ m) → l.Perm m
  | l, m, h1, h2, h => by
    classical
    rw [List.perm_iff_count]
    intro a
    have e1 := h1.count (a := a)
    have e2 := h2.count (a := a)
    rw [e1, e2]
    simp only [h a]
theorem lft_none {A : Int → Option Int} {n : Nat} {k : Int} (h : A k = none) : lft A n k = none := by
  unfold lft
  rw [h]
theorem lft_some {A : Int → Option Int} {n : Nat} {k u : Int} (h : A k = some u) : lft A n k = if u.toNat ≤ n then none else some u := by
  unfold lft
  rw [h]
theorem Srt.wat_rest {xs : List Du} (h : Srt xs) {N : Int} (hN : 0 ≤ N) (hv : ∀ k t, wat k xs = some t → 0 ≤ t) : (fun k => wat k (wrest N xs)) = lft (fun k => wat k xs) N.toNat := by
  funext k
  refine opt_ext fun t => ?_
  rw [wat_mem (h.rest N).2, rest_mem h.1]
  cases hk : wat k xs with
  | none =>
    rw [lft_none (A := fun k => wat k xs) hk]
    constructor
    · rintro ⟨a, -⟩
      rw [← wat_mem h.2, hk] at a
      cases a
    · intro hh; cases hh
  | some u =>
    have hu := hv k u hk
    rw [lft_some (A := fun k => wat k xs) hk]
    constructor
    · rintro ⟨a, b⟩
      rw [← wat_mem h.2, hk] at a
      obtain rfl := Option.some.inj a
      simp only at b
      rw [if_neg (by omega)]
    · intro hh
      by_cases hn : u.toNat ≤ N.toNat
      · rw [if_pos hn] at hh; cases hh
      · rw [if_neg hn] at hh
        obtain rfl := Option.some.inj hh
        exact ⟨(wat_mem h.2).1 hk, by simp only; omega⟩
/-- The box p, with all that belongs to it in the blocks B, holds what is due. -/
def PSw (xs : List Du) (now : Int) (p : Nat) (B : List (Nat × Obj)) : Prop :=
  Srt xs ∧ ∃ mb C es clock sl, B = (p, .cells C 55 (0, 0)) :: (mb, .map es clock) :: blk sl ∧ StW now (fun k => wat k xs) (plc (fun k => wat k xs) now.toNat) C mb es clock sl
theorem PSw.st {xs : List Du} {now : Int} {p : Nat} {B L : List (Nat × Obj)} {w W : World} (h : PSw xs now p B) (hM : Mem w W (B ++ L)) : Srt xs ∧ ∃ mb, WSt now (fun k => wat k xs) (plc (fun k => wat k xs) now.toNat) p mb w W L := by
  obtain ⟨hs, mb, C, es, clock, sl, rfl, hS⟩ := h
  exact ⟨hs, mb, C, es, clock, sl, hS, hM⟩
theorem PSw.of {xs : List Du} {now : Int} {p mb : Nat} {L : List (Nat × Obj)} {w W : World} (hs : Srt xs) (h : WSt now (fun k => wat k xs) (plc (fun k => wat k xs) now.toNat) p mb w W L) : ∃ B, PSw xs now p B ∧ Mem w W (B ++ L) := by
  obtain ⟨C, es, clock, sl, hS, hM⟩ := h
  exact ⟨_, ⟨hs, mb, C, es, clock, sl, rfl, hS⟩, hM⟩
theorem blk_zero : blk (fun _ => none) = [] := by
  unfold blk
  rw [List.filterMap_eq_nil_iff]
  intro a _
  rfl
theorem ix_flat : ∀ l : List Int, (ix l).flatten = ic l
  | [] => rfl
  | x :: l => by
    show [Value.int .i64 x] ++ (ix l).flatten = Value.int .i64 x :: ic l
    rw [ix_flat l]
    rfl
theorem rd_slb {v : Value} {l : List Int} {D : List (Nat × Obj)} (h : SlB 3 1 v l.length (ic l) D) : RdI v l D := by
  intro w V L hM
  have e1 : (ix l).flatten = ic l := ix_flat l
  have e2 : (ix l).length = l.length := by simp [ix]
  refine SlB.rw (T := 3) (B := D) (L := L) (w := w) (fun x hx => ?_) (by rw [e1, e2]; exact h) hM
  unfold ix at hx
  obtain ⟨y, -, rfl⟩ := List.mem_map.1 hx
  rfl
theorem wc_any (w : World) : WC w PSw where
  new := fun W _ now hn => (new_any W now hn).mono fun e W' ⟨p, mb, C, he, hS, hM⟩ => by
    refine ⟨p, _, he, ⟨srt_nil, mb, C, #[], 0, fun _ => none, rfl, hS⟩, ?_⟩
    rw [blk_zero]
    exact hM
  set := fun {W p xs now B L} h hM hl id t hid ht => by
    obtain ⟨hs, mb, hW⟩ := h.st hM
    refine (set_any hW hid ht ⟨id :: ids xs, by simp; omega, fun q hq => ?_⟩).mono fun e W' ⟨he, hW'⟩ => ?_
    · unfold upd at hq
      by_cases e : q = id
      · simp [e]
      · rw [if_neg e] at hq
        exact List.mem_cons_of_mem _ (wat_ids.1 hq)
    · rw [← hs.wat_set id t] at hW'
      exact ⟨he, PSw.of (hs.set id t) hW'⟩
  drop := fun {W p xs now B L} h hM hl id hid => by
    obtain ⟨hs, mb, hW⟩ := h.st hM
    refine (drop_any hW hid).mono fun e W' ⟨he, hW'⟩ => ?_
    rw [← hs.wat_del id] at hW'
    exact ⟨he, PSw.of (hs.del id) hW'⟩
  at_ := fun {W p xs now B L} h hM hl id hid => by
    obtain ⟨hs, mb, hW⟩ := h.st hM
    refine (at_any hW hid).mono fun e W' ⟨he, hW'⟩ => ?_
    subst hW'
    exact ⟨he, PSw.of hs hW⟩
  now := fun {W p xs now B L} h hM hl => by
    obtain ⟨hs, mb, hW⟩ := h.st hM
    refine (now_any hW).mono fun e W' ⟨he, hW'⟩ => ?_
    subst hW'
    exact ⟨he, PSw.of hs hW⟩
  count := fun {W p xs now B L} h hM hl => by
    obtain ⟨hs, mb, hW⟩ := h.st hM
    refine (count_any hW (l := ids xs) hs.2 fun k => wat_ids).mono fun e W' ⟨he, hW'⟩ => ?_
    subst hW'
    exact ⟨by rw [he, List.length_map], PSw.of hs hW⟩
  tick := fun {W p xs now B L} h hM hl hnow => by
    obtain ⟨hs, mb, hW⟩ := h.st hM
    by_cases hlt : now < 2147483647
    · have e1 : tnow now = now + 1 := if_pos hlt
      have e2 : tout now xs = wout (now + 1) xs := if_pos hlt
      have e3 : trest now xs = wrest (now + 1) xs := if_pos hlt
      rw [e1, e2, e3]
      have hv := hW.facts.2.1
      refine (tick_any hW hlt).mono fun e W' ⟨v, s, ds, D, he, hd, hm, hss, hD, hW'⟩ => ?_
      have hpre : s = wpre (now + 1) xs := by
        rw [hss]
        refine srt_eq (perm_mem (nodup_of_fst (hs.2.sublist ((wpre_sub _ _).map _))) hd fun d => ?_) (hs.1.sublist (wpre_sub _ _))
        rw [wpre_mem hs.1, hm d, wat_mem hs.2]
        constructor
        · rintro ⟨a, b⟩
          exact ⟨a, by omega⟩
        · rintro ⟨a, b⟩
          have := hv d.1 d.2 ((wat_mem hs.2).2 a)
          exact ⟨a, by omega⟩
      rw [← hs.wat_rest (by omega) fun k t hk => (hv k t hk).1] at hW'
      obtain ⟨B2, hB2, hM2⟩ := PSw.of (hs.rest (now + 1)) hW'
      refine ⟨v, D, B2, he, ?_, hB2, hM2.perm ?_⟩
      · rw [wpre_out, ← hpre]
        refine rd_slb ?_
        rw [List.length_map]
        exact hD
      · classical
        rw [List.perm_iff_count]
        intro q
        simp only [List.count_append]
        omega
    · have e1 : tnow now = now := if_neg hlt
      have e2 : tout now xs = [] := if_neg hlt
      have e3 : trest now xs = xs := if_neg hlt
      rw [e1, e2, e3]
      refine (tick_last hW (by omega)).mono fun e W' ⟨he, hW'⟩ => ?_
      subst hW'
      obtain ⟨B2, hB2, hM2⟩ := PSw.of hs hW
      exact ⟨_, [], B2, he, rd_slb (SlB.nil _ _), hB2, hM2⟩
end Wp
end Go.Proofs.Ytfplmefcblkljaa
