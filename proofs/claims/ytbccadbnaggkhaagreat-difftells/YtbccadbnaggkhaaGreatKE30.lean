/-
  What is changed: Apply and Diff as functions of lists, and what becomes of changes that are applied.
  What is changed: a map of tenants by their names, as a list in order.
  What is changed: a tenant with lists of its own (copied).
  What is changed: tenants by their names (byName), for whatever slice of tenants.
-/
import Derived.Test.YtbccadbnaggkhaaGreatKE29
import Derived.Test.YtbccadbnaggkhaaGreatKE24
import Derived.Test.YtbccadbnaggkhaaGreatKE18
import Derived.Test.YtbccadbnaggkhaaGreatKE25
import Derived.Test.YtbccadbnaggkhaaGreatKE17
import Derived.Maps.RangeWalk
import Derived.Maps.OwnSet
import Derived.Sort.KeysCollected
import Derived.Test.YtbccadbnaggkhaaGreatKE28
namespace Go.Proofs.YtbccadbnaggkhaaGreat
open Go.RowKit
open Sm
open Cf
set_option linter.unusedVariables false
set_option linter.unusedSimpArgs false
namespace Df
/-- A tenant's name, as bytes. -/
def nk (t : Ten) : List UInt8 := t.name.data.toList
theorem nk_name (t : Ten) : (⟨(nk t).toArray⟩ : ByteArray) = t.name := by simp [nk]
/-- One change. -/
def stp (M : List Ten) (h : Chg) : List Ten := if h.put then put nk h.t true M else del nk h.name.data.toList M
/-- What Apply answers. -/
def app (l : List Ten) (c : List Chg) : List Ten := c.foldl stp (byn nk l)
theorem app_nil (l : List Ten) : app l [] = byn nk l := rfl
theorem stp_length (M : List Ten) (c : Chg) : (stp M c).length ≤ M.length + 1 := by
  unfold stp
  split
  · exact put_length _ _ _
  · exact Nat.le_trans (del_length _ _) (Nat.le_succ _)
theorem stps_length (c : List Chg) : ∀ M : List Ten, (c.foldl stp M).length ≤ M.length + c.length := by
  induction c with
  | nil => simp
  | cons x c ih => intro M; have := ih (stp M x); have := stp_length M x; simp only [List.foldl_cons, List.length_cons]; omega
theorem app_length (l : List Ten) (c : List Chg) : (app l c).length ≤ l.length + c.length := Nat.le_trans (stps_length c _) (Nat.add_le_add_right (byn_length l) _)
/-- What is changed at one name. -/
def chg (A B : List Ten) (n : List UInt8) : Option Chg :=
  match look nk n B with
  | none => some ⟨false, ⟨n.toArray⟩, ten0⟩
  | some b => match look nk n A with
    | none => some ⟨true, ⟨n.toArray⟩, b⟩
    | some a => if decide (TSame a b) then none else some ⟨true, ⟨n.toArray⟩, b⟩
/-- The names of both, in order, each once. -/
def un (A B : List Ten) : List (List UInt8) := byn id (A.map nk ++ B.map nk)
/-- What Diff answers, of lists in order. -/
def dif (A B : List Ten) : List Chg := (un A B).filterMap (chg A B)
theorem mem_bid {l : List (List UInt8)} {x : List UInt8} : x ∈ byn id l ↔ x ∈ l := by
  rw [mem_iff_look (f := id) (srt_byn l), look_byn]
  constructor
  · exact fun h => (look_some h).1
  · intro h
    cases hl : look id (id x) l with
    | none => exact absurd rfl (look_none.1 hl x h)
    | some y => have := (look_some hl).2; simp only [id] at this; rw [this]
theorem mem_un {A B : List Ten} {x : List UInt8} : x ∈ un A B ↔ x ∈ A.map nk ∨ x ∈ B.map nk := by rw [un, mem_bid, List.mem_append]
theorem srt_un (A B : List Ten) : Srt id (un A B) := srt_byn _
theorem un_length (A B : List Ten) : (un A B).length ≤ A.length + B.length := by
  have := byn_length (f := id) (A.map nk ++ B.map nk)
  simpa [un] using this
theorem look_map {A : List Ten} {n : List UInt8} : n ∈ A.map nk ↔ look nk n A ≠ none := by
  rw [Ne, look_none]
  constructor
  · intro h h'
    obtain ⟨x, hx, rfl⟩ := List.mem_map.1 h
    exact h' x hx rfl
  · intro h
    refine Classical.byContradiction fun hh => h fun x hx e => hh (List.mem_map.2 ⟨x, hx, e⟩)
theorem mem_dif {A B : List Ten} {h : Chg} (hh : h ∈ dif A B) : (h.put = true ∧ h.t ∈ B ∧ h.name = h.t.name) ∨ (h.put = false ∧ h.t = ten0 ∧ ∃ a ∈ A, h.name = a.name) := by
  unfold dif at hh
  obtain ⟨n, hn, hc⟩ := List.mem_filterMap.1 hh
  unfold chg at hc
  cases hb : look nk n B with
  | none =>
    rw [hb] at hc
    simp only [Option.some.injEq] at hc
    subst hc
    rw [mem_un] at hn
    rcases hn with hn | hn
    · obtain ⟨a, ha, rfl⟩ := List.mem_map.1 hn
      exact Or.inr ⟨rfl, rfl, a, ha, nk_name a⟩
    · exact absurd hb (look_map.1 hn)
  | some b =>
    obtain ⟨hb1, hb2⟩ := look_some hb
    rw [hb] at hc
    cases ha : look nk n A with
    | none =>
      rw [ha] at hc
      simp only [Option.some.injEq] at hc
      subst hc
      exact Or.inl ⟨rfl, hb1, by rw [← hb2]; exact nk_name b⟩
    | some a =>
      rw [ha] at hc
      simp only at hc
      split at hc
      · cases hc
      · simp only [Option.some.injEq] at hc
        subst hc
        exact Or.inl ⟨rfl, hb1, by rw [← hb2]; exact nk_name b⟩
theorem fmap_congr {α β : Type} {f g : α → Option β} : ∀ {l : List α}, (∀ x ∈ l, f x = g x) → l.filterMap f = l.filterMap g
  | [], _ => rfl
  | x :: l, h => by
    rw [List.filterMap_cons, List.filterMap_cons, h x (by simp), fmap_congr (l := l) fun y hy => h y (by simp [hy])]
theorem un_lt {a : Ten} {A B : List Ten} (hA : Srt nk (a :: A)) (h : ∀ y ∈ B, nk a < nk y) : un (a :: A) B = nk a :: un A B := by
  refine srt_ext (f := id) (srt_un _ _) (List.pairwise_cons.2 ⟨fun x hx => ?_, srt_un _ _⟩) fun x => ?_
  · rcases mem_un.1 hx with hx | hx
    · obtain ⟨y, hy, rfl⟩ := List.mem_map.1 hx
      exact (List.pairwise_cons.1 hA).1 y hy
    · obtain ⟨y, hy, rfl⟩ := List.mem_map.1 hx
      exact h y hy
  · rw [List.mem_cons, mem_un, mem_un, List.map_cons, List.mem_cons, or_assoc]
theorem un_gt {b : Ten} {A B : List Ten} (hB : Srt nk (b :: B)) (h : ∀ y ∈ A, nk b < nk y) : un A (b :: B) = nk b :: un A B := by
  refine srt_ext (f := id) (srt_un _ _) (List.pairwise_cons.2 ⟨fun x hx => ?_, srt_un _ _⟩) fun x => ?_
  · rcases mem_un.1 hx with hx | hx
    · obtain ⟨y, hy, rfl⟩ := List.mem_map.1 hx
      exact h y hy
    · obtain ⟨y, hy, rfl⟩ := List.mem_map.1 hx
      exact (List.pairwise_cons.1 hB).1 y hy
  · rw [List.mem_cons, mem_un, mem_un, List.map_cons, List.mem_cons, or_left_comm]
theorem un_eq {a b : Ten} {A B : List Ten} (hA : Srt nk (a :: A)) (hB : Srt nk (b :: B)) (e : nk a = nk b) : un (a :: A) (b :: B) = nk a :: un A B := by
  refine srt_ext (f := id) (srt_un _ _) (List.pairwise_cons.2 ⟨fun x hx => ?_, srt_un _ _⟩) fun x => ?_
  · rcases mem_un.1 hx with hx | hx
    · obtain ⟨y, hy, rfl⟩ := List.mem_map.1 hx
      exact (List.pairwise_cons.1 hA).1 y hy
    · obtain ⟨y, hy, rfl⟩ := List.mem_map.1 hx
      exact e ▸ (List.pairwise_cons.1 hB).1 y hy
  · rw [List.mem_cons, mem_un, mem_un, List.map_cons, List.map_cons, List.mem_cons, List.mem_cons, e]
    constructor
    · rintro ((h | h) | (h | h)) <;> simp [h]
    · rintro (h | h | h) <;> simp [h]
theorem look_cons_ne {a : Ten} {A : List Ten} {n : List UInt8} (h : nk a ≠ n) : look nk n (a :: A) = look nk n A := by simp [look, List.find?_cons, h]
theorem look_cons_eq {a : Ten} {A : List Ten} : look nk (nk a) (a :: A) = some a := by simp [look, List.find?_cons]
theorem chg_tail {A B A' B' : List Ten} {n : List UInt8} (h1 : look nk n A = look nk n A') (h2 : look nk n B = look nk n B') : chg A B n = chg A' B' n := by unfold chg; rw [h1, h2]
theorem tail_ne {a : Ten} {l : List (List UInt8)} (h : Srt id (nk a :: l)) {n : List UInt8} (hn : n ∈ l) : nk a ≠ n := lt_ne ((List.pairwise_cons.1 h).1 n hn)
theorem dif_lt {a : Ten} {A B : List Ten} (hA : Srt nk (a :: A)) (h : ∀ y ∈ B, nk a < nk y) : dif (a :: A) B = ⟨false, a.name, ten0⟩ :: dif A B := by
  have hu := un_lt hA h
  have hs : Srt id (nk a :: un A B) := hu ▸ srt_un (a :: A) B
  have e1 : look nk (nk a) B = none := look_none.2 fun y hy => (lt_ne (h y hy)).symm
  have e2 : chg (a :: A) B (nk a) = some ⟨false, a.name, ten0⟩ := by
    unfold chg
    rw [e1]
    simp only [nk_name]
  unfold dif
  rw [hu, List.filterMap_cons_some e2]
  congr 1
  exact fmap_congr fun n hn => chg_tail (look_cons_ne (tail_ne hs hn)) rfl
theorem dif_gt {b : Ten} {A B : List Ten} (hB : Srt nk (b :: B)) (h : ∀ y ∈ A, nk b < nk y) : dif A (b :: B) = ⟨true, b.name, b⟩ :: dif A B := by
  have hu := un_gt hB h
  have hs : Srt id (nk b :: un A B) := hu ▸ srt_un A (b :: B)
  have e1 : look nk (nk b) A = none := look_none.2 fun y hy => (lt_ne (h y hy)).symm
  have e2 : chg A (b :: B) (nk b) = some ⟨true, b.name, b⟩ := by
    unfold chg
    rw [look_cons_eq, e1]
    simp only [nk_name]
  unfold dif
  rw [hu, List.filterMap_cons_some e2]
  congr 1
  exact fmap_congr fun n hn => chg_tail rfl (look_cons_ne (tail_ne hs hn))
theorem dif_eq {a b : Ten} {A B : List Ten} (hA : Srt nk (a :: A)) (hB : Srt nk (b :: B)) (e : nk a = nk b) : dif (a :: A) (b :: B) = if TSame a b then dif A B else ⟨true, b.name, b⟩ :: dif A B := by
  have hu := un_eq hA hB e
  have hs : Srt id (nk a :: un A B) := hu ▸ srt_un (a :: A) (b :: B)
  have e2 : chg (a :: A) (b :: B) (nk a) = if TSame a b then none else some ⟨true, b.name, b⟩ := by
    unfold chg
    rw [look_cons_eq, e, look_cons_eq]
    simp only [nk_name, decide_eq_true_eq]
  have e3 : (un A B).filterMap (chg (a :: A) (b :: B)) = (un A B).filterMap (chg A B) := fmap_congr fun n hn => chg_tail (look_cons_ne (tail_ne hs hn)) (look_cons_ne (tail_ne (e ▸ hs) hn))
  unfold dif
  rw [hu]
  by_cases h : TSame a b
  · rw [if_pos h] at e2 ⊢
    rw [List.filterMap_cons_none e2, e3]
  · rw [if_neg h] at e2 ⊢
    rw [List.filterMap_cons_some e2, e3]
theorem dif_nil : dif [] [] = [] := rfl
end Df
end Go.Proofs.YtbccadbnaggkhaaGreat

namespace Go.Proofs.YtbccadbnaggkhaaGreat
open Go.RowKit
open Sm
open Cf
open Df
open Go.Maps (Keyed)
set_option linter.unusedVariables false
set_option linter.unusedSimpArgs false
set_option maxRecDepth 20000

namespace Df
def fk (z : Tv) : List UInt8 := nk z.1
def tv (z : Tv) : Value := .agg (zc z).toArray
/-- How a map's element reads: as the value that it is. -/
def RH : Value → Option (DataW Value × List MemPlace) := fun v => some (.held v, [])
def en (z : Tv) : Lit × DataW Value := (.string (fk z), .held (tv z))
def DM (M : List Tv) : DataW Value := .map (M.map en)
/-- Block b of V is a map of these tenants. -/
def MV (V : World) (b n : Nat) (M : List Tv) : Prop := V.ownsMap Tryz.prog 9 RH b n (DM M) ∧ Srt fk M
theorem law9 : Keyed Tryz.prog 9 := Go.Maps.string_keyed Tryz.underlying9
theorem before_lt (a b : List UInt8) : (Lit.string a).before (.string b) = decide (a < b) := by
  rw [← bytesLess_eq]
  show bytesBefore a b = _
  induction a generalizing b with
  | nil => cases b <;> rfl
  | cons x a ih =>
    cases b with
    | nil => rfl
    | cons y b => simp only [bytesBefore, Op.bytesLess]; rw [ih]
theorem same_eq (a b : List UInt8) : (Lit.string a).sameKey (.string b) = decide (a = b) := by
  by_cases h : a = b
  · subst h; simp [Lit.sameKey]
  · simp [Lit.sameKey, h]
theorem dm_filter (n : List UInt8) (M : List Tv) : (M.map en).filter (fun p => !p.1.sameKey (.string n)) = (del fk n M).map en := by
  unfold del
  rw [List.filter_map]
  congr 1
  apply List.filter_congr
  intro x _
  show (!(Lit.string (fk x)).sameKey (.string n)) = _
  rw [same_eq]
  simp
theorem dm_del (n : List UInt8) (M : List Tv) : (DM M).del (.string n) = DM (del fk n M) := by
  unfold DM
  show DataW.map _ = _
  rw [dm_filter]
theorem dm_insert (z : Tv) : ∀ {M : List Tv}, Srt fk M → DataW.insert (en z) ((del fk (fk z) M).map en) = (put fk z true M).map en
  | [], _ => rfl
  | y :: r, h => by
    obtain ⟨h1, h2⟩ := List.pairwise_cons.1 h
    have ih := dm_insert z h2
    unfold put
    by_cases hy : fk y < fk z
    · have hne : fk y ≠ fk z := lt_ne hy
      have e : del fk (fk z) (y :: r) = y :: del fk (fk z) r := by simp [del, List.filter_cons, hne]
      rw [e, if_pos hy, List.map_cons, List.map_cons]
      unfold DataW.insert
      have hb : (en z).1.before (en y).1 = false := by
        show (Lit.string (fk z)).before (.string (fk y)) = false
        rw [before_lt]
        exact decide_eq_false fun hh => lt_irr _ (lt_tr hh hy)
      rw [hb]
      simp only [Bool.false_eq_true, if_false]
      rw [ih]
    · rw [if_neg hy]
      by_cases he : fk y = fk z
      · have e : del fk (fk z) (y :: r) = r := by
          rw [← he]
          have := del_at h (k := 0) (by simp)
          simpa using this
        rw [e, if_pos he]
        simp only [if_true, List.map_cons]
        cases r with
        | nil => rfl
        | cons x r =>
          have hb : (en z).1.before (en x).1 = true := by
            show (Lit.string (fk z)).before (.string (fk x)) = true
            rw [before_lt, ← he]
            exact decide_eq_true (h1 x (by simp))
          simp only [List.map_cons, DataW.insert]
          rw [hb]
          rfl
      · have hlt := lt_or hy he
        have e : del fk (fk z) (y :: r) = y :: r := del_no fun k hk => by
          have hm : (y :: r)[k] ∈ y :: r := List.getElem_mem hk
          rcases List.mem_cons.1 hm with hm | hm
          · rw [hm]; exact he
          · exact (lt_ne (lt_tr hlt (h1 _ hm))).symm
        rw [e, if_neg he]
        have hb : (en z).1.before (en y).1 = true := by
          show (Lit.string (fk z)).before (.string (fk y)) = true
          rw [before_lt]
          exact decide_eq_true hlt
        simp only [List.map_cons, DataW.insert]
        rw [hb]
        rfl
theorem dm_put {M : List Tv} (h : Srt fk M) (z : Tv) : (DM M).put (.string (fk z)) (.held (tv z)) = DM (put fk z true M) := by
  unfold DM
  show DataW.map (DataW.insert _ _) = _
  rw [dm_filter]
  exact congrArg _ (dm_insert z h)
theorem dm_find (n : List UInt8) : ∀ M : List Tv, (M.map en).find? (fun p => p.1.sameKey (.string n)) = (look fk n M).map en
  | [] => rfl
  | y :: r => by
    have ih := dm_find n r
    unfold look at ih ⊢
    rw [List.map_cons, List.find?_cons, List.find?_cons]
    show (match (Lit.string (fk y)).sameKey (.string n) with | true => _ | false => _) = _
    rw [same_eq]
    by_cases h : fk y = n
    · simp [h]
    · simp [h]; simpa using ih
theorem dm_has (n : List UInt8) (M : List Tv) : Go.Maps.has (DM M) (.string n) = (look fk n M).isSome := by
  show (M.map en).any (fun p => p.1.sameKey (.string n)) = _
  have h := dm_find n M
  cases hl : look fk n M with
  | none =>
    rw [hl] at h
    show (M.map en).any (fun p => p.1.sameKey (.string n)) = false
    rw [List.any_eq_false]
    intro x hx
    have := List.find?_eq_none.1 h x hx
    simpa using this
  | some z =>
    rw [hl] at h
    show (M.map en).any (fun p => p.1.sameKey (.string n)) = true
    rw [List.any_eq_true]
    exact ⟨en z, List.mem_of_find?_eq_some h, List.find?_some (p := fun p : Lit × DataW Value => p.1.sameKey (.string n)) h⟩
theorem dm_at (n : List UInt8) (M : List Tv) (zd : DataW Value) : (DM M).atKey (.string n) zd = match look fk n M with | some z => .held (tv z) | none => zd := by
  unfold DM DataW.atKey
  simp only
  rw [dm_find]
  cases look fk n M <;> rfl
theorem dm_keys (M : List Tv) : strKeys (DM M) = M.map fk := by
  show (M.map en).map (fun p => strOf p.1) = _
  rw [List.map_map]
  rfl
/-- What stands at a name. -/
def vat (M : List Tv) (n : List UInt8) : Value := match look fk n M with | some z => tv z | none => .agg tz
theorem zeroT (w : World) : (zeroValue 34).run Tryz.prog w = .ok (.agg tz) w := by kernel_rfl
theorem key_s {s : ByteArray} (h : s.size ≤ maxLen) : keyOf Tryz.prog 9 (.string s) = some (.string s.data.toList) := Go.WideMaps.keyOf_string_mk Tryz.underlying9 h
theorem MV.below {V V' : World} {b n B : Nat} {M : List Tv} (h : MV V b n M) (hb : Below B V V') (hB : V.heap.size ≤ B) : MV V' b n M := by
  have hlt := h.1.lt
  obtain ⟨⟨es, clock, h1, h2⟩, hs⟩ := h
  exact ⟨⟨es, clock, (hb.block b (by omega)).trans h1, h2⟩, hs⟩
theorem MV.kept {V V' : World} {b n : Nat} {M : List Tv} {row : Option Nat} (h : MV V b n M) (hg : V.grownBy V' row) (hne : some b ≠ row) : MV V' b n M := ⟨h.1.kept hg hne, h.2⟩
theorem MV.size {V : World} {b n : Nat} {M : List Tv} (h : MV V b n M) : M.length ≤ n := by
  have := h.1.size_le
  simpa [DM, Go.Maps.size] using this
theorem MV.made (w : World) : MV (w.alloc (.map #[] 0)) w.heap.size 0 [] := ⟨World.ownsMap_made w Tryz.prog 9 RH, List.Pairwise.nil⟩
section
variable {w : World} {ops : Array Oper} {rest : List Oper} {o : Oper} {a : Act} {Q : Exit → Act → World → Prop}
theorem wp_look_ok (hg : o.guard = none) (m x : Operand) (hop : o.op = Op.lookup 51 m x true) {b n : Nat} {M : List Tv} (hm : a.eval m = .map (some b)) (h : MV w b n M) {s : ByteArray} (hs : s.size ≤ maxLen) (hx : a.eval x = .string s)
    (hK : wpList Tryz.prog ops Q rest (a.put o.dst (.tuple #[vat M s.data.toList, .bool (look fk s.data.toList M).isSome])) w) : wpList Tryz.prog ops Q (o :: rest) a w := by
  refine wpList_lookup_own_ok w hg m x 51 hop 9 34 law9 Tryz.underlying51 RH (zeroT w) (.held (.agg tz)) [] rfl b n (DM M) hm h.1 (.string s) _ hx (key_s hs) ?_
  intro v ps hv
  rw [dm_at] at hv
  rw [dm_has]
  have e : v = vat M s.data.toList := by
    unfold vat
    cases hl : look fk s.data.toList M with
    | none =>
      rw [hl] at hv
      simp only [RH, Option.some.injEq, Prod.mk.injEq, DataW.held.injEq] at hv
      exact hv.1
    | some z =>
      rw [hl] at hv
      simp only [RH, Option.some.injEq, Prod.mk.injEq, DataW.held.injEq] at hv
      exact hv.1
  rw [e]
  exact hK
theorem wp_look (hg : o.guard = none) (m x : Operand) (hop : o.op = Op.lookup 51 m x false) {b n : Nat} {M : List Tv} (hm : a.eval m = .map (some b)) (h : MV w b n M) {s : ByteArray} (hs : s.size ≤ maxLen) (hx : a.eval x = .string s)
    (hK : wpList Tryz.prog ops Q rest (a.put o.dst (vat M s.data.toList)) w) : wpList Tryz.prog ops Q (o :: rest) a w := by
  refine wpList_plain hg fun K' hK' => ?_
  obtain ⟨v, ps, hrun, hv⟩ := h.1.lookup law9 Tryz.underlying51 (zeroT w) (zd := .held (.agg tz)) (zp := []) rfl (key_s hs)
  rw [dm_at] at hv
  have e : v = vat M s.data.toList := by
    unfold vat
    cases hl : look fk s.data.toList M with
    | none =>
      rw [hl] at hv
      simp only [RH, Option.some.injEq, Prod.mk.injEq, DataW.held.injEq] at hv
      exact hv.1
    | some z =>
      rw [hl] at hv
      simp only [RH, Option.some.injEq, Prod.mk.injEq, DataW.held.injEq] at hv
      exact hv.1
  subst e
  unfold Oper.wp
  simp [execOp, hop, hm, hx, hrun, Result.andThen]
  exact hK' _ _ hK
theorem wp_store (hg : o.guard = none) (m x v : Operand) (hop : o.op = Op.mapUpdate 51 m x v) {b n : Nat} {M : List Tv} (hm : a.eval m = .map (some b)) (h : MV w b n M) (hn : n < maxLen) (z : Tv) (hs : z.1.name.size ≤ maxLen) (hx : a.eval x = .string z.1.name) (hv : a.eval v = tv z)
    (hK : ∀ w', MV w' b (n + 1) (put fk z true M) → w.grownBy w' (some b) → wpList Tryz.prog ops Q rest (a.put o.dst undef) w') : wpList Tryz.prog ops Q (o :: rest) a w := by
  refine wpList_mapUpdate_own w hg m x v 51 hop 9 34 law9 Tryz.underlying51 RH b n (DM M) hm h.1 hn _ _ _ hx hv (key_s hs) (.held (tv z)) [] rfl ?_
  intro w' h1 h2
  rw [show z.1.name.data.toList = fk z from rfl, dm_put h.2] at h1
  exact hK w' ⟨h1, srt_put h.2⟩ h2
theorem wp_drop (hg : o.guard = none) (m x : Operand) (hop : o.op = Op.call { callee := Callee.builtin Builtin.delete, args := #[m, x], argTypes := #[51, 9] }) {b n : Nat} {M : List Tv} (hm : a.eval m = .map (some b)) (h : MV w b n M) {s : ByteArray} (hs : s.size ≤ maxLen) (hx : a.eval x = .string s)
    (hK : ∀ w', MV w' b n (del fk s.data.toList M) → w.grownBy w' (some b) → wpList Tryz.prog ops Q rest (a.put o.dst (.tuple #[])) w') : wpList Tryz.prog ops Q (o :: rest) a w := by
  refine wpList_delete_own w hg m x 51 9 hop 34 law9 Tryz.underlying51 RH b n (DM M) hm h.1 _ _ hx (key_s hs) ?_
  intro w' h1 h2
  rw [dm_del] at h1
  exact hK w' ⟨h1, srt_del h.2⟩ h2.grown
end
theorem put_false_some {M : List Tv} (h : Srt fk M) {z y : Tv} (hl : look fk (fk z) M = some y) : put fk z false M = M := by
  refine look_ext (srt_put h) h fun n => ?_
  by_cases e : fk z = n
  · subst e; rw [look_put_same h, hl]; rfl
  · rw [look_put_other e]
theorem put_false_none {M : List Tv} (h : Srt fk M) {z : Tv} (hl : look fk (fk z) M = none) : put fk z false M = put fk z true M := by
  refine look_ext (srt_put h) (srt_put h) fun n => ?_
  by_cases e : fk z = n
  · subst e; rw [look_put_same h, look_put_same h, hl]; rfl
  · rw [look_put_other e, look_put_other e]
end Df
end Go.Proofs.YtbccadbnaggkhaaGreat

namespace Go.Proofs.YtbccadbnaggkhaaGreat
open Go.RowKit
open Sm
open Cf
open Df
set_option linter.unusedVariables false
set_option linter.unusedSimpArgs false
set_option maxRecDepth 20000

namespace Df
theorem flat_of {α : Type} {sz : Nat} (hsz : 0 < sz) (xs : List (List α)) (hx : ∀ x ∈ xs, x.length = sz) (j : Nat) (u : α) (h : xs.flatten[j]? = some u) : j / sz < xs.length ∧ (xs.getD (j / sz) [])[j % sz]? = some u := by
  have hl : xs.flatten.length = xs.length * sz := by
    clear h
    induction xs with
    | nil => simp
    | cons x xs ih => rw [List.flatten_cons, List.length_append, hx x (by simp), ih fun y hy => hx y (by simp [hy]), List.length_cons, Nat.succ_mul]; omega
  have hj := (List.getElem?_eq_some_iff.mp h).1
  have hd : j / sz < xs.length := (Nat.div_lt_iff_lt_mul hsz).2 (by omega)
  refine ⟨hd, ?_⟩
  have hm : j % sz < (xs.getD (j / sz) []).length := by
    have : xs.getD (j / sz) [] ∈ xs := by
      rw [List.getD_eq_getElem?_getD, List.getElem?_eq_getElem hd, Option.getD_some]
      exact List.getElem_mem _
    rw [hx _ this]
    exact Nat.mod_lt _ hsz
  have := flat_at xs (j / sz) (j % sz) _ hx (List.getElem?_eq_getElem hm)
  rw [Nat.mul_comm, Nat.div_add_mod, h] at this
  rw [List.getElem?_eq_getElem hm, ← this]
theorem rw_flat {W : World} {sz : Nat} (hsz : 0 < sz) {a : Option Addr} {m c : Nat} {xs : List (List Value)} (h : Rw W sz (.slice a m c) xs) (hx : ∀ x ∈ xs, x.length = sz) {ad : Addr} (ha : a = some ad) : ∀ j u, xs.flatten[j]? = some u → W.cell? (ad.add j) = some u := by
  intro j u hj
  obtain ⟨hd, hu⟩ := flat_of hsz xs hx j u hj
  obtain ⟨a', c', e, h1, h2, h3, h4⟩ := h
  simp only [Value.slice.injEq] at e
  obtain ⟨rfl, -, rfl⟩ := e
  rcases h4 with e | ⟨b, off, e, hc⟩
  · rw [e] at hd; simp at hd
  · rw [ha] at e
    cases e
    have := hc (j / sz) hd (j % sz) u hu
    rw [Addr.add_mid]
    rw [Nat.add_assoc, Nat.mul_comm, Nat.div_add_mod] at this
    exact this
theorem append_none_g {w W : World} {L : List (Nat × Obj)} (hM : Mem w W L) {t e ty : TypeId} {sz bytes : Nat} {z : Value} (ht : Tryz.prog.underlying t = some (.slice e)) (hi : (Tryz.prog.info? e).map (fun i => (i.zero, i.size, i.bytes)) = some (some z, sz, bytes)) (hzs : z.cells.size = sz) (hsz : 0 < sz)
    {v : Value} {xs : List (List Value)} (h : Rw W sz v xs) (hx : ∀ x ∈ xs, x.length = sz) (h1 : ∀ x ∈ xs, ∀ u ∈ x, u.oneCell' = true) (hl : xs.length ≤ maxLen) (hb : xs.length * bytes ≤ 140737488355328) :
    ∃ v' W', (Builtin.append_ #[t, t] ty #[.slice none 0 0, v]).run Tryz.prog W = .ok v' W' ∧ Ow w W' e sz v' xs.length xs.flatten L := by
  have hn : Ow w W e sz (.slice none 0 0) 0 [] L := Ow.nil hM
  have h0 := h
  obtain ⟨a, c, rfl, k1, k2, k3, k4⟩ := h
  cases a with
  | none =>
    have hc : c = 0 := k3 rfl
    subst hc
    have hl0 : xs = [] := List.eq_nil_of_length_eq_zero (by omega)
    subst hl0
    obtain ⟨i, hi', -, -, -⟩ := info_parts hi
    exact ⟨_, _, run_append_owned_none (P := Tryz.prog) W w.heap.size t ty e i sz ht hi' _ _ _ hn.owns, hn⟩
  | some ad =>
    have hfl : xs.flatten.length = xs.length * sz := by
      clear h0 k4 hb hl h1 k1
      induction xs with
      | nil => simp
      | cons x xs ih => rw [List.flatten_cons, List.length_append, hx x (by simp), ih fun y hy => hx y (by simp [hy]), List.length_cons, Nat.succ_mul]; omega
    have := ow_append (ty := ty) ht hi hzs hsz hn ad xs.length c xs.flatten hfl (rw_flat hsz h0 hx rfl) (by
      intro u hu
      obtain ⟨x, hxm, hux⟩ := List.mem_flatten.mp hu
      exact h1 x hxm u hux) (by omega) (by rw [Nat.zero_add]; exact hb)
    rw [Nat.zero_add, List.nil_append] at this
    exact this
theorem ux_sz {l : List Int} : ∀ x ∈ ux l, x.length = 1 := by
  intro x hx; simp only [ux, List.mem_map] at hx; obtain ⟨y, -, rfl⟩ := hx; rfl
theorem px_sz {l : List (Int × Int)} : ∀ x ∈ px l, x.length = 2 := by
  intro x hx; simp only [px, List.mem_map] at hx; obtain ⟨y, -, rfl⟩ := hx; rfl
theorem ux_oc {l : List Int} : ∀ x ∈ ux l, ∀ u ∈ x, u.oneCell' = true := by
  intro x hx u hu; simp only [ux, List.mem_map] at hx; obtain ⟨y, -, rfl⟩ := hx; simp at hu; subst hu; rfl
theorem px_oc {l : List (Int × Int)} : ∀ x ∈ px l, ∀ u ∈ x, u.oneCell' = true := by
  intro x hx u hu; simp only [px, List.mem_map] at hx; obtain ⟨y, -, rfl⟩ := hx; simp at hu; rcases hu with rfl | rfl <;> rfl
theorem tc_set23 {t : Ten} (h : TLen t) (p s q v : Value) : (tc t p s q).toArray.setIfInBounds 23 v = (tc t v s q).toArray := by
  obtain ⟨n, vn, key, vt, vm, ho, po, lo, hi, fi, st, tw, se, qu, ra, bu⟩ := t
  obtain ⟨h1, h2, h3⟩ := h
  obtain ⟨a, b, c, d, f, g, x, y, rfl⟩ := eight8 h1
  obtain ⟨a1, b1, c1, d1, f1, g1, rfl⟩ := six6 h2
  obtain ⟨a2, b2, c2, d2, f2, g2, rfl⟩ := six6 h3
  rfl
theorem tc_set27 {t : Ten} (h : TLen t) (p s q v : Value) : (tc t p s q).toArray.setIfInBounds 27 v = (tc t p v q).toArray := by
  obtain ⟨n, vn, key, vt, vm, ho, po, lo, hi, fi, st, tw, se, qu, ra, bu⟩ := t
  obtain ⟨h1, h2, h3⟩ := h
  obtain ⟨a, b, c, d, f, g, x, y, rfl⟩ := eight8 h1
  obtain ⟨a1, b1, c1, d1, f1, g1, rfl⟩ := six6 h2
  obtain ⟨a2, b2, c2, d2, f2, g2, rfl⟩ := six6 h3
  rfl
theorem tc_set28 {t : Ten} (h : TLen t) (p s q v : Value) : (tc t p s q).toArray.setIfInBounds 28 v = (tc t p s v).toArray := by
  obtain ⟨n, vn, key, vt, vm, ho, po, lo, hi, fi, st, tw, se, qu, ra, bu⟩ := t
  obtain ⟨h1, h2, h3⟩ := h
  obtain ⟨a, b, c, d, f, g, x, y, rfl⟩ := eight8 h1
  obtain ⟨a1, b1, c1, d1, f1, g1, rfl⟩ := six6 h2
  obtain ⟨a2, b2, c2, d2, f2, g2, rfl⟩ := six6 h3
  rfl
theorem tc_at {t : Ten} (h : TLen t) (p s q : Value) : (tc t p s q).toArray[0]? = some (.string t.name) ∧ (tc t p s q).toArray[23]? = some p ∧ (tc t p s q).toArray[27]? = some s ∧ (tc t p s q).toArray[28]? = some q := by
  obtain ⟨n, vn, key, vt, vm, ho, po, lo, hi, fi, st, tw, se, qu, ra, bu⟩ := t
  obtain ⟨h1, h2, h3⟩ := h
  obtain ⟨a, b, c, d, f, g, x, y, rfl⟩ := eight8 h1
  obtain ⟨a1, b1, c1, d1, f1, g1, rfl⟩ := six6 h2
  obtain ⟨a2, b2, c2, d2, f2, g2, rfl⟩ := six6 h3
  exact ⟨rfl, rfl, rfl, rfl⟩
theorem mem_set_in {w W : World} {B L : List (Nat × Obj)} {g : Nat} {A : Array Value} {T : TypeId} (h : Mem w W (B ++ ((g, .cells A T (0, 0)) :: L))) (j : Nat) (v : Value) : Mem w (W.setCell ⟨g, j, none⟩ v) ((g, .cells (A.setIfInBounds j v) T (0, 0)) :: (B ++ L)) := by
  have h1 : Mem w W ((g, .cells A T (0, 0)) :: (B ++ L)) := h.perm List.perm_middle
  exact h1.set 0 rfl j v
set_option maxHeartbeats 8000000 in
theorem copied_any {w : World} {z : Tv} (hl : TLen z.1) (hr : Rws w z) (hf : TFew z.1) : Calls Tryz.prog 22 #[tv z] w fun e V => ∃ z' C, e = .returned (tv z') ∧ z'.1 = z.1 ∧ ZB z' C ∧ Mem w V C := by
  obtain ⟨t, p, s, q⟩ := z
  obtain ⟨r1, r2, r3⟩ := hr
  obtain ⟨f1, f2, f3⟩ := hf
  simp only at hl r1 r2 r3 f1 f2 f3
  have o1 : (tc t p s q).toArray.all (·.oneCell') = true := tc_one2 t (rw_one r1) (rw_one r2) (rw_one r3)
  have u1 : (ux t.pool).length = t.pool.length := by simp [ux]
  have u2 : (px t.stat).length = t.stat.length := by simp [px]
  have u3 : (px t.twi).length = t.twi.length := by simp [px]
  obtain ⟨g, hg⟩ : ∃ g, w.heap.size = g := ⟨_, rfl⟩
  have HM0 : Hid (Mem w ((w.alloc (.cells (tc t p s q).toArray 34)).alloc (.cells tz 34)) [(g, .cells (tc t p s q).toArray 34 (0, 0)), (g + 1, .cells tz 34 (0, 0))]) := by
    have := two_blocks' w (.cells (tc t p s q).toArray 34) (.cells tz 34)
    rw [hg] at this
    exact this.perm (List.Perm.swap _ _ _)
  -- the three appends
  have S1 : Hid (∀ V, Mem w V [(g, .cells (tc t p s q).toArray 34 (0, 0)), (g + 1, .cells tz 34 (0, 0))] → V.cell? ⟨g, 23, none⟩ = some p ∧ ∃ a m c V' B, (Builtin.append_ #[30, 30] 30 #[.slice none 0 0, p]).run Tryz.prog V = .ok (.slice a m c) V' ∧ V'.frozen? ⟨g, 23, none⟩ = false ∧ V'.cell? ⟨g, 23, none⟩ = some p ∧
      OwB 26 1 (.slice a m c) t.pool.length (ux t.pool).flatten B ∧ Mem w (V'.setCell ⟨g, 23, none⟩ (.slice a m c)) ((g, .cells (tc t (.slice a m c) s q).toArray 34 (0, 0)) :: (B ++ [(g + 1, .cells tz 34 (0, 0))]))) := by
    intro V hV
    obtain ⟨v', V', hrun, hO⟩ := append_none_g (ty := 30) hV Tryz.underlying30 infoU rfl (by decide) (r1.below ux_ne hV.below (Nat.le_refl _)) ux_sz ux_oc (by unfold maxLen; omega) (by omega)
    rw [u1] at hO
    obtain ⟨B, hB, hM⟩ := hO.owb
    obtain ⟨a, m, c, rfl⟩ := owb_slice hB
    have hM2 : Mem w V' ((g, .cells (tc t p s q).toArray 34 (0, 0)) :: (B ++ [(g + 1, .cells tz 34 (0, 0))])) := hM.perm List.perm_middle
    have := mem_set_in hM 23 (.slice a m c)
    rw [tc_set23 hl] at this
    exact ⟨by rw [hV.cell 0 rfl]; exact (tc_at hl p s q).2.1, a, m, c, V', B, hrun, hM2.free 0 rfl 23, by rw [hM2.cell 0 rfl]; exact (tc_at hl p s q).2.1, hB, this⟩
  have S2 : Hid (∀ V p' B1, Mem w V ((g, .cells (tc t p' s q).toArray 34 (0, 0)) :: (B1 ++ [(g + 1, .cells tz 34 (0, 0))])) → V.cell? ⟨g, 27, none⟩ = some s ∧ ∃ a m c V' B, (Builtin.append_ #[32, 32] 32 #[.slice none 0 0, s]).run Tryz.prog V = .ok (.slice a m c) V' ∧ V'.frozen? ⟨g, 27, none⟩ = false ∧ V'.cell? ⟨g, 27, none⟩ = some s ∧
      OwB 62 2 (.slice a m c) t.stat.length (px t.stat).flatten B ∧ Mem w (V'.setCell ⟨g, 27, none⟩ (.slice a m c)) ((g, .cells (tc t p' (.slice a m c) q).toArray 34 (0, 0)) :: (B ++ (B1 ++ [(g + 1, .cells tz 34 (0, 0))])))) := by
    intro V p' B1 hV
    obtain ⟨v', V', hrun, hO⟩ := append_none_g (ty := 32) hV Tryz.underlying32 infoP rfl (by decide) (r2.below px_ne hV.below (Nat.le_refl _)) px_sz px_oc (by unfold maxLen; omega) (by omega)
    rw [u2] at hO
    obtain ⟨B, hB, hM⟩ := hO.owb
    obtain ⟨a, m, c, rfl⟩ := owb_slice hB
    have hM2 : Mem w V' ((g, .cells (tc t p' s q).toArray 34 (0, 0)) :: (B ++ (B1 ++ [(g + 1, .cells tz 34 (0, 0))]))) := hM.perm List.perm_middle
    have := mem_set_in hM 27 (.slice a m c)
    rw [tc_set27 hl] at this
    exact ⟨by rw [hV.cell 0 rfl]; exact (tc_at hl p' s q).2.2.1, a, m, c, V', B, hrun, hM2.free 0 rfl 27, by rw [hM2.cell 0 rfl]; exact (tc_at hl p' s q).2.2.1, hB, this⟩
  have S3 : Hid (∀ V p' s' K, Mem w V ((g, .cells (tc t p' s' q).toArray 34 (0, 0)) :: K) → V.cell? ⟨g, 28, none⟩ = some q ∧ ∃ a m c V' B, (Builtin.append_ #[32, 32] 32 #[.slice none 0 0, q]).run Tryz.prog V = .ok (.slice a m c) V' ∧ V'.frozen? ⟨g, 28, none⟩ = false ∧ V'.cell? ⟨g, 28, none⟩ = some q ∧
      OwB 62 2 (.slice a m c) t.twi.length (px t.twi).flatten B ∧ Mem w (V'.setCell ⟨g, 28, none⟩ (.slice a m c)) ((g, .cells (tc t p' s' (.slice a m c)).toArray 34 (0, 0)) :: (B ++ K))) := by
    intro V p' s' K hV
    obtain ⟨v', V', hrun, hO⟩ := append_none_g (ty := 32) hV Tryz.underlying32 infoP rfl (by decide) (r3.below px_ne hV.below (Nat.le_refl _)) px_sz px_oc (by unfold maxLen; omega) (by omega)
    rw [u3] at hO
    obtain ⟨B, hB, hM⟩ := hO.owb
    obtain ⟨a, m, c, rfl⟩ := owb_slice hB
    have hM2 : Mem w V' ((g, .cells (tc t p' s' q).toArray 34 (0, 0)) :: (B ++ K)) := hM.perm List.perm_middle
    have := mem_set_in hM 28 (.slice a m c)
    rw [tc_set28 hl] at this
    exact ⟨by rw [hV.cell 0 rfl]; exact (tc_at hl p' s' q).2.2.2, a, m, c, V', B, hrun, hM2.free 0 rfl 28, by rw [hM2.cell 0 rfl]; exact (tc_at hl p' s' q).2.2.2, hB, this⟩
  clear r1 r2 r3
  show Calls Tryz.prog 22 #[.agg (tc t p s q).toArray] w _
  obtain ⟨A, hA⟩ : ∃ A, (tc t p s q).toArray = A := ⟨_, rfl⟩
  rw [hA] at HM0 S1 o1 ⊢
  clear hA
  go_enter Tryz.func22, Tryz.ntmps22
  go_upto_region 1 with fail
  refine wp_letter (fun X => Mem w X [(g, .cells A 34 (0, 0)), (g + 1, .cells tz 34 (0, 0))]) (by exact HM0.out) ?_
  intro V0 hM0
  try simp only [hg]
  clear HM0 hg
  obtain ⟨c1, a1, m1, d1, V1, B1, hr1, hf1, hc1, hB1, hM1⟩ := S1.out V0 hM0
  clear S1 hM0
  go_upto_region 2 with (first | (at_builtin; refine wpList_append_run _ (.tmp 4) 30 30 (by with_reducible rfl) hr1 rfl rfl (by first | rfl | simp [Act.eval]) (by first | rfl | simp [Act.eval]) ?_) | fail)
  clear hr1 c1 hf1 hc1
  generalize V1.setCell ⟨g, 23, none⟩ (.slice a1 m1 d1) = V2 at *
  obtain ⟨c2, a2, m2, d2, V3, B2, hr2, hf2, hc2, hB2, hM2⟩ := S2.out V2 _ _ hM1
  clear S2 hM1
  go_upto_region 3 with (first | (at_builtin; refine wpList_append_run _ (.tmp 8) 32 32 (by with_reducible rfl) hr2 rfl rfl (by first | rfl | simp [Act.eval]) (by first | rfl | simp [Act.eval]) ?_) | fail)
  clear hr2 c2 hf2 hc2
  generalize V3.setCell ⟨g, 27, none⟩ (.slice a2 m2 d2) = V4 at *
  obtain ⟨c3, a3, m3, d3, V5, B3, hr3, hf3, hc3, hB3, hM3⟩ := S3.out V4 _ _ _ hM2
  clear S3 hM2
  go_upto_region 4 with (first | (at_builtin; refine wpList_append_run _ (.tmp 12) 32 32 (by with_reducible rfl) hr3 rfl rfl (by first | rfl | simp [Act.eval]) (by first | rfl | simp [Act.eval]) ?_) | fail)
  clear hr3 c3 hf3 hc3
  generalize V5.setCell ⟨g, 28, none⟩ (.slice a3 m3 d3) = V6 at *
  have hsz : (tc t (.slice a1 m1 d1) (.slice a2 m2 d2) (.slice a3 m3 d3)).toArray.size = 33 := by rw [List.size_toArray]; exact tc_len hl _ _ _
  have hone : (tc t (.slice a1 m1 d1) (.slice a2 m2 d2) (.slice a3 m3 d3)).toArray.all (·.oneCell') = true := tc_one3 _ (owb_one hB1) (owb_one hB2) (owb_one hB3)
  obtain ⟨A3, hA3⟩ : ∃ A, (tc t (.slice a1 m1 d1) (.slice a2 m2 d2) (.slice a3 m3 d3)).toArray = A := ⟨_, rfl⟩
  have hM4 : Mem w V6 ((g, .cells A3 34 (0, 0)) :: (g + 1, .cells tz 34 (0, 0)) :: (B3 ++ (B2 ++ B1))) := by
    rw [← hA3]
    exact hM3.perm (by
      refine List.Perm.cons _ ?_
      rw [← List.append_assoc, ← List.append_assoc, ← List.append_assoc]
      exact List.perm_append_comm)
  rw [hA3] at hsz hone
  have i33 : (Tryz.prog.info? 34).map (·.size) = some A3.size := by rw [hsz]; kernel_rfl
  have k4 := hM4.get 0 rfl
  have k5 := hM4.get 1 rfl
  have hM5 := hM4.wrote 1 rfl (wrote_setRow V6 (g + 1) _ A3 _ k5)
  have HQ : Hid ((V6.setRow (g + 1) A3).heap[g + 1]? = some (.cells A3 34 (0, 0)) ∧ ∃ (z' : Tv) (C : List (Nat × Obj)), Ending.returned (.agg A3) = .returned (tv z') ∧ z'.1 = t ∧ ZB z' C ∧ Mem w (V6.setRow (g + 1) A3) C) := by
    refine ⟨hM5.get 1 rfl, (t, .slice a1 m1 d1, .slice a2 m2 d2, .slice a3 m3 d3), B3 ++ (B2 ++ B1), by rw [← hA3]; rfl, rfl, ⟨hl, B1, B2, B3, fun x hx => hx, hB1, hB2, hB3⟩, hM5.sub.sub⟩
  clear hM3 hM4 hM5 hB1 hB2 hB3 hA3
  go_wp2_with (first | (refine wpList_load_row rfl 34 (.tmp 1) (by with_reducible rfl) g (by first | rfl | simp [Act.eval]) 34 A3 (0, 0) _ k4 Tryz.underlying34 rfl i33 ?_) | (refine wpList_store_row rfl 34 (.tmp 2) (.tmp 15) (by with_reducible rfl) (g + 1) A3 (by first | rfl | simp [Act.eval]) (by first | rfl | simp [Act.eval]) 34 tz k5 i33 (by rw [hsz]; rfl) hone ?_))
  refine bodyPost_ret (v := .agg A3) ?_ rfl HQ.out.2
  exact results_cell_row (p := 2) (ty := 34) rfl _ _ (g + 1) 34 _ (0, 0) _ rfl HQ.out.1 Tryz.underlying34 rfl i33
end Df
end Go.Proofs.YtbccadbnaggkhaaGreat

namespace Go.Proofs.YtbccadbnaggkhaaGreat
open Go.RowKit
open Sm
open Cf
open Df
set_option linter.unusedVariables false
set_option linter.unusedSimpArgs false
set_option maxRecDepth 20000

namespace Df
/-- Tenants in a slice, each with its lists. -/
structure ZV (w : World) (v : Value) (zs : List Tv) : Prop where
  row : Rw w 33 v (zs.map zc)
  each : ∀ z ∈ zs, TLen z.1 ∧ Rws w z
theorem TSV.zv {w : World} {v : Value} {ts : List Ten} (h : TSV w v ts) : ∃ zs, zs.map Prod.fst = ts ∧ ZV w v zs := by
  obtain ⟨zs, e, h1, h2⟩ := h
  exact ⟨zs, e, h1, h2⟩
theorem Rws.at_ {w V : World} {z : Tv} (h : Rws w z) (hb : Below w.heap.size w V) : Rws V z := ⟨h.1.below ux_ne hb (Nat.le_refl _), h.2.1.below px_ne hb (Nat.le_refl _), h.2.2.below px_ne hb (Nat.le_refl _)⟩
theorem ZV.at_ {w V : World} {v : Value} {zs : List Tv} (h : ZV w v zs) (hb : Below w.heap.size w V) : ZV V v zs := ⟨h.row.below zc_ne hb (Nat.le_refl _), fun z hz => ⟨(h.each z hz).1, Rws.at_ (h.each z hz).2 hb⟩⟩
theorem zc_all {w : World} {z : Tv} (h : Rws w z) : (zc z).toArray.all (·.oneCell') = true := tc_one2 z.1 (rw_one h.1) (rw_one h.2.1) (rw_one h.2.2)
theorem zc_sz {z : Tv} (h : TLen z.1) : (zc z).toArray.size = 33 := by rw [List.size_toArray]; exact tc_len h _ _ _
theorem ZV.parts {w : World} {v : Value} {zs : List Tv} (h : ZV w v zs) : ∃ sa sc, v = .slice sa zs.length sc ∧ zs.length ≤ sc ∧ sc ≤ 9223372036854775807 ∧ ∀ i (hi : i < zs.length), ∃ b off, sa = some ⟨b, off, none⟩ ∧ ∀ V, Below w.heap.size w V → V.rangeAt b (off + i * 33) (zc zs[i]) := by
  obtain ⟨hr, hq⟩ := h
  have hrr := hr
  obtain ⟨sa, sc, rfl, hl, hb, -⟩ := hrr
  rw [List.length_map] at hl hr ⊢
  refine ⟨sa, sc, rfl, hl, hb, fun i hi => ?_⟩
  obtain ⟨b, off, x, e1, e2, e3, e4, e5⟩ := tsv_at hr hq i hi
  obtain ⟨b', off', e1', hc⟩ := rw_at hr i (by rw [List.length_map]; exact hi)
  rw [e1] at e1'
  simp only [Option.some.injEq, Addr.mk.injEq] at e1'
  obtain ⟨rfl, rfl, -⟩ := e1'
  refine ⟨b, off, e1, fun V hV j u hj => ?_⟩
  have hx : (zs.map zc).getD i [] = zc zs[i] := by simp [List.getD, List.getElem?_eq_getElem hi]
  rw [hx] at hc
  have h := hc j u hj
  rw [hV.cell (p := ⟨b, off + i * 33 + j, none⟩) (cell_lt h)]
  exact h
theorem MV.mono {V : World} {b n m : Nat} {M : List Tv} (h : MV V b n M) (hm : n ≤ m) : MV V b m M := ⟨h.1.mono hm, h.2⟩
section
variable {w : World} {ops : Array Oper} {rest : List Oper} {o : Oper} {a : Act} {Q : Exit → Act → World → Prop}
theorem wp_look_ok' (hg : o.guard = none) (m x : Operand) (hop : o.op = Op.lookup 51 m x true) {b n : Nat} {M : List Tv} (hm : a.eval m = .map (some b)) (h : MV w b n M) {s : ByteArray} (hs : s.size ≤ maxLen) (hx : a.eval x = .string s) {A : Array Value} {B : Bool} (hA : vat M s.data.toList = .agg A) (hB : (look fk s.data.toList M).isSome = B)
    (hK : wpList Tryz.prog ops Q rest (a.put o.dst (.tuple #[.agg A, .bool B])) w) : wpList Tryz.prog ops Q (o :: rest) a w := by
  refine wp_look_ok hg m x hop hm h hs hx ?_
  rw [hA, hB]
  exact hK
end
theorem vat_row {M : List Tv} (hM : ∀ z ∈ M, TLen z.1 ∧ (zc z).toArray.all (·.oneCell') = true) (n : List UInt8) : ∃ A, vat M n = .agg A ∧ A.size = 33 ∧ A.all (·.oneCell') = true := by
  unfold vat
  cases hl : look fk n M with
  | none => exact ⟨tz, rfl, rfl, by kernel_rfl⟩
  | some z => exact ⟨_, rfl, zc_sz (hM z (look_some hl).1).1, (hM z (look_some hl).1).2⟩
theorem look_byn_take {zs : List Tv} {i : Nat} (hi : i < zs.length) : byn fk (zs.take (i + 1)) = put fk zs[i] false (byn fk (zs.take i)) := by
  rw [List.take_add_one, List.getElem?_eq_getElem hi, Option.toList_some, byn_snoc]
set_option maxHeartbeats 8000000 in
theorem byName_any {w : World} {v : Value} {zs : List Tv} (h : ZV w v zs) (hn : ∀ z ∈ zs, z.1.name.size ≤ 1000000) (hm : zs.length ≤ 1000) :
    Calls Tryz.prog 23 #[v] w fun e V => ∃ b, e = .returned (.map (some b)) ∧ w.heap.size ≤ b ∧ MV V b zs.length (byn fk zs) ∧ Below w.heap.size w V := by
  have hp := h.parts
  obtain ⟨sa, sc, rfl, hlc, hcb, hx⟩ := hp
  have HE : Hid (∀ i (hi : i < zs.length), TLen zs[i].1 ∧ (zc zs[i]).toArray.all (·.oneCell') = true ∧ zs[i].1.name.size ≤ maxLen) := by
    intro i hi
    have hz := List.getElem_mem hi
    refine ⟨(h.each _ hz).1, zc_all (h.each _ hz).2, ?_⟩
    have := hn _ hz
    unfold maxLen; omega
  have HM : Hid (∀ i, ∀ z ∈ byn fk (zs.take i), TLen z.1 ∧ (zc z).toArray.all (·.oneCell') = true) := by
    intro i z hz
    have hz := List.mem_of_mem_take (mem_byn hz)
    exact ⟨(h.each _ hz).1, zc_all (h.each _ hz).2⟩
  have HX : Hid (∀ i (hi : i < zs.length), ∃ b off, sa = some ⟨b, off, none⟩ ∧ ∀ V, Below w.heap.size w V → V.rangeAt b (off + i * 33) (zc zs[i])) := hx
  have HT : Hid (∀ i (hi : i < zs.length), byn fk (zs.take (i + 1)) = put fk zs[i] false (byn fk (zs.take i))) := fun i hi => look_byn_take hi
  have HT0 : Hid (byn fk (zs.take zs.length) = byn fk zs) := by show _ = _; rw [List.take_length]
  clear h hn hx
  obtain ⟨N, hN⟩ : ∃ N, zs.length = N := ⟨_, rfl⟩
  rw [hN] at HT0 hlc hm
  simp only [hN] at HE HX HT ⊢
  obtain ⟨g, hg⟩ : ∃ g, w.heap.size = g := ⟨_, rfl⟩
  have H0 : Hid (MV (w.alloc (.map #[] 0)) g 0 (byn fk (zs.take 0)) ∧ Below g w (w.alloc (.map #[] 0))) := ⟨by rw [← hg]; exact MV.made w, by rw [← hg]; exact (Below.refl _ _).alloc (Nat.le_refl _) _⟩
  have hmm := @run_makeMap Tryz.prog
  go_enter Tryz.func23, Tryz.ntmps23
  go_upto_region 2 with fail
  refine wp_letter (fun X => MV X g 0 (byn fk (zs.take 0)) ∧ Below g w X) (by exact H0.out) ?_
  intro V0 hV0
  try simp only [hg]
  have HV0 : Hid (MV V0 g 0 (byn fk (zs.take 0)) ∧ Below g w V0) := hV0
  clear H0 hV0 hmm
  rw [hg] at HX
  go_wp2_with fail
  go_loopw [11] (fun u11 w' => ∃ i : Nat, i ≤ N ∧ u11 = .int .i64 i ∧ Hid (MV w' g i (byn fk (zs.take i)) ∧ Below g w w')) (fun u11 w' => N - (intOf u11).toNat)
  case atStart => exact ⟨0, Nat.zero_le _, rfl, HV0⟩
  case round =>
    obtain ⟨i, hi, rfl, HR⟩ := hrel
    clear HV0
    by_cases hlt : i < N
    · have h1 : (i : Int) < N := by omega
      obtain ⟨b, off, rfl, hV⟩ := HX.out i hlt
      obtain ⟨hl, ho, hs⟩ := HE.out i hlt
      have hra := hV _ HR.out.2
      have hT := HT.out i hlt
      obtain ⟨A1, hA1, hA2, hA3⟩ := vat_row (HM.out i) (fk (zs[i]'(by omega)))
      obtain ⟨B1, hB1⟩ : ∃ B, (look fk (fk (zs[i]'(by omega))) (byn fk (zs.take i))).isSome = B := ⟨_, rfl⟩
      clear hV HX HE HT HM
      generalize hz : zs[i]'(by omega) = z at *
      obtain ⟨M, hMe⟩ : ∃ M, byn fk (zs.take i) = M := ⟨_, rfl⟩
      rw [hMe] at HR hT hA1 hB1
      clear hMe
      have hsz := tc_len hl z.2.1 z.2.2.1 z.2.2.2
      have hi33 : (Tryz.prog.info? 34).map (·.size) = some (zc z).length := by rw [show (zc z).length = 33 from hsz]; kernel_rfl
      have hj33 : (Tryz.prog.info? 34).map (·.size) = some (zc z).toArray.size := by rw [zc_sz hl]; kernel_rfl
      have hs33 : tz.size = (zc z).toArray.size := by rw [zc_sz hl]; rfl
      obtain ⟨gt, hgt⟩ : ∃ g, wr.heap.size = g := ⟨_, rfl⟩
      have hk1 : (wr.alloc (.cells tz 34)).heap[gt]? = some (.cells tz 34 (0, 0)) := by rw [← hgt]; exact heap_alloc_new _ _
      have ew : (wr.alloc (.cells tz 34)).setRow gt (zc z).toArray = wr.alloc (.cells (zc z).toArray 34) := by rw [← hgt]; exact World.setRow_alloc_new wr tz (zc z).toArray 34
      have HF : Hid (Mem wr ((wr.alloc (.cells tz 34)).setRow gt (zc z).toArray) [(gt, .cells (zc z).toArray 34 (0, 0))]) := by rw [ew]; exact (Mem.nil wr).push1 hgt.symm
      clear ew
      go_upto_region 5 with (first | (refine wpList_load_mid rfl 34 (.tmp 13) (by with_reducible rfl) b (off + i * 33) (by simp [Act.eval]) (zc z) _ hra Tryz.underlying34 rfl hi33 ?_) | (refine wpList_store_row rfl 34 (.tmp 5) (.tmp 14) (by with_reducible rfl) gt (zc z).toArray (by simp [Act.eval]; try exact hgt) (by first | rfl | simp [Act.eval]) 34 tz hk1 hj33 hs33 ho ?_) | fail)
      refine wp_letter (fun X => Mem wr X [(gt, .cells (zc z).toArray 34 (0, 0))]) (by exact HF.out) ?_
      intro V1 hM1
      try simp only [hgt]
      clear HF hk1 hra hi33 hs33 ho
      have hMV1 : MV V1 g i M := HR.out.1.below hM1.below (Nat.le_refl _)
      have hc0 : V1.cell? ⟨gt, 0, none⟩ = some (.string z.1.name) := by rw [hM1.cell 0 rfl]; exact (tc_at hl _ _ _).1
      obtain ⟨g2, hg2⟩ : ∃ g, V1.heap.size = g := ⟨_, rfl⟩
      have hk2 : (V1.alloc (.cells tz 34)).heap[g2]? = some (.cells tz 34 (0, 0)) := by rw [← hg2]; exact heap_alloc_new _ _
      have hj2 : (Tryz.prog.info? 34).map (·.size) = some A1.size := by rw [hA2]; kernel_rfl
      have hs2 : tz.size = A1.size := by rw [hA2]; rfl
      have HF : Hid (Mem wr ((V1.alloc (.cells tz 34)).setRow g2 A1) [(gt, .cells (zc z).toArray 34 (0, 0))]) := by
        rw [← hg2, World.setRow_alloc_new]
        exact hM1.after ((Below.refl _ _).alloc (Nat.le_refl _) _)
      have HM1 : Hid (Mem wr V1 [(gt, .cells (zc z).toArray 34 (0, 0))]) := hM1
      clear hM1
      go_upto_region 6 with (first | (at_lookup; refine wp_look_ok' rfl _ _ rfl (b := g) (n := i) (M := M) (by first | rfl | simp [Act.eval]) hMV1 (s := z.1.name) hs (by first | rfl | simp [Act.eval]) hA1 hB1 ?_) | (refine wpList_store_row rfl 34 (.tmp 6) (.tmp 20) (by with_reducible rfl) g2 A1 (by simp [Act.eval]; try exact hg2) (by first | rfl | simp [Act.eval]) 34 tz hk2 hj2 hs2 hA3 ?_) | fail)
      refine wp_letter (fun X => Mem wr X [(gt, .cells (zc z).toArray 34 (0, 0))]) (by exact HF.out) ?_
      intro V2 hM2
      try simp only [hg2]
      clear HF hk2 hj2 hs2 hA1 hA2 hA3 hMV1 hc0 HM1 hg2
      have hMV2 : MV V2 g i M := HR.out.1.below hM2.below (Nat.le_refl _)
      have hc0 : V2.cell? ⟨gt, 0, none⟩ = some (.string z.1.name) := by rw [hM2.cell 0 rfl]; exact (tc_at hl _ _ _).1
      have hk := hM2.get 0 rfl
      have HB2 : Hid (Below g w V2) := HR.out.2.trans (hM2.below.mono (by rw [← hg]; exact HR.out.2.size))
      cases B1 with
      | true =>
        obtain ⟨y, hy⟩ := Option.isSome_iff_exists.1 hB1
        have HF : Hid (MV V2 g (i + 1) (byn fk (zs.take (i + 1))) ∧ Below g w V2) := ⟨by rw [hT, put_false_some hMV2.2 hy]; exact hMV2.mono (Nat.le_succ _), HB2.out⟩
        clear hMV2 hM2 HB2 HR hT hB1
        go_wp2_with fail
        go_roundw
        case rel => exact ⟨i + 1, by omega, by go_num, HF⟩
        case measure => simp [intOf]; omega
      | false =>
        have hno : look fk (fk z) M = none := by
          cases hh : look fk (fk z) M with
          | none => rfl
          | some y => rw [hh] at hB1; cases hB1
        have HF : Hid (∀ W, MV W g (i + 1) (put fk z true M) → V2.grownBy W (some g) → MV W g (i + 1) (byn fk (zs.take (i + 1))) ∧ Below g w W) := by
          intro W h1 h2
          refine ⟨by rw [hT, put_false_none hMV2.2 hno]; exact h1, HB2.out.grown h2 (by rw [← hg]; exact HB2.out.size) (fun j hj => by cases hj; exact Nat.le_refl _)⟩
        have hil : i < maxLen := by unfold maxLen; omega
        clear hM2 HB2 HR hT hB1 hno
        go_wp2_with (first | (refine wpList_load_row rfl 34 (.tmp 5) (by with_reducible rfl) gt (by first | rfl | simp [Act.eval]) 34 (zc z).toArray (0, 0) _ hk Tryz.underlying34 rfl hj33 ?_) | (at_mapUpdate; refine wp_store rfl _ _ _ rfl (b := g) (n := i) (M := M) (by first | rfl | simp [Act.eval]) hMV2 hil z hs (by first | rfl | simp [Act.eval]) (by first | rfl | simp [Act.eval, tv]) ?_; intro W hW1 hW2) | fail)
        have HF2 := HF.out W hW1 hW2
        go_roundw
        case rel => exact ⟨i + 1, by omega, by go_num, HF2⟩
        case measure => simp [intOf]; omega
    · have h1 : ¬ ((i : Int) < N) := by omega
      obtain rfl : i = N := by omega
      have HF : Hid (MV wr g i (byn fk zs) ∧ Below g w wr) := by rw [← HT0.out]; exact HR.out
      clear HR HT0 HX HE HT HM
      go_wp2_with fail
      go_ret
      exact ⟨g, rfl, by first | exact Nat.le_refl _ | exact Nat.le_of_eq hg, HF.out.1, by first | exact HF.out.2 | (rw [hg]; exact HF.out.2)⟩
end Df
end Go.Proofs.YtbccadbnaggkhaaGreat

