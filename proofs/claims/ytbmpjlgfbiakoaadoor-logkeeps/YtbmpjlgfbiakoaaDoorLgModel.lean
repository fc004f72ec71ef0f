/-
  Plain mathematics of the log: what lies in two slots of blocks, and what an entry's writes leave there, wherever they fail.
-/
import Derived.Test.YtbmpjlgfbiakoaaDoorLgMath
namespace Go.Proofs.YtbmpjlgfbiakoaaDoor
open Sm
set_option linter.unusedVariables false

/-- So many blocks a slot has. -/
def sbk (n : Nat) : Nat := (n - 1) / 2
/-- The piece that lies in a slot's block. -/
def rp (bl : List (List Int)) (slot i : Nat) : Option Pc :=
  match unf (bl.getD (slot * sbk bl.length + i) []) with
  | none => none
  | some p => if p.i ≠ i ∨ (sbk bl.length : Int) < p.n then none else some p
/-- A record's further pieces, behind those that are read. -/
def rdL (bl : List (List Int)) (slot : Nat) (t : Int) : Nat → Nat → List Int → Option (List Int)
  | 0, _, acc => some acc
  | k + 1, i, acc =>
    match rp bl slot i with
    | none => none
    | some p => if p.t = t then rdL bl slot t k (i + 1) (acc ++ p.b) else none
structure En where
  s : Nat
  t : Int
  c : Int
  r : List Int
/-- The entry that lies in a slot. -/
def rd (bl : List (List Int)) (slot : Nat) : Option En :=
  match rp bl slot 0 with
  | none => none
  | some f => (rdL bl slot f.t (f.n.toNat - 1) 1 f.b).map fun r => ⟨slot, f.t, f.c, r⟩
def ltr (a b : Int) : Bool := decide (0 < IntKind.i64.wrap (IntKind.u64.wrap (a - b)))
/-- The entries that are whole, the newest one last. -/
def fd (bl : List (List Int)) : List En :=
  match rd bl 0, rd bl 1 with
  | none, none => []
  | some a, none => [a]
  | none, some b => [b]
  | some a, some b => if ltr a.t b.t then [b, a] else [a, b]
def En.zero : En := ⟨0, 0, 0, []⟩
def nw (l : List En) : En := l.getLastD .zero
/-- The records that are kept. -/
def kpL (last : Int) : List En → List (List Int)
  | [] => []
  | [a] => [a.r]
  | a :: b :: l => (if IntKind.i64.wrap (a.c + 1) = last then [a.r] else []) ++ kpL last (b :: l)
def kp (l : List En) : List (List Int) := kpL (nw l).c l

/-! ### The pieces of a record. -/
def npc (most len : Nat) : Nat := max 1 ((len + most - 1) / most)
def spc (e : En) (most i : Nat) : Pc := ⟨e.t, e.c, i, npc most e.r.length, (e.r.drop (i * most)).take most⟩

/-! ### Blocks written. -/
/-- What stands in the blocks while an entry is written into its slot: so many of the last pieces are there, the first block blank. -/
def part (m : Nat) (e : En) (bl : List (List Int)) : Nat → List (List Int)
  | 0 => bl.set (e.s * sbk bl.length) (List.replicate m 0)
  | k + 1 => (part m e bl k).set (e.s * sbk bl.length + (npc (m - 64) e.r.length - 1 - k)) (frm m (spc e (m - 64) (npc (m - 64) e.r.length - 1 - k)))
theorem part_length (m : Nat) (e : En) (bl : List (List Int)) (k : Nat) : (part m e bl k).length = bl.length := by
  induction k with
  | zero => simp [part]
  | succ k ih => simp [part, ih]
theorem getD_set_ne {α : Type} {l : List α} {i j : Nat} {x d : α} (h : i ≠ j) : (l.set i x).getD j d = l.getD j d := by
  simp [List.getD, List.getElem?_set_ne h]
theorem getD_set_eq {α : Type} {l : List α} {i : Nat} {x d : α} (h : i < l.length) : (l.set i x).getD i d = x := by
  simp [List.getD, h]
/-- The other slot's blocks stay. -/
theorem part_other (m : Nat) (e : En) (bl : List (List Int)) (k j : Nat) (hj : ∀ i, i < npc (m - 64) e.r.length → e.s * sbk bl.length + i ≠ j) : (part m e bl k).getD j [] = bl.getD j [] := by
  have hp : 0 < npc (m - 64) e.r.length := by unfold npc; omega
  induction k with
  | zero => rw [part, getD_set_ne (by have := hj 0 hp; simpa using this)]
  | succ k ih => rw [part, getD_set_ne (hj _ (by omega)), ih]
/-- The first block is blank till all else is there. -/
theorem part_first (m : Nat) (e : En) (bl : List (List Int)) (k : Nat) (hs : e.s * sbk bl.length < bl.length) (hk : k < npc (m - 64) e.r.length) : (part m e bl k).getD (e.s * sbk bl.length) [] = List.replicate m 0 := by
  induction k with
  | zero => rw [part, getD_set_eq hs]
  | succ k ih => rw [part, getD_set_ne (by omega), ih (by omega)]
/-- The pieces that were written are there. -/
theorem part_there (m : Nat) (e : En) (bl : List (List Int)) (k i : Nat) (hs : e.s * sbk bl.length + i < bl.length) (hi : npc (m - 64) e.r.length - k ≤ i) (hi2 : i < npc (m - 64) e.r.length) (hk : k ≤ npc (m - 64) e.r.length) :
    (part m e bl k).getD (e.s * sbk bl.length + i) [] = frm m (spc e (m - 64) i) := by
  induction k with
  | zero => omega
  | succ k ih =>
    by_cases h : i = npc (m - 64) e.r.length - 1 - k
    · rw [part, ← h, getD_set_eq (by rw [part_length]; exact hs)]
    · rw [part, getD_set_ne (by omega), ih (by omega) (by omega)]

theorem rp_eq {bl bl' : List (List Int)} {slot i : Nat} (hl : bl'.length = bl.length) (h : bl'.getD (slot * sbk bl.length + i) [] = bl.getD (slot * sbk bl.length + i) []) : rp bl' slot i = rp bl slot i := by
  unfold rp; rw [hl, h]
theorem rdL_eq {bl bl' : List (List Int)} {slot : Nat} {t : Int} (hl : bl'.length = bl.length) (k i : Nat) (acc : List Int) (h : ∀ j, i ≤ j → j < i + k → bl'.getD (slot * sbk bl.length + j) [] = bl.getD (slot * sbk bl.length + j) []) : rdL bl' slot t k i acc = rdL bl slot t k i acc := by
  induction k generalizing i acc with
  | zero => rfl
  | succ k ih =>
    unfold rdL
    rw [rp_eq hl (h i (by omega) (by omega))]
    split
    · rfl
    · split
      · exact ih _ _ fun j h1 h2 => h j (by omega) (by omega)
      · rfl
theorem rp_n {bl : List (List Int)} {slot i : Nat} {p : Pc} (h : rp bl slot i = some p) : p.i = i ∧ p.n ≤ sbk bl.length := by
  unfold rp at h
  split at h
  · cases h
  · split at h
    · cases h
    · rename_i h2
      simp only [Option.some.injEq] at h; subst h
      exact ⟨Classical.byContradiction fun e => h2 (Or.inl e), by
        have : ¬ ((sbk bl.length : Int) < _) := fun e => h2 (Or.inr e)
        omega⟩
/-- A slot whose blocks stand as they were. -/
theorem rd_eq {bl bl' : List (List Int)} {slot : Nat} (hl : bl'.length = bl.length) (hsb : 0 < sbk bl.length) (h : ∀ j, j < sbk bl.length → bl'.getD (slot * sbk bl.length + j) [] = bl.getD (slot * sbk bl.length + j) []) : rd bl' slot = rd bl slot := by
  unfold rd
  rw [rp_eq hl (h 0 hsb)]
  split
  · rfl
  · rename_i f hf
    have := (rp_n hf).2
    rw [rdL_eq hl _ _ _ fun j h1 h2 => h j (by omega)]
/-- A first block that isn't whole. -/
theorem rd_no {bl : List (List Int)} {slot : Nat} (h : unf (bl.getD (slot * sbk bl.length) []) = none) : rd bl slot = none := by
  unfold rd rp
  rw [Nat.add_zero, h]

structure EnOk (n m : Nat) (e : En) : Prop where
  s : e.s ≤ 1
  t : 0 ≤ e.t ∧ e.t < 18446744073709551616
  c : 0 ≤ e.c ∧ e.c < 9223372036854775808
  len : e.r.length ≤ sbk n * (m - 64)
  bytes : IsBytes e.r
  n0 : 4 ≤ n
  n1 : n ≤ 64
  m0 : 256 ≤ m
  m1 : m ≤ 65536
theorem npc_le {n m : Nat} {e : En} (h : EnOk n m e) : 0 < npc (m - 64) e.r.length ∧ npc (m - 64) e.r.length ≤ sbk n ∧ sbk n ≤ 31 ∧ 1 ≤ sbk n := by
  have h1 := h.len; have h2 := h.m0; have h3 := h.n0; have h4 := h.n1
  have hs : 1 ≤ sbk n := by unfold sbk; omega
  have hs2 : sbk n ≤ 31 := by unfold sbk; omega
  refine ⟨by unfold npc; omega, ?_, hs2, hs⟩
  have : (e.r.length + (m - 64) - 1) / (m - 64) ≤ sbk n := by
    have : (e.r.length + (m - 64) - 1) / (m - 64) < sbk n + 1 := by
      rw [Nat.div_lt_iff_lt_mul (by omega), Nat.add_mul]
      omega
    omega
  unfold npc; omega
theorem spc_ok {n m : Nat} {e : En} (h : EnOk n m e) (i : Nat) (hi : i < npc (m - 64) e.r.length) : PcOk m (spc e (m - 64) i) := by
  have hn := npc_le h
  refine ⟨h.t, h.c, ?_, ?_, ?_, h.m1, ?_⟩
  · simp only [spc]; omega
  · simp only [spc]; omega
  · simp only [spc, List.length_take]; have := h.m0; omega
  · have := sl_bytes h.bytes (i * (m - 64)) (i * (m - 64) + (m - 64))
    rwa [sl, Nat.add_sub_cancel_left] at this
theorem rp_part {n m : Nat} {e : En} (h : EnOk n m e) {bl : List (List Int)} (hl : bl.length = n) (i : Nat) (hi : i < npc (m - 64) e.r.length)
    (hb : bl.getD (e.s * sbk bl.length + i) [] = frm m (spc e (m - 64) i)) : rp bl e.s i = some (spc e (m - 64) i) := by
  unfold rp
  rw [hb, unf_frm (spc_ok h i hi), hl]
  have hn := npc_le h
  refine if_neg ?_
  rintro (c | c)
  · exact c rfl
  · simp only [spc] at c; omega
theorem take_part (r : List Int) (a k : Nat) : r.take a ++ (r.drop a).take k = r.take (a + k) := by rw [List.take_add]
theorem rdL_part {n m : Nat} {e : En} (h : EnOk n m e) {bl : List (List Int)} (hl : bl.length = n) (hb : ∀ i, i < npc (m - 64) e.r.length → bl.getD (e.s * sbk bl.length + i) [] = frm m (spc e (m - 64) i))
    (k i : Nat) (hki : i + k = npc (m - 64) e.r.length) : rdL bl e.s e.t k i (e.r.take (i * (m - 64))) = some e.r := by
  induction k generalizing i with
  | zero =>
    rw [rdL, List.take_of_length_le]
    have hm := h.m0
    have : i = npc (m - 64) e.r.length := by omega
    rw [this]
    have h1 : (e.r.length + (m - 64) - 1) / (m - 64) ≤ npc (m - 64) e.r.length := by unfold npc; omega
    have h2 : e.r.length + (m - 64) - 1 < ((e.r.length + (m - 64) - 1) / (m - 64) + 1) * (m - 64) := by
      rw [← Nat.div_lt_iff_lt_mul (by omega)]; omega
    have h3 : (e.r.length + (m - 64) - 1) / (m - 64) * (m - 64) ≤ npc (m - 64) e.r.length * (m - 64) := Nat.mul_le_mul_right _ h1
    rw [Nat.add_mul] at h2
    omega
  | succ k ih =>
    rw [rdL, rp_part h hl i (by omega) (hb i (by omega))]
    simp only [spc, if_true]
    rw [take_part, ← Nat.succ_mul]
    exact ih (i + 1) (by omega)
/-- All its pieces there: the entry. -/
theorem rd_part {n m : Nat} {e : En} (h : EnOk n m e) {bl : List (List Int)} (hl : bl.length = n) (hb : ∀ i, i < npc (m - 64) e.r.length → bl.getD (e.s * sbk bl.length + i) [] = frm m (spc e (m - 64) i)) : rd bl e.s = some e := by
  have hn := npc_le h
  unfold rd
  rw [rp_part h hl 0 hn.1 (hb 0 hn.1)]
  have := rdL_part h hl hb (npc (m - 64) e.r.length - 1) 1 (by omega)
  rw [Nat.one_mul] at this
  simp only [spc, Nat.zero_mul, List.drop_zero, Int.toNat_natCast, this, Option.map_some]

/-! ### What the writes leave. -/
/-- Block j of what stood there, cut off behind so many bytes of what was written. -/
def cutB (q : Nat) (new old : List Int) : List Int := new.take q ++ old.drop q
/-- Behind an entry's writes: all are there; or one failed. -/
inductive Left (m : Nat) (e : En) (bl : List (List Int)) : List (List Int) → Prop where
  | all : Left m e bl (part m e bl (npc (m - 64) e.r.length))
  | blank (q : Nat) (hq : q ≤ m) : Left m e bl (bl.set (e.s * sbk bl.length) (cutB q (List.replicate m 0) (bl.getD (e.s * sbk bl.length) [])))
  | mid (k q : Nat) (hk : k < npc (m - 64) e.r.length) (hq : q ≤ m) : Left m e bl ((part m e bl k).set (e.s * sbk bl.length + (npc (m - 64) e.r.length - 1 - k)) (cutB q (frm m (spc e (m - 64) (npc (m - 64) e.r.length - 1 - k))) ((part m e bl k).getD (e.s * sbk bl.length + (npc (m - 64) e.r.length - 1 - k)) [])))
theorem Left.length {m : Nat} {e : En} {bl bl' : List (List Int)} (h : Left m e bl bl') : bl'.length = bl.length := by
  cases h <;> simp [part_length]
theorem slot_apart {n s s' i j : Nat} (h1 : s ≤ 1) (h2 : s' ≤ 1) (h3 : s ≠ s') (hi : i < sbk n) (hj : j < sbk n) : s * sbk n + i ≠ s' * sbk n + j := by
  rcases Nat.le_one_iff_eq_zero_or_eq_one.mp h1 with e | e <;> rcases Nat.le_one_iff_eq_zero_or_eq_one.mp h2 with e' | e' <;> subst e <;> subst e' <;> omega
/-- The other slot stays. -/
theorem Left.other {n m : Nat} {e : En} (h : EnOk n m e) {bl bl' : List (List Int)} (hl : bl.length = n) (hL : Left m e bl bl') : rd bl' (1 - e.s) = rd bl (1 - e.s) := by
  have hn := npc_le h
  have hs := h.s
  refine rd_eq hL.length (by rw [hl]; omega) fun j hj => ?_
  rw [hl] at hj
  have ap : ∀ i, i < sbk n → e.s * sbk bl.length + i ≠ (1 - e.s) * sbk bl.length + j := by
    intro i hi
    rw [hl]; exact slot_apart hs (by omega) (by omega) hi hj
  cases hL with
  | all => exact part_other _ _ _ _ _ fun i hi => ap i (by omega)
  | blank q hq => rw [getD_set_ne (by have := ap 0 (by omega); simpa using this)]
  | mid k q hk hq => rw [getD_set_ne (ap _ (by omega)), part_other _ _ _ _ _ fun i hi => ap i (by omega)]
theorem slot_in {n s i : Nat} (h1 : s ≤ 1) (h0 : 4 ≤ n) (hi : i < sbk n) : s * sbk n + i < n := by
  unfold sbk at *
  rcases Nat.le_one_iff_eq_zero_or_eq_one.mp h1 with e | e <;> subst e <;> omega
/-- Its own slot: as it was, nothing whole, or the entry. -/
theorem Left.own {n m : Nat} {e : En} (h : EnOk n m e) {bl bl' : List (List Int)} (hl : bl.length = n) (hb : ∀ b ∈ bl, b.length = m) (hL : Left m e bl bl') :
    rd bl' e.s = rd bl e.s ∨ rd bl' e.s = none ∨ rd bl' e.s = some e := by
  have hn := npc_le h
  have hs := h.s
  have hm := h.m0
  have hin : ∀ i, i < sbk n → e.s * sbk bl.length + i < bl.length := fun i hi => by rw [hl]; exact slot_in hs h.n0 hi
  have hold : (bl.getD (e.s * sbk bl.length) []).length = m := by
    have h0 : e.s * sbk bl.length < bl.length := hin 0 (by omega)
    have e1 : bl.getD (e.s * sbk bl.length) [] = bl[e.s * sbk bl.length] := by simp [List.getD, h0]
    rw [e1]; exact hb _ (List.getElem_mem _)
  cases hL with
  | all =>
    refine Or.inr (Or.inr (rd_part h (by rw [part_length]; exact hl) fun i hi => ?_))
    rw [part_length]
    exact part_there _ _ _ _ _ (hin i (by omega)) (by omega) hi (Nat.le_refl _)
  | blank q hq =>
    have hL0 : (bl.set (e.s * sbk bl.length) (cutB q (List.replicate m 0) (bl.getD (e.s * sbk bl.length) []))).length = bl.length := by simp
    by_cases h0 : q = 0
    · left
      subst h0
      refine rd_eq hL0 (by rw [hl]; omega) fun j hj => ?_
      by_cases e1 : j = 0
      · subst e1
        rw [Nat.add_zero, getD_set_eq (by have := hin 0 (by omega); simpa using this)]; simp [cutB]
      · rw [getD_set_ne (by omega)]
    · right; left
      refine rd_no ?_
      rw [hL0, getD_set_eq (by have := hin 0 (by omega); simpa using this)]
      refine unf_no0 _ ?_
      have : (cutB q (List.replicate m 0) (bl.getD (e.s * sbk bl.length) [])).getD 0 0 = 0 := by
        obtain ⟨q', rfl⟩ : ∃ q', q = q' + 1 := ⟨q - 1, by omega⟩
        obtain ⟨m', rfl⟩ : ∃ m', m = m' + 1 := ⟨m - 1, by omega⟩
        simp [cutB, List.replicate_succ]
      rw [this]; decide
  | mid k q hk hq =>
    have hin2 := hin (npc (m - 64) e.r.length - 1 - k) (by omega)
    by_cases h0 : k + 1 = npc (m - 64) e.r.length
    · have ez : npc (m - 64) e.r.length - 1 - k = 0 := by omega
      rw [ez, Nat.add_zero] at hin2 ⊢
      rw [part_first m e bl k hin2 hk]
      have hfl : (frm m (spc e (m - 64) 0)).length = m := frm_length (spc_ok h 0 hn.1).len
      by_cases hqm : q = m
      · right; right
        subst hqm
        have e1 : cutB q (frm q (spc e (q - 64) 0)) (List.replicate q 0) = frm q (spc e (q - 64) 0) := by
          rw [cutB, List.take_of_length_le (by omega), List.drop_eq_nil_of_le (by simp), List.append_nil]
        rw [e1]
        refine rd_part h (by simp [part_length]; exact hl) fun i hi => ?_
        rw [List.length_set, part_length]
        by_cases ei : i = 0
        · subst ei; rw [Nat.add_zero, getD_set_eq (by rw [part_length]; exact hin2)]
        · rw [getD_set_ne (by omega)]
          exact part_there _ _ _ _ _ (hin i (by omega)) (by omega) hi (by omega)
      · right; left
        refine rd_no ?_
        rw [List.length_set, part_length, getD_set_eq (by rw [part_length]; exact hin2)]
        have hlen : (cutB q (frm m (spc e (m - 64) 0)) (List.replicate m 0)).length = m := by simp [cutB, hfl]; omega
        refine unf_no1 _ ?_
        rw [hlen]
        have : (cutB q (frm m (spc e (m - 64) 0)) (List.replicate m 0)).getD (m - 1) 0 = 0 := by
          have h1 : ((frm m (spc e (m - 64) 0)).take q).length = q := by simp [hfl]; omega
          rw [cutB, List.getD, List.getElem?_append_right (by omega), h1]
          simp [List.getElem?_replicate]
          split <;> rfl
        rw [this]; decide
    · right; left
      refine rd_no ?_
      rw [List.length_set, part_length, getD_set_ne (by omega), part_first m e bl k (by have := hin 0 (by omega); simpa using this) hk]
      refine unf_no0 _ ?_
      obtain ⟨m', rfl⟩ : ∃ m', m = m' + 1 := ⟨m - 1, by omega⟩
      simp [List.replicate_succ]
theorem Left.whole {n m : Nat} {e : En} (h : EnOk n m e) {bl : List (List Int)} (hl : bl.length = n) : rd (part m e bl (npc (m - 64) e.r.length)) e.s = some e := by
  have hn := npc_le h
  refine rd_part h (by rw [part_length]; exact hl) fun i hi => ?_
  rw [part_length]
  exact part_there _ _ _ _ _ (by rw [hl]; exact slot_in h.s h.n0 (by omega)) (by omega) hi (Nat.le_refl _)
end Go.Proofs.YtbmpjlgfbiakoaaDoor
