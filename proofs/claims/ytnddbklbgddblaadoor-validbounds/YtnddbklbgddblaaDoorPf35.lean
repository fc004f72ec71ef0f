/-
  Settings as text: the program's reader: fail, take, expect, mustEnd.
  Which settings may be: numbers within bounds, lists without one twice, the pairs' sides.
  Settings as text: the program's reader: expect, mustEnd, what values are read by.
-/
import Derived.Test.YtnddbklbgddblaaDoorPf22
import Derived.Test.YtnddbklbgddblaaDoorPf34
import Derived.Test.YtnddbklbgddblaaDoorPf10
import Derived.Test.YtnddbklbgddblaaDoorPf07
import Derived.Test.YtnddbklbgddblaaDoorPf08
import Derived.Test.YtnddbklbgddblaaDoorPf04
namespace Go.Proofs.YtnddbklbgddblaaDoor
open Go.RowKit
open Sm
open Cf
open La
set_option linter.unusedVariables false
set_option linter.unusedSimpArgs false
set_option maxRecDepth 20000

theorem Mem.front {w V : World} {K : List (Nat × Obj)} (h : Mem w V K) (o : Obj) {n : Nat} (hn : n = V.heap.size) : Mem w (V.alloc o) ((n, o) :: K) := (h.push n o hn).perm List.perm_append_comm
/-- A slice of words, in blocks K. -/
def WIn (K : List (Nat × Obj)) (v : Value) (ws : List Wd) : Prop := ∃ a c, v = .slice a ws.length c ∧ ws.length ≤ c ∧ c ≤ 9223372036854775807 ∧
  (ws = [] ∨ ∃ b off A T, a = some ⟨b, off, none⟩ ∧ (b, Obj.cells A T (0, 0)) ∈ K ∧ ∀ (i : Nat) (x : Wd), ws[i]? = some x → A[off + 2 * i]? = some (.string x.1) ∧ A[off + 2 * i + 1]? = some (.int .i64 x.2))
theorem WIn.sub {K L : List (Nat × Obj)} {v : Value} {ws : List Wd} (h : WIn K v ws) (hs : ∀ p ∈ K, p ∈ L) : WIn L v ws := by
  obtain ⟨a, c, h1, h2, h3, h4⟩ := h
  refine ⟨a, c, h1, h2, h3, ?_⟩
  rcases h4 with h | ⟨b, off, A, T, e, hm, hc⟩
  · exact Or.inl h
  · exact Or.inr ⟨b, off, A, T, e, hs _ hm, hc⟩
/-- A line of the program's, in block g; its words lie in blocks W. -/
def LnS (w V : World) (g : Nat) (post : List Value) (T : TypeId) (σ : Sg) (W K : List (Nat × Obj)) : Prop :=
  σ.bad = none ∧ (∀ x ∈ σ.ws, x.1.size ≤ 32768) ∧ ∃ v, WIn W v σ.ws ∧ Mem w V ((g, .cells (v :: .int .i64 σ.fin :: post).toArray T (0, 0)) :: (K ++ W))
section
variable {w V V' : World} {g : Nat} {post : List Value} {T : TypeId} {σ : Sg} {W K : List (Nat × Obj)}
theorem LnS.mem (h : LnS w V g post T σ W K) : Mem w V (K ++ W) := by
  obtain ⟨-, -, v, -, h⟩ := h; exact h.sub
theorem LnS.all (h : LnS w V g post T σ W K) : ∃ o, Mem w V ((g, o) :: (K ++ W)) := by
  obtain ⟨-, -, v, -, h⟩ := h; exact ⟨_, h⟩
theorem LnS.after (h : LnS w V g post T σ W K) (hb : Below V.heap.size V V') : LnS w V' g post T σ W K := by
  obtain ⟨h1, h2, v, h3, h⟩ := h; exact ⟨h1, h2, v, h3, h.after hb⟩
theorem LnS.push (h : LnS w V g post T σ W K) (o : Obj) {n : Nat} (hn : n = V.heap.size) : LnS w (V.alloc o) g post T σ W ((n, o) :: K) := by
  obtain ⟨h1, h2, v, h3, h⟩ := h
  exact ⟨h1, h2, v, h3, (h.front o hn).perm (List.Perm.swap _ _ _)⟩
theorem LnS.set (h : LnS w V g post T σ W K) {i n : Nat} {A : Array Value} {t : TypeId} (hi : K[i]? = some (n, .cells A t (0, 0))) (j : Nat) (v : Value) : LnS w (V.setCell ⟨n, j, none⟩ v) g post T σ W (K.set i (n, .cells (A.setIfInBounds j v) t (0, 0))) := by
  obtain ⟨h1, h2, u, h3, h⟩ := h
  have hl : i < K.length := by
    rcases Nat.lt_or_ge i K.length with h | h
    · exact h
    · rw [List.getElem?_eq_none h] at hi; cases hi
  have := h.set (i + 1) (by rw [List.getElem?_cons_succ, List.getElem?_append_left hl]; exact hi) j v
  rw [List.set_cons_succ, List.set_append_left _ _ hl] at this
  exact ⟨h1, h2, u, h3, this⟩
theorem LnS.perm {K' : List (Nat × Obj)} (h : LnS w V g post T σ W K) (hp : K.Perm K') : LnS w V g post T σ W K' := by
  obtain ⟨h1, h2, v, h3, h⟩ := h
  exact ⟨h1, h2, v, h3, h.perm (List.Perm.cons _ (hp.append_right W))⟩
end

end Go.Proofs.YtnddbklbgddblaaDoor

namespace Go.Proofs.YtnddbklbgddblaaDoor
open Go.RowKit
open Va
set_option linter.unusedVariables false
set_option linter.unusedSimpArgs false
set_option maxRecDepth 20000

theorem within_u32 (w : World) (n a b : Int) : Calls Tryd.prog 53 #[.int .u32 n, .int .u32 a, .int .u32 b] w fun e w' => e = .returned (.bool (wi n a b)) ∧ w = w' := by
  unfold wi
  by_cases h1 : a ≤ n
  · by_cases h2 : n ≤ b
    · have d1 : decide (a ≤ n) = true := decide_eq_true h1
      have d2 : decide (n ≤ b) = true := decide_eq_true h2
      rw [d1, d2]
      go_enter Tryd.func53, Tryd.ntmps53
      go_wp2_with fail
      go_ret
      exact ⟨by simp <;> rfl, rfl⟩
    · have d1 : decide (a ≤ n) = true := decide_eq_true h1
      have d2 : decide (n ≤ b) = false := decide_eq_false h2
      rw [d1, d2]
      go_enter Tryd.func53, Tryd.ntmps53
      go_wp2_with fail
      go_ret
      exact ⟨by simp <;> rfl, rfl⟩
  · have d1 : decide (a ≤ n) = false := decide_eq_false h1
    rw [d1, Bool.false_and]
    go_enter Tryd.func53, Tryd.ntmps53
    go_wp2_with fail
    go_ret
    exact ⟨by simp <;> rfl, rfl⟩
theorem within_u16 (w : World) (n a b : Int) : Calls Tryd.prog 58 #[.int .u16 n, .int .u16 a, .int .u16 b] w fun e w' => e = .returned (.bool (wi n a b)) ∧ w = w' := by
  unfold wi
  by_cases h1 : a ≤ n
  · by_cases h2 : n ≤ b
    · have d1 : decide (a ≤ n) = true := decide_eq_true h1
      have d2 : decide (n ≤ b) = true := decide_eq_true h2
      rw [d1, d2]
      go_enter Tryd.func58, Tryd.ntmps58
      go_wp2_with fail
      go_ret
      exact ⟨by simp <;> rfl, rfl⟩
    · have d1 : decide (a ≤ n) = true := decide_eq_true h1
      have d2 : decide (n ≤ b) = false := decide_eq_false h2
      rw [d1, d2]
      go_enter Tryd.func58, Tryd.ntmps58
      go_wp2_with fail
      go_ret
      exact ⟨by simp <;> rfl, rfl⟩
  · have d1 : decide (a ≤ n) = false := decide_eq_false h1
    rw [d1, Bool.false_and]
    go_enter Tryd.func58, Tryd.ntmps58
    go_wp2_with fail
    go_ret
    exact ⟨by simp <;> rfl, rfl⟩
theorem within_int (w : World) (n a b : Int) : Calls Tryd.prog 60 #[.int .i64 n, .int .i64 a, .int .i64 b] w fun e w' => e = .returned (.bool (wi n a b)) ∧ w = w' := by
  unfold wi
  by_cases h1 : a ≤ n
  · by_cases h2 : n ≤ b
    · have d1 : decide (a ≤ n) = true := decide_eq_true h1
      have d2 : decide (n ≤ b) = true := decide_eq_true h2
      rw [d1, d2]
      go_enter Tryd.func60, Tryd.ntmps60
      go_wp2_with fail
      go_ret
      exact ⟨by simp <;> rfl, rfl⟩
    · have d1 : decide (a ≤ n) = true := decide_eq_true h1
      have d2 : decide (n ≤ b) = false := decide_eq_false h2
      rw [d1, d2]
      go_enter Tryd.func60, Tryd.ntmps60
      go_wp2_with fail
      go_ret
      exact ⟨by simp <;> rfl, rfl⟩
  · have d1 : decide (a ≤ n) = false := decide_eq_false h1
    rw [d1, Bool.false_and]
    go_enter Tryd.func60, Tryd.ntmps60
    go_wp2_with fail
    go_ret
    exact ⟨by simp <;> rfl, rfl⟩
set_option maxHeartbeats 4000000 in
theorem unlike_any {w : World} {v : Value} {l : List Int} (h : Rw w 1 v (ux l)) (hb : l.length ≤ 1000000) :
    Calls Tryd.prog 56 #[v] w fun e w' => e = .returned (.bool (unl l)) ∧ w = w' := by
  have h0 := h
  obtain ⟨a, c, rfl, hlc, hcb, hx⟩ := rw_u h
  have HX : Hid (∀ i, i < l.length → ∃ b off, a = some ⟨b, off, none⟩ ∧ w.cell? ⟨b, off + i, none⟩ = some (.int .u32 (l.getD i 0))) := by
    intro i hi
    obtain ⟨b, off, h1, h2⟩ := hx i hi
    exact ⟨b, off, h1, h2 _ (Below.refl _ _)⟩
  have HC : Hid (∀ i, i < l.length → ∀ x, Calls Tryd.prog 48 #[.slice a i c, .int .u32 x] w fun e w' => e = .returned (.bool (hs (l.take i) x)) ∧ w = w') := by
    intro i hi x
    have hl : (ux l).length = l.length := by simp [ux]
    have := h0.head i (by omega)
    rw [ux_take] at this
    exact contains_u this (by simp; omega) x
  obtain ⟨R, hR⟩ : ∃ R, unl l = R := ⟨_, rfl⟩
  rw [hR]
  have HY : Hid (∀ i, i < l.length → bad l i → R = false) := fun i hi hbd => by rw [← hR]; exact decide_eq_false (fun h => h i hi hbd)
  have HE : Hid ((∀ j, j < l.length → ¬ bad l j) → R = true) := fun h => by rw [← hR]; exact decide_eq_true h
  have H0 : Hid ((∀ j, j < 0 → ¬ bad l j) ∧ w = w) := ⟨fun j hj => absurd hj (by omega), rfl⟩
  clear h hx h0 hR
  generalize l.length = n at *
  go_enter Tryd.func56, Tryd.ntmps56
  go_wp2_with fail
  go_loopw [7] (fun u7 w' => ∃ i : Nat, i ≤ n ∧ u7 = .int .i64 i ∧ Hid ((∀ j, j < i → ¬ bad l j) ∧ w = w')) (fun u7 w' => n - (intOf u7).toNat)
  case atStart => exact ⟨0, Nat.zero_le _, rfl, H0.out.1, rfl⟩
  case round =>
    obtain ⟨i, hi, rfl, HR⟩ := hrel
    obtain ⟨hall, rfl⟩ := HR.out
    by_cases hlt : i < n
    · have h1 : (i : Int) < n := by omega
      obtain ⟨b, off, rfl, d0⟩ := HX.out i hlt
      have HY1 : Hid ((l.getD i 0 = 0 ∨ hs (l.take i) (l.getD i 0) = true) → R = false) := HY.out i hlt
      have HN1 : Hid (¬ (l.getD i 0 = 0 ∨ hs (l.take i) (l.getD i 0) = true) → ∀ j, j < i + 1 → ¬ bad l j) := by
        intro hn j hj
        rcases Nat.lt_or_ge j i with h | h
        · exact hall j h
        · obtain rfl : j = i := by omega
          exact hn
      have C := HC.out i hlt (l.getD i 0)
      clear HX HY HE H0 HR HC hall
      generalize l.getD i 0 = x at *
      generalize hs (l.take i) x = B at *
      have q1 : (i : Int) ≤ c := by omega
      by_cases hx0 : x = 0
      · obtain rfl := HY1.out (Or.inl hx0)
        subst hx0
        clear HY1 HN1
        go_wp2_with fail
        go_ret
        exact ⟨rfl, rfl⟩
      · have hx1 : (x == 0) = false := by simp [hx0]
        cases B with
        | true =>
          obtain rfl := HY1.out (Or.inr rfl)
          clear HY1 HN1
          go_wp2_with fail
          refine C.mono ?_
          rintro _ _ ⟨rfl, rfl⟩
          go_wp2_with fail
          go_ret
          exact ⟨rfl, rfl⟩
        | false =>
          have HF : Hid ((∀ j, j < i + 1 → ¬ bad l j) ∧ True) := ⟨HN1.out (by simp [hx0]), trivial⟩
          clear HY1 HN1
          go_wp2_with fail
          refine C.mono ?_
          rintro _ _ ⟨rfl, rfl⟩
          go_wp2_with fail
          go_roundw
          case rel => exact ⟨i + 1, by omega, by go_num, HF⟩
          case measure => simp [intOf]; omega
    · have h1 : ¬ ((i : Int) < n) := by omega
      obtain rfl : i = n := by omega
      obtain rfl := HE.out hall
      clear HX HY HE H0 HR HC hall
      go_wp2_with fail
      go_ret
      exact ⟨rfl, rfl⟩
/-- A number of each pair. -/
def PrF (W : World) (k : Nat) (caps : Array Value) (f : Int × Int → Int) : Prop := Enr k ∧ ∀ x y, Clo W k caps #[.agg #[.int .u32 x, .int .u32 y]] (.int .u32 (f (x, y)))
theorem first1_any (W : World) : PrF W 86 #[] Prod.fst := by
  refine ⟨enters_of Tryd.func86 (by kernel_rfl) rfl, fun x y V hV => ?_⟩
  simp only [List.append_toArray, List.cons_append, List.nil_append, Array.append_empty]
  go_enter Tryd.func86, Tryd.ntmps86
  go_wp2_with fail
  go_ret
  exact ⟨rfl, (Below.refl _ _).alloc (Nat.le_refl _) _⟩
theorem second1_any (W : World) : PrF W 87 #[] Prod.snd := by
  refine ⟨enters_of Tryd.func87 (by kernel_rfl) rfl, fun x y V hV => ?_⟩
  simp only [List.append_toArray, List.cons_append, List.nil_append, Array.append_empty]
  go_enter Tryd.func87, Tryd.ntmps87
  go_wp2_with fail
  go_ret
  exact ⟨rfl, (Below.refl _ _).alloc (Nat.le_refl _) _⟩
/-- The numbers told so far, noughts behind them. -/
def sof (f : Int × Int → Int) (l : List (Int × Int)) (i : Nat) : List Value := ((l.take i).map f).map (Value.int .u32) ++ List.replicate (l.length - i) (.int .u32 0)
theorem sof_zero (f : Int × Int → Int) (l : List (Int × Int)) : (madeCells #[.int .u32 0] l.length) = (sof f l 0).toArray := by
  apply Array.toList_inj.mp
  rw [toList_madeCells_one]
  simp [sof]
theorem sof_len (f : Int × Int → Int) (l : List (Int × Int)) (i : Nat) (hi : i ≤ l.length) : (sof f l i).length = l.length := by simp [sof]; omega
theorem sof_step (f : Int × Int → Int) (l : List (Int × Int)) (i : Nat) (hi : i < l.length) : (sof f l i).toArray.setIfInBounds i (.int .u32 (f (l.getD i (0, 0)))) = (sof f l (i + 1)).toArray := by
  rw [List.setIfInBounds_toArray]
  congr 1
  have e1 : l.length - i = (l.length - (i + 1)) + 1 := by omega
  have e2 : l.take (i + 1) = l.take i ++ [l.getD i (0, 0)] := by rw [List.take_add_one]; simp [List.getD, List.getElem?_eq_getElem hi]
  have hl : (((l.take i).map f).map (Value.int .u32)).length = i := by simp; omega
  unfold sof
  rw [e1, List.replicate_succ, List.set_append_right _ _ (by omega), hl, Nat.sub_self, List.set_cons_zero, e2]
  simp
theorem sof_end (f : Int × Int → Int) (l : List (Int × Int)) : sof f l l.length = (l.map f).map (Value.int .u32) := by simp [sof]
theorem make_u32 (n : Nat) (h : n ≤ 1000000) (w : World) : (Instr.makeSlice 35 (.int .i64 (n : Int)) (.int .i64 (n : Int))).run Tryd.prog w = .ok (.slice (some ⟨w.heap.size, 0, none⟩) n n) (w.alloc (.cells (madeCells #[.int .u32 0] n) 22)) :=
  run_make_row' 35 22 (.int .u32 0) 4 Tryd.underlying35 infoU rfl .i64 .i64 n (by omega) (by omega) w
theorem rw_own {V : World} {g : Nat} {xs : List Int} (h : V.heap[g]? = some (.cells (xs.map (Value.int .u32)).toArray 22 (0, 0))) (hl : xs.length ≤ 1000000) : Rw V 1 (.slice (some ⟨g, 0, none⟩) xs.length xs.length) (ux xs) := by
  have hk : (ux xs).length = xs.length := by simp [ux]
  refine ⟨some ⟨g, 0, none⟩, xs.length, by rw [hk], by omega, by omega, (fun e => by cases e), Or.inr ⟨g, 0, rfl, fun i hi j u hu => ?_⟩⟩
  rw [hk] at hi
  have e : (ux xs).getD i [] = [.int .u32 xs[i]] := by simp [ux, List.getD, List.getElem?_eq_getElem hi]
  rw [e] at hu
  have hj : j = 0 := by
    rcases j with _ | j
    · rfl
    · simp at hu
  subst hj
  simp at hu
  subst hu
  rw [cell_of h]
  simp [List.getElem?_eq_getElem hi]
set_option maxHeartbeats 8000000 in
theorem each_any {w : World} {v : Value} {l : List (Int × Int)} (h : Rw w 2 v (px l)) (hb : l.length ≤ 1000000) {k : Nat} {caps : Array Value} {f : Int × Int → Int} (hf : PrF w k caps f) :
    Calls Tryd.prog 85 #[v, .func (.func k) #[] caps] w fun e w' => ∃ u, e = .returned u ∧ Rw w' 1 u (ux (l.map f)) ∧ Below w.heap.size w w' := by
  obtain ⟨a, c, rfl, hlc, hcb, hx⟩ := rw_p h
  have HX : Hid (∀ i, i < l.length → ∃ b off, a = some ⟨b, off, none⟩ ∧ ∀ V, Below w.heap.size w V → V.cell? ⟨b, off + i * 2, none⟩ = some (.int .u32 (l.getD i (0, 0)).1) ∧ V.cell? ⟨b, off + i * 2 + 1, none⟩ = some (.int .u32 (l.getD i (0, 0)).2)) := hx
  obtain ⟨g, hg⟩ : ∃ g, w.heap.size = g := ⟨_, rfl⟩
  have hmk := make_u32 l.length hb w
  have hM0 : Mem w (w.alloc (.cells (madeCells #[.int .u32 0] l.length) 22)) [(g, .cells (sof f l 0).toArray 22 (0, 0))] := by rw [sof_zero f]; exact (Mem.nil w).push1 hg.symm
  have HS : Hid (∀ i, i < l.length → (sof f l i).toArray.setIfInBounds i (.int .u32 (f (l.getD i (0, 0)))) = (sof f l (i + 1)).toArray) := sof_step f l
  have HL : Hid (∀ i, i ≤ l.length → (sof f l i).length = l.length) := sof_len f l
  have HE : Hid (∀ V, Mem w V [(g, .cells (sof f l l.length).toArray 22 (0, 0))] → Rw V 1 (.slice (some ⟨g, 0, none⟩) l.length l.length) (ux (l.map f))) := by
    intro V hV
    rw [sof_end] at hV
    have := rw_own (hV.get 0 rfl) (by simpa using hb)
    rwa [List.length_map] at this
  have eg : ∀ args V, (callFunc k args).run Tryd.prog V = .ok (.enter k args) V := hf.1
  have HC : Hid (PrF w k caps f) := hf
  clear h hx hf
  generalize hn : l.length = n at *
  go_enter Tryd.func85, Tryd.ntmps85
  go_upto_region 2 with fail
  refine wp_letter (fun X => Mem w X [(g, .cells (sof f l 0).toArray 22 (0, 0))]) (by exact hM0) ?_
  intro V0 hM
  try simp only [hg]
  have HM : Hid (Mem w V0 [(g, .cells (sof f l 0).toArray 22 (0, 0))]) := hM
  clear hM0 hmk hM hg
  go_wp2_with fail
  go_loopw [13] (fun u13 w' => ∃ i : Nat, i ≤ n ∧ u13 = .int .i64 i ∧ Hid (Mem w w' [(g, .cells (sof f l i).toArray 22 (0, 0))])) (fun u13 w' => n - (intOf u13).toNat)
  case atStart => exact ⟨0, Nat.zero_le _, rfl, HM⟩
  case round =>
    obtain ⟨i, hi, rfl, HR⟩ := hrel
    by_cases hlt : i < n
    · have h1 : (i : Int) < n := by omega
      obtain ⟨b, off, rfl, hd⟩ := HX.out i hlt
      obtain ⟨d0, d1⟩ := hd _ HR.out.below
      obtain ⟨⟨y1, y2⟩, hy⟩ : ∃ y, l.getD i (0, 0) = y := ⟨_, rfl⟩
      have HS1 := HS.out i hlt
      rw [hy] at d0 d1 HS1
      simp only at d0 d1
      obtain ⟨gp, hgp⟩ : ∃ gp, wr.heap.size = gp := ⟨_, rfl⟩
      have HM2 : Hid (Mem w (wr.alloc (.cells #[.int .u32 y1, .int .u32 y2] 52)) [(gp, .cells #[.int .u32 y1, .int .u32 y2] 52 (0, 0)), (g, .cells (sof f l i).toArray 22 (0, 0))]) := HR.out.front (.cells #[.int .u32 y1, .int .u32 y2] 52 (0, 0)) hgp.symm
      have HC1 : Hid (∀ V, Below w.heap.size w V → Calls Tryd.prog k (#[.agg #[.int .u32 y1, .int .u32 y2]] ++ caps) V fun e V' => e = .returned (.int .u32 (f (y1, y2))) ∧ Below V.heap.size V V') := fun V hV => HC.out.2 y1 y2 V hV
      have HS2 : Hid ((sof f l i).toArray.setIfInBounds i (.int .u32 (f (y1, y2))) = (sof f l (i + 1)).toArray ∧ (sof f l i).length = n) := ⟨HS1, HL.out i hi⟩
      clear HX HS HL HE HC HM HR hd hy HS1 hn
      generalize f (y1, y2) = z at *
      go_upto_region 5 with fail
      refine wp_letter (fun X => Mem w X [(gp, .cells #[.int .u32 y1, .int .u32 y2] 52 (0, 0)), (g, .cells (sof f l i).toArray 22 (0, 0))]) (by (try rw [hgp]); exact HM2.out) ?_
      intro V1 hM3
      try simp only [hgp]
      clear HM2 hgp d0 d1
      have e0 : V1.cell? ⟨gp, 0, none⟩ = some (.int .u32 y1) := hM3.cell 0 rfl 0
      have e1 : V1.cell? ⟨gp, 1, none⟩ = some (.int .u32 y2) := hM3.cell 0 rfl 1
      have C := HC1.out V1 hM3.below
      have HM3 : Hid (Mem w V1 [(gp, .cells #[.int .u32 y1, .int .u32 y2] 52 (0, 0)), (g, .cells (sof f l i).toArray 22 (0, 0))]) := hM3
      clear hM3 HC1
      go_wp2_with fail
      refine C.mono ?_
      rintro _ V2 ⟨rfl, hb2⟩
      have hM4 := HM3.out.after hb2
      have hM5 := hM4.set 1 rfl i (.int .u32 z)
      rw [HS2.out.1] at hM5
      have f0 : V2.frozen? ⟨g, i, none⟩ = false := hM4.free 1 rfl i
      have f1 : ∃ v0, V2.cell? ⟨g, i, none⟩ = some v0 := ⟨_, (hM4.cell 1 rfl i).trans (Array.getElem?_eq_getElem (by rw [List.size_toArray, HS2.out.2]; exact hlt))⟩
      obtain ⟨v0, f1⟩ := f1
      have HM5 : Hid (Mem w (V2.setCell ⟨g, i, none⟩ (.int .u32 z)) [(g, .cells (sof f l (i + 1)).toArray 22 (0, 0))]) := hM5.sub
      clear hM4 hM5 HM3 HS2 hb2 C e0 e1
      go_wp2_with fail
      go_roundw
      case rel => exact ⟨i + 1, by omega, by go_num, HM5⟩
      case measure => simp [intOf]; omega
    · have h1 : ¬ ((i : Int) < n) := by omega
      obtain rfl : i = n := by omega
      have HF : Hid (Rw wr 1 (.slice (some ⟨g, 0, none⟩) i i) (ux (l.map f)) ∧ Below w.heap.size w wr) := ⟨HE.out wr HR.out, HR.out.below⟩
      clear HX HS HL HE HC HM HR
      go_wp2_with fail
      go_ret
      exact ⟨_, rfl, HF.out.1, HF.out.2⟩
theorem firsts_any {w : World} {v : Value} {l : List (Int × Int)} (h : Rw w 2 v (px l)) (hb : l.length ≤ 1000000) :
    Calls Tryd.prog 64 #[v] w fun e w' => ∃ u, e = .returned u ∧ Rw w' 1 u (ux (fst' l)) ∧ Below w.heap.size w w' := by
  have C := each_any h hb (first1_any w)
  unfold fst'
  clear h hb
  go_enter Tryd.func64, Tryd.ntmps64
  go_wp2_with fail
  refine C.mono ?_
  rintro _ V ⟨u, rfl, h1, h2⟩
  have HF : Hid (Rw V 1 u (ux (l.map Prod.fst)) ∧ Below w.heap.size w V) := ⟨h1, h2⟩
  clear h1 h2 C
  go_wp2_with fail
  go_ret
  exact ⟨_, rfl, HF.out.1, HF.out.2⟩
theorem seconds_any {w : World} {v : Value} {l : List (Int × Int)} (h : Rw w 2 v (px l)) (hb : l.length ≤ 1000000) :
    Calls Tryd.prog 65 #[v] w fun e w' => ∃ u, e = .returned u ∧ Rw w' 1 u (ux (snd' l)) ∧ Below w.heap.size w w' := by
  have C := each_any h hb (second1_any w)
  unfold snd'
  clear h hb
  go_enter Tryd.func65, Tryd.ntmps65
  go_wp2_with fail
  refine C.mono ?_
  rintro _ V ⟨u, rfl, h1, h2⟩
  have HF : Hid (Rw V 1 u (ux (l.map Prod.snd)) ∧ Below w.heap.size w V) := ⟨h1, h2⟩
  clear h1 h2 C
  go_wp2_with fail
  go_ret
  exact ⟨_, rfl, HF.out.1, HF.out.2⟩
end Go.Proofs.YtnddbklbgddblaaDoor

namespace Go.Proofs.YtnddbklbgddblaaDoor
open Go.RowKit
open Cf
open La
set_option linter.unusedVariables false
set_option linter.unusedSimpArgs false
set_option maxRecDepth 20000

end Go.Proofs.YtnddbklbgddblaaDoor

