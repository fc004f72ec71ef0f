/-
  Which settings may be: function values that only read; a list gone through.
  Settings as bytes: the document's settings: numbers.
-/
import Derived.Test.YtnddbklbgddblaaDoorPf23
import Derived.Test.YtnddbklbgddblaaDoorPf31
import Derived.Test.YtnddbklbgddblaaDoorPf20
import Derived.Shelf.Abstract
import Derived.Laws.EntriesVeiled
import Derived.Test.YtnddbklbgddblaaDoorPf29
namespace Go.Proofs.YtnddbklbgddblaaDoor
open Go.RowKit
open Va
set_option linter.unusedVariables false
set_option linter.unusedSimpArgs false
set_option maxRecDepth 20000

/-- A function value that answers r of args in every world behind W, and turns nothing. -/
def Clo (W : World) (k : Nat) (caps args : Array Value) (r : Value) : Prop := ∀ V, Below W.heap.size W V → Calls Tryd.prog k (args ++ caps) V fun e V' => e = .returned r ∧ Below V.heap.size V V'
/-- It may be called. -/
def Enr (k : Nat) : Prop := ∀ args V, (callFunc k args).run Tryd.prog V = .ok (.enter k args) V
theorem Clo.later {W W' : World} {k : Nat} {caps args : Array Value} {r : Value} (h : Clo W k caps args r) (hb : Below W.heap.size W W') : Clo W' k caps args r := fun V hV => h V (hb.trans (hV.mono hb.size))
/-- A test of numbers. -/
def PrU (W : World) (k : Nat) (caps : Array Value) (f : Int → Bool) : Prop := Enr k ∧ ∀ x, Clo W k caps #[.int .u32 x] (.bool (f x))
/-- A test of pairs. -/
def PrP (W : World) (k : Nat) (caps : Array Value) (f : Int × Int → Bool) : Prop := Enr k ∧ ∀ x y, Clo W k caps #[.agg #[.int .u32 x, .int .u32 y]] (.bool (f (x, y)))
/-- Few enough. -/
def TSm (t : Ten) : Prop := t.name.size ≤ 1000000 ∧ t.pool.length ≤ 1000000 ∧ t.stat.length ≤ 1000000 ∧ t.twi.length ≤ 1000000
/-- A test of tenants. -/
def PrT (W : World) (k : Nat) (caps : Array Value) (f : Ten → Bool) : Prop := Enr k ∧ ∀ V v t, Below W.heap.size W V → TV V v t → TSm t → Calls Tryd.prog k (#[v] ++ caps) V fun e V' => e = .returned (.bool (f t)) ∧ Below V.heap.size V V'
/-- A rule. -/
def Rul (W : World) (k : Nat) (caps : Array Value) (e : Int) : Prop := Enr k ∧ Clo W k caps #[] (.int .i64 e)
/-- A question. -/
def Ask (W : World) (k : Nat) (caps : Array Value) (b : Bool) : Prop := Enr k ∧ Clo W k caps #[] (.bool b)
theorem PrU.later {W W' : World} {k : Nat} {caps : Array Value} {f : Int → Bool} (h : PrU W k caps f) (hb : Below W.heap.size W W') : PrU W' k caps f := ⟨h.1, fun x => (h.2 x).later hb⟩
theorem PrP.later {W W' : World} {k : Nat} {caps : Array Value} {f : Int × Int → Bool} (h : PrP W k caps f) (hb : Below W.heap.size W W') : PrP W' k caps f := ⟨h.1, fun x y => (h.2 x y).later hb⟩
theorem PrT.later {W W' : World} {k : Nat} {caps : Array Value} {f : Ten → Bool} (h : PrT W k caps f) (hb : Below W.heap.size W W') : PrT W' k caps f := ⟨h.1, fun V v t hV ht hm => h.2 V v t (hb.trans (hV.mono hb.size)) ht hm⟩
theorem Rul.later {W W' : World} {k : Nat} {caps : Array Value} {e : Int} (h : Rul W k caps e) (hb : Below W.heap.size W W') : Rul W' k caps e := ⟨h.1, h.2.later hb⟩
theorem Ask.later {W W' : World} {k : Nat} {caps : Array Value} {b : Bool} (h : Ask W k caps b) (hb : Below W.heap.size W W') : Ask W' k caps b := ⟨h.1, h.2.later hb⟩
theorem rw_u {w : World} {v : Value} {l : List Int} (h : Rw w 1 v (ux l)) : ∃ a c, v = .slice a l.length c ∧ l.length ≤ c ∧ c ≤ 9223372036854775807 ∧ ∀ i, i < l.length → ∃ b off, a = some ⟨b, off, none⟩ ∧ ∀ V, Below w.heap.size w V → V.cell? ⟨b, off + i, none⟩ = some (.int .u32 (l.getD i 0)) := by
  have hl : (ux l).length = l.length := by simp [ux]
  obtain ⟨a, c, rfl, h1, h2, h3, h4⟩ := h
  rw [hl] at h1 h4 ⊢
  refine ⟨a, c, rfl, h1, h2, fun i hi => ?_⟩
  rcases h4 with e | ⟨b, off, rfl, hc⟩
  · rw [e] at hl; simp at hl; omega
  · refine ⟨b, off, rfl, fun V hV => ?_⟩
    have := hc i hi 0 (.int .u32 (l.getD i 0)) (by simp [ux, List.getD, List.getElem?_eq_getElem hi])
    rw [Nat.mul_one, Nat.add_zero] at this
    rw [hV.cell (p := ⟨b, off + i, none⟩) (cell_lt this)]
    exact this
theorem rw_p {w : World} {v : Value} {l : List (Int × Int)} (h : Rw w 2 v (px l)) : ∃ a c, v = .slice a l.length c ∧ l.length ≤ c ∧ c ≤ 9223372036854775807 ∧ ∀ i, i < l.length → ∃ b off, a = some ⟨b, off, none⟩ ∧ ∀ V, Below w.heap.size w V → V.cell? ⟨b, off + i * 2, none⟩ = some (.int .u32 (l.getD i (0, 0)).1) ∧ V.cell? ⟨b, off + i * 2 + 1, none⟩ = some (.int .u32 (l.getD i (0, 0)).2) := by
  have hl : (px l).length = l.length := by simp [px]
  obtain ⟨a, c, rfl, h1, h2, h3, h4⟩ := h
  rw [hl] at h1 h4 ⊢
  refine ⟨a, c, rfl, h1, h2, fun i hi => ?_⟩
  rcases h4 with e | ⟨b, off, rfl, hc⟩
  · rw [e] at hl; simp at hl; omega
  · refine ⟨b, off, rfl, fun V hV => ?_⟩
    have q0 := hc i hi 0 (.int .u32 (l.getD i (0, 0)).1) (by simp [px, List.getD, List.getElem?_eq_getElem hi])
    have q1 := hc i hi 1 (.int .u32 (l.getD i (0, 0)).2) (by simp [px, List.getD, List.getElem?_eq_getElem hi])
    rw [Nat.add_zero] at q0
    rw [hV.cell (p := ⟨b, off + i * 2, none⟩) (cell_lt q0), hV.cell (p := ⟨b, off + i * 2 + 1, none⟩) (cell_lt q1)]
    exact ⟨q0, q1⟩
theorem Rw.head {w : World} {sz : Nat} {a : Option Addr} {n c : Nat} {xs : List (List Value)} (h : Rw w sz (.slice a n c) xs) (i : Nat) (hi : i ≤ xs.length) : Rw w sz (.slice a i c) (xs.take i) := by
  obtain ⟨a', c', e, h1, h2, h3, h4⟩ := h
  simp only [Value.slice.injEq] at e
  obtain ⟨rfl, -, rfl⟩ := e
  have hl : (xs.take i).length = i := by simp; omega
  refine ⟨a, c, by rw [hl], by omega, h2, h3, ?_⟩
  rcases h4 with e | ⟨b, off, rfl, hc⟩
  · exact Or.inl (by rw [e]; simp)
  · refine Or.inr ⟨b, off, rfl, fun j hj u v hv => hc j (by omega) u v ?_⟩
    have hj' : j < i := by omega
    rwa [show (xs.take i).getD j [] = xs.getD j [] by simp [List.getD, hj']] at hv
theorem ux_take (l : List Int) (i : Nat) : (ux l).take i = ux (l.take i) := by simp [ux, List.map_take]
theorem any_no {α : Type} {f : α → Bool} {l : List α} {d : α} {i : Nat} (h : (l.take i).any f = false) (hi : i < l.length) (hf : f (l.getD i d) = false) : (l.take (i + 1)).any f = false := by
  rw [List.take_add_one, List.any_append, h, List.getElem?_eq_getElem hi]
  simpa [List.getD, List.getElem?_eq_getElem hi] using hf
theorem any_yes {α : Type} {f : α → Bool} {l : List α} {d : α} {i : Nat} (hi : i < l.length) (hf : f (l.getD i d) = true) : l.any f = true := by
  rw [List.any_eq_true]
  exact ⟨l.getD i d, by simp [List.getD, List.getElem?_eq_getElem hi], hf⟩
theorem any_end {α : Type} {f : α → Bool} {l : List α} (h : (l.take l.length).any f = false) : l.any f = false := by rwa [List.take_length] at h
set_option maxHeartbeats 4000000 in
theorem index_u {w : World} {v : Value} {l : List Int} (h : Rw w 1 v (ux l)) (hb : l.length ≤ 1000000) (x : Int) :
    Calls Tryd.prog 81 #[v, .int .u32 x] w fun e w' => ∃ m : Int, e = .returned (.int .i64 m) ∧ decide (0 ≤ m) = hs l x ∧ w = w' := by
  obtain ⟨a, c, rfl, hlc, hcb, hx⟩ := rw_u h
  have HX : Hid (∀ i, i < l.length → ∃ b off, a = some ⟨b, off, none⟩ ∧ w.cell? ⟨b, off + i, none⟩ = some (.int .u32 (l.getD i 0))) := by
    intro i hi
    obtain ⟨b, off, h1, h2⟩ := hx i hi
    exact ⟨b, off, h1, h2 _ (Below.refl _ _)⟩
  have HY : Hid (∀ i, i < l.length → (x == l.getD i 0) = true → hs l x = true) := fun i hi he => any_yes (d := 0) hi he
  have HN : Hid (∀ i, i < l.length → hs (l.take i) x = false → (x == l.getD i 0) = false → hs (l.take (i + 1)) x = false) := fun i hi h0 he => any_no (d := 0) h0 hi he
  have HE : Hid (hs (l.take l.length) x = false → hs l x = false) := any_end
  have H0 : Hid (hs (l.take 0) x = false) := rfl
  clear h hx
  generalize l.length = n at *
  go_enter Tryd.func81, Tryd.ntmps81
  go_wp2_with fail
  go_loopw [8] (fun u8 w' => ∃ i : Nat, i ≤ n ∧ u8 = .int .i64 i ∧ Hid (hs (l.take i) x = false ∧ w = w')) (fun u8 w' => n - (intOf u8).toNat)
  case atStart => exact ⟨0, Nat.zero_le _, rfl, H0.out, rfl⟩
  case round =>
    obtain ⟨i, hi, rfl, HR⟩ := hrel
    obtain ⟨h0, rfl⟩ := HR.out
    by_cases hlt : i < n
    · have h1 : (i : Int) < n := by omega
      obtain ⟨b, off, rfl, d0⟩ := HX.out i hlt
      have HY1 := HY.out i hlt
      have HN1 := HN.out i hlt h0
      generalize l.getD i 0 = y at *
      cases hxy : (x == y) with
      | true =>
        have HF : Hid (hs l x = true) := HY1 hxy
        clear HY1 HN1 HX HY HN HE H0 HR h0
        go_wp2_with fail
        go_ret
        exact ⟨(i : Int), rfl, by rw [HF.out]; simp, rfl⟩
      | false =>
        have HF : Hid (hs (l.take (i + 1)) x = false ∧ True) := ⟨HN1 hxy, trivial⟩
        clear HY1 HN1 HX HY HN HE H0 HR h0
        go_wp2_with fail
        go_roundw
        case rel => exact ⟨i + 1, by omega, by go_num, HF⟩
        case measure => simp [intOf]; omega
    · have h1 : ¬ ((i : Int) < n) := by omega
      obtain rfl : i = n := by omega
      have HF : Hid (hs l x = false) := HE.out h0
      clear HX HY HN HE H0 HR h0
      go_wp2_with fail
      go_ret
      exact ⟨-1, rfl, by rw [HF.out]; rfl, rfl⟩
theorem contains_u {w : World} {v : Value} {l : List Int} (h : Rw w 1 v (ux l)) (hb : l.length ≤ 1000000) (x : Int) :
    Calls Tryd.prog 48 #[v, .int .u32 x] w fun e w' => e = .returned (.bool (hs l x)) ∧ w = w' := by
  have C := index_u h hb x
  clear h hb
  generalize hs l x = R at *
  go_enter Tryd.func48, Tryd.ntmps48
  go_wp2_with fail
  refine C.mono ?_
  rintro e _ ⟨m, rfl, hm, rfl⟩
  go_wp2_with fail
  go_ret
  exact ⟨by rw [← hm]; rfl, rfl⟩
set_option maxHeartbeats 8000000 in
theorem indexf_u {w : World} {v : Value} {l : List Int} (h : Rw w 1 v (ux l)) (hb : l.length ≤ 1000000) {k : Nat} {caps : Array Value} {f : Int → Bool} (hf : PrU w k caps f) :
    Calls Tryd.prog 88 #[v, .func (.func k) #[] caps] w fun e w' => ∃ m : Int, e = .returned (.int .i64 m) ∧ decide (0 ≤ m) = l.any f ∧ Below w.heap.size w w' := by
  obtain ⟨a, c, rfl, hlc, hcb, hx⟩ := rw_u h
  have HX : Hid (∀ i, i < l.length → ∃ b off, a = some ⟨b, off, none⟩ ∧ ∀ V, Below w.heap.size w V → V.cell? ⟨b, off + i, none⟩ = some (.int .u32 (l.getD i 0))) := hx
  have HY : Hid (∀ i, i < l.length → f (l.getD i 0) = true → l.any f = true) := fun i hi he => any_yes (d := 0) hi he
  have HN : Hid (∀ i, i < l.length → (l.take i).any f = false → f (l.getD i 0) = false → (l.take (i + 1)).any f = false) := fun i hi h0 he => any_no (d := 0) h0 hi he
  have HE : Hid ((l.take l.length).any f = false → l.any f = false) := any_end
  have H0 : Hid ((l.take 0).any f = false ∧ Below w.heap.size w w) := ⟨rfl, Below.refl _ _⟩
  have eg : ∀ args V, (callFunc k args).run Tryd.prog V = .ok (.enter k args) V := hf.1
  have HC : Hid (PrU w k caps f) := hf
  clear h hx hf
  generalize l.length = n at *
  generalize l.any f = R at *
  go_enter Tryd.func88, Tryd.ntmps88
  go_wp2_with fail
  go_loopw [8] (fun u8 w' => ∃ i : Nat, i ≤ n ∧ u8 = .int .i64 i ∧ Hid ((l.take i).any f = false ∧ Below w.heap.size w w')) (fun u8 w' => n - (intOf u8).toNat)
  case atStart => exact ⟨0, Nat.zero_le _, rfl, H0⟩
  case round =>
    obtain ⟨i, hi, rfl, HR⟩ := hrel
    by_cases hlt : i < n
    · have h1 : (i : Int) < n := by omega
      obtain ⟨b, off, rfl, hd⟩ := HX.out i hlt
      have d0 := hd _ HR.out.2
      have C := HC.out.2 (l.getD i 0) _ HR.out.2
      clear hd
      obtain ⟨y, hy⟩ : ∃ y, l.getD i 0 = y := ⟨_, rfl⟩
      have HY := HY.out i hlt
      have HN := HN.out i hlt HR.out.1
      rw [hy] at d0 C HY HN
      clear hy
      have HY1 : Hid (f y = true → R = true) := HY
      have HN1 : Hid (f y = false → (l.take (i + 1)).any f = false) := HN
      have HB : Hid (Below w.heap.size w wr) := HR.out.2
      clear HX HY HN HE H0 HR HC
      generalize f y = B at *
      cases B with
      | true =>
        obtain rfl := HY1.out rfl
        go_wp2_with fail
        refine C.mono ?_
        rintro e W1 ⟨rfl, hb1⟩
        have HF : Hid (Below w.heap.size w W1) := HB.out.trans (hb1.mono HB.out.size)
        clear C HB hb1 HY1 HN1 d0
        go_wp2_with fail
        go_ret
        exact ⟨(i : Int), rfl, by simp, HF.out⟩
      | false =>
        have hQ := HN1.out rfl
        go_wp2_with fail
        refine C.mono ?_
        rintro e W1 ⟨rfl, hb1⟩
        have HF : Hid ((l.take (i + 1)).any f = false ∧ Below w.heap.size w W1) := ⟨hQ, HB.out.trans (hb1.mono HB.out.size)⟩
        clear C HB hb1 HY1 HN1 d0
        go_wp2_with fail
        go_roundw
        case rel => exact ⟨i + 1, by omega, by go_num, HF⟩
        case measure => simp [intOf]; omega
    · have h1 : ¬ ((i : Int) < n) := by omega
      obtain rfl : i = n := by omega
      obtain rfl := HE.out HR.out.1
      have HB : Hid (Below w.heap.size w wr) := HR.out.2
      clear HX HY HN HE H0 HR HC
      go_wp2_with fail
      go_ret
      exact ⟨-1, rfl, by decide, HB.out⟩
theorem containsf_u {w : World} {v : Value} {l : List Int} (h : Rw w 1 v (ux l)) (hb : l.length ≤ 1000000) {k : Nat} {caps : Array Value} {f : Int → Bool} (hf : PrU w k caps f) :
    Calls Tryd.prog 68 #[v, .func (.func k) #[] caps] w fun e w' => e = .returned (.bool (l.any f)) ∧ Below w.heap.size w w' := by
  have C := indexf_u h hb hf
  clear h hb hf
  generalize l.any f = R at *
  go_enter Tryd.func68, Tryd.ntmps68
  go_wp2_with fail
  refine C.mono ?_
  rintro e _ ⟨m, rfl, hm, hb⟩
  go_wp2_with fail
  go_ret
  exact ⟨by rw [← hm]; rfl, hb⟩
set_option maxHeartbeats 8000000 in
theorem indexf_p {w : World} {v : Value} {l : List (Int × Int)} (h : Rw w 2 v (px l)) (hb : l.length ≤ 1000000) {k : Nat} {caps : Array Value} {f : (Int × Int) → Bool} (hf : PrP w k caps f) :
    Calls Tryd.prog 90 #[v, .func (.func k) #[] caps] w fun e w' => ∃ m : Int, e = .returned (.int .i64 m) ∧ decide (0 ≤ m) = l.any f ∧ Below w.heap.size w w' := by
  obtain ⟨a, c, rfl, hlc, hcb, hx⟩ := rw_p h
  have HX : Hid (∀ i, i < l.length → ∃ b off, a = some ⟨b, off, none⟩ ∧ ∀ V, Below w.heap.size w V → V.cell? ⟨b, off + i * 2, none⟩ = some (.int .u32 (l.getD i (0, 0)).1) ∧ V.cell? ⟨b, off + i * 2 + 1, none⟩ = some (.int .u32 (l.getD i (0, 0)).2)) := hx
  have HY : Hid (∀ i, i < l.length → f (l.getD i (0, 0)) = true → l.any f = true) := fun i hi he => any_yes (d := (0, 0)) hi he
  have HN : Hid (∀ i, i < l.length → (l.take i).any f = false → f (l.getD i (0, 0)) = false → (l.take (i + 1)).any f = false) := fun i hi h0 he => any_no (d := (0, 0)) h0 hi he
  have HE : Hid ((l.take l.length).any f = false → l.any f = false) := any_end
  have H0 : Hid ((l.take 0).any f = false ∧ Below w.heap.size w w) := ⟨rfl, Below.refl _ _⟩
  have eg : ∀ args V, (callFunc k args).run Tryd.prog V = .ok (.enter k args) V := hf.1
  have HC : Hid (PrP w k caps f) := hf
  clear h hx hf
  generalize l.length = n at *
  generalize l.any f = R at *
  go_enter Tryd.func90, Tryd.ntmps90
  go_wp2_with fail
  go_loopw [8] (fun u8 w' => ∃ i : Nat, i ≤ n ∧ u8 = .int .i64 i ∧ Hid ((l.take i).any f = false ∧ Below w.heap.size w w')) (fun u8 w' => n - (intOf u8).toNat)
  case atStart => exact ⟨0, Nat.zero_le _, rfl, H0⟩
  case round =>
    obtain ⟨i, hi, rfl, HR⟩ := hrel
    by_cases hlt : i < n
    · have h1 : (i : Int) < n := by omega
      obtain ⟨b, off, rfl, hd⟩ := HX.out i hlt
      obtain ⟨d0, d1⟩ := hd _ HR.out.2
      clear hd
      obtain ⟨⟨y1, y2⟩, hy⟩ : ∃ y, l.getD i (0, 0) = y := ⟨_, rfl⟩
      have C := HC.out.2 y1 y2 _ HR.out.2
      have HY := HY.out i hlt
      have HN := HN.out i hlt HR.out.1
      rw [hy] at d0 d1 HY HN
      clear hy
      simp only at d0 d1
      have HY1 : Hid (f (y1, y2) = true → R = true) := HY
      have HN1 : Hid (f (y1, y2) = false → (l.take (i + 1)).any f = false) := HN
      have HB : Hid (Below w.heap.size w wr) := HR.out.2
      clear HX HY HN HE H0 HR HC
      generalize f (y1, y2) = B at *
      cases B with
      | true =>
        obtain rfl := HY1.out rfl
        go_wp2_with fail
        refine C.mono ?_
        rintro e W1 ⟨rfl, hb1⟩
        have HF : Hid (Below w.heap.size w W1) := HB.out.trans (hb1.mono HB.out.size)
        clear C HB hb1 HY1 HN1 d0 d1
        go_wp2_with fail
        go_ret
        exact ⟨(i : Int), rfl, by simp, HF.out⟩
      | false =>
        have hQ := HN1.out rfl
        go_wp2_with fail
        refine C.mono ?_
        rintro e W1 ⟨rfl, hb1⟩
        have HF : Hid ((l.take (i + 1)).any f = false ∧ Below w.heap.size w W1) := ⟨hQ, HB.out.trans (hb1.mono HB.out.size)⟩
        clear C HB hb1 HY1 HN1 d0 d1
        go_wp2_with fail
        go_roundw
        case rel => exact ⟨i + 1, by omega, by go_num, HF⟩
        case measure => simp [intOf]; omega
    · have h1 : ¬ ((i : Int) < n) := by omega
      obtain rfl : i = n := by omega
      obtain rfl := HE.out HR.out.1
      have HB : Hid (Below w.heap.size w wr) := HR.out.2
      clear HX HY HN HE H0 HR HC
      go_wp2_with fail
      go_ret
      exact ⟨-1, rfl, by decide, HB.out⟩
theorem containsf_p {w : World} {v : Value} {l : List (Int × Int)} (h : Rw w 2 v (px l)) (hb : l.length ≤ 1000000) {k : Nat} {caps : Array Value} {f : (Int × Int) → Bool} (hf : PrP w k caps f) :
    Calls Tryd.prog 76 #[v, .func (.func k) #[] caps] w fun e w' => e = .returned (.bool (l.any f)) ∧ Below w.heap.size w w' := by
  have C := indexf_p h hb hf
  clear h hb hf
  generalize l.any f = R at *
  go_enter Tryd.func76, Tryd.ntmps76
  go_wp2_with fail
  refine C.mono ?_
  rintro e _ ⟨m, rfl, hm, hb⟩
  go_wp2_with fail
  go_ret
  exact ⟨by rw [← hm]; rfl, hb⟩
set_option maxHeartbeats 8000000 in
theorem indexf_t {w : World} {v : Value} {l : List Ten} (h : TSV w v l) (hb : l.length ≤ 1000000) {k : Nat} {caps : Array Value} {f : Ten → Bool} (hf : PrT w k caps f) (hm : ∀ t ∈ l, TSm t) :
    Calls Tryd.prog 79 #[v, .func (.func k) #[] caps] w fun e w' => ∃ m : Int, e = .returned (.int .i64 m) ∧ decide (0 ≤ m) = l.any f ∧ Below w.heap.size w w' := by
  obtain ⟨sa, sc, rfl, hlc, hcb, hx⟩ := h.parts
  have HX : Hid (∀ i, i < l.length → ∃ b off x, sa = some ⟨b, off, none⟩ ∧ x.length = 33 ∧ x.toArray.all (·.oneCell') = true ∧ ∀ V, Below w.heap.size w V → V.rangeAt b (off + i * 33) x ∧ TV V (.agg x.toArray) (l.getD i ten0)) := hx
  have HY : Hid (∀ i, i < l.length → f (l.getD i ten0) = true → l.any f = true) := fun i hi he => any_yes (d := ten0) hi he
  have HN : Hid (∀ i, i < l.length → (l.take i).any f = false → f (l.getD i ten0) = false → (l.take (i + 1)).any f = false) := fun i hi h0 he => any_no (d := ten0) h0 hi he
  have HE : Hid ((l.take l.length).any f = false → l.any f = false) := any_end
  have H0 : Hid ((l.take 0).any f = false ∧ Below w.heap.size w w) := ⟨rfl, Below.refl _ _⟩
  have eg : ∀ args V, (callFunc k args).run Tryd.prog V = .ok (.enter k args) V := hf.1
  have HC : Hid (PrT w k caps f) := hf
  have HM : Hid (∀ i, i < l.length → TSm (l.getD i ten0)) := fun i hi => hm _ (by simp [List.getD, List.getElem?_eq_getElem hi])
  clear h hx hf hm
  generalize l.length = n at *
  generalize l.any f = R at *
  go_enter Tryd.func79, Tryd.ntmps79
  go_wp2_with fail
  go_loopw [8] (fun u8 w' => ∃ i : Nat, i ≤ n ∧ u8 = .int .i64 i ∧ Hid ((l.take i).any f = false ∧ Below w.heap.size w w')) (fun u8 w' => n - (intOf u8).toNat)
  case atStart => exact ⟨0, Nat.zero_le _, rfl, H0⟩
  case round =>
    obtain ⟨i, hi, rfl, HR⟩ := hrel
    by_cases hlt : i < n
    · have h1 : (i : Int) < n := by omega
      obtain ⟨b, off, x, rfl, hsz, hone, hV⟩ := HX.out i hlt
      obtain ⟨hra, hTV⟩ := hV _ HR.out.2
      have hi33 : (Tryd.prog.info? 39).map (·.size) = some x.length := by rw [hsz]; kernel_rfl
      have C := HC.out.2 _ _ _ HR.out.2 hTV (HM.out i hlt)
      clear hV hTV hone hsz
      obtain ⟨y, hy⟩ : ∃ y, l.getD i ten0 = y := ⟨_, rfl⟩
      have HY := HY.out i hlt
      have HN := HN.out i hlt HR.out.1
      rw [hy] at C HY HN
      clear hy
      have HY1 : Hid (f y = true → R = true) := HY
      have HN1 : Hid (f y = false → (l.take (i + 1)).any f = false) := HN
      have HB : Hid (Below w.heap.size w wr) := HR.out.2
      clear HX HY HN HE H0 HR HC HM
      generalize f y = B at *
      cases B with
      | true =>
        obtain rfl := HY1.out rfl
        go_wp2_with (refine wpList_load_mid rfl 39 (.tmp 14) (by with_reducible rfl) b (off + i * 33) (by simp [Act.eval]) x _ hra Tryd.underlying39 rfl hi33 ?_)
        refine C.mono ?_
        rintro e W1 ⟨rfl, hb1⟩
        have HF : Hid (Below w.heap.size w W1) := HB.out.trans (hb1.mono HB.out.size)
        clear C HB hb1 HY1 HN1 hra
        go_wp2_with fail
        go_ret
        exact ⟨(i : Int), rfl, by simp, HF.out⟩
      | false =>
        have hQ := HN1.out rfl
        go_wp2_with (refine wpList_load_mid rfl 39 (.tmp 14) (by with_reducible rfl) b (off + i * 33) (by simp [Act.eval]) x _ hra Tryd.underlying39 rfl hi33 ?_)
        refine C.mono ?_
        rintro e W1 ⟨rfl, hb1⟩
        have HF : Hid ((l.take (i + 1)).any f = false ∧ Below w.heap.size w W1) := ⟨hQ, HB.out.trans (hb1.mono HB.out.size)⟩
        clear C HB hb1 HY1 HN1 hra
        go_wp2_with fail
        go_roundw
        case rel => exact ⟨i + 1, by omega, by go_num, HF⟩
        case measure => simp [intOf]; omega
    · have h1 : ¬ ((i : Int) < n) := by omega
      obtain rfl : i = n := by omega
      obtain rfl := HE.out HR.out.1
      have HB : Hid (Below w.heap.size w wr) := HR.out.2
      clear HX HY HN HE H0 HR HC HM
      go_wp2_with fail
      go_ret
      exact ⟨-1, rfl, by decide, HB.out⟩
theorem containsf_t {w : World} {v : Value} {l : List Ten} (h : TSV w v l) (hb : l.length ≤ 1000000) {k : Nat} {caps : Array Value} {f : Ten → Bool} (hf : PrT w k caps f) (hm : ∀ t ∈ l, TSm t) :
    Calls Tryd.prog 40 #[v, .func (.func k) #[] caps] w fun e w' => e = .returned (.bool (l.any f)) ∧ Below w.heap.size w w' := by
  have C := indexf_t h hb hf hm
  clear h hb hf hm
  generalize l.any f = R at *
  go_enter Tryd.func40, Tryd.ntmps40
  go_wp2_with fail
  refine C.mono ?_
  rintro e _ ⟨m, rfl, hm, hb⟩
  go_wp2_with fail
  go_ret
  exact ⟨by rw [← hm]; rfl, hb⟩
end Go.Proofs.YtnddbklbgddblaaDoor

namespace Go.Proofs.YtnddbklbgddblaaDoor
open Go.RowKit
open Sm
open Cf
set_option linter.unusedVariables false
set_option linter.unusedSimpArgs false
set_option maxRecDepth 20000

def c1 (σ : Option (List Int)) := nx 4 σ
def c2 (σ : Option (List Int)) := nx 6 (c1 σ)
def c3 (σ : Option (List Int)) := nx 6 (c2 σ)
def c4 (σ : Option (List Int)) := nx 6 (c3 σ)
def c5 (σ : Option (List Int)) := nx 8 (c4 σ)
end Go.Proofs.YtnddbklbgddblaaDoor

