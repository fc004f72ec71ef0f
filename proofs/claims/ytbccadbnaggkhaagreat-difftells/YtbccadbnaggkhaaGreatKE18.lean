/-
  Settings held against one another: lychhelp's Nums, Pairs, Light, whatever they are handed.
  Settings as bytes: settings in memory, as they are written and read.
  Settings as bytes: the program's whole (lych/api.Tenant): what all bytes are.
  Settings as bytes: changes: the program's changeName and Change.
  Settings as bytes: what is written is read back, and no part of it is read.
  Settings as bytes: the document's own reader: name, mac, key.
-/
import Derived.Test.YtbccadbnaggkhaaGreatKE17
import Derived.Laws.StructEq
import Derived.Test.YtbccadbnaggkhaaGreatKE11
import Derived.Test.YtbccadbnaggkhaaGreatKE10
namespace Go.Proofs.YtbccadbnaggkhaaGreat
open Go.RowKit
open Sm
open Cf
set_option linter.unusedVariables false
set_option maxRecDepth 20000

set_option maxHeartbeats 4000000 in
theorem key_eq (x0 x1 x2 x3 x4 x5 x6 x7 y0 y1 y2 y3 y4 y5 y6 y7 : Int) (w : World) : (Op.equalIn 10000 27 (.agg #[.int .u8 x0, .int .u8 x1, .int .u8 x2, .int .u8 x3, .int .u8 x4, .int .u8 x5, .int .u8 x6, .int .u8 x7]) (.agg #[.int .u8 y0, .int .u8 y1, .int .u8 y2, .int .u8 y3, .int .u8 y4, .int .u8 y5, .int .u8 y6, .int .u8 y7])).run Tryz.prog w = .ok (decide ([x0, x1, x2, x3, x4, x5, x6, x7] = [y0, y1, y2, y3, y4, y5, y6, y7])) w := by
  have u5 := Tryz.underlying5
  rw [show (10000 : Nat) = 9999 + 1 from rfl, Op.equalIn]
  simp only [Sem.run_bind, run_underlying Tryz.underlying27, Result.andThen_ok]
  simp only [Std.Legacy.Range.forIn_eq_forIn_range', Std.Legacy.Range.size, Nat.sub_zero, Nat.add_sub_cancel, Nat.div_one, List.range'_succ, List.range'_zero, List.forIn_cons, List.forIn_nil]
  by_cases h0 : x0 = y0
  rotate_left
  · have hd : ¬ ([x0, x1, x2, x3, x4, x5, x6, x7] = [y0, y1, y2, y3, y4, y5, y6, y7]) := by intro e; simp only [List.cons.injEq] at e; exact h0 (by simp_all)
    rw [decide_eq_false hd]
    clear hd
    have hb : (x0 == y0) = false := by simpa using h0
    go_simp
    all_goals simp_all
  subst h0
  by_cases h1 : x1 = y1
  rotate_left
  · have hd : ¬ ([x0, x1, x2, x3, x4, x5, x6, x7] = [x0, y1, y2, y3, y4, y5, y6, y7]) := by intro e; simp only [List.cons.injEq] at e; exact h1 (by simp_all)
    rw [decide_eq_false hd]
    clear hd
    have hb : (x1 == y1) = false := by simpa using h1
    go_simp
    all_goals simp_all
  subst h1
  by_cases h2 : x2 = y2
  rotate_left
  · have hd : ¬ ([x0, x1, x2, x3, x4, x5, x6, x7] = [x0, x1, y2, y3, y4, y5, y6, y7]) := by intro e; simp only [List.cons.injEq] at e; exact h2 (by simp_all)
    rw [decide_eq_false hd]
    clear hd
    have hb : (x2 == y2) = false := by simpa using h2
    go_simp
    all_goals simp_all
  subst h2
  by_cases h3 : x3 = y3
  rotate_left
  · have hd : ¬ ([x0, x1, x2, x3, x4, x5, x6, x7] = [x0, x1, x2, y3, y4, y5, y6, y7]) := by intro e; simp only [List.cons.injEq] at e; exact h3 (by simp_all)
    rw [decide_eq_false hd]
    clear hd
    have hb : (x3 == y3) = false := by simpa using h3
    go_simp
    all_goals simp_all
  subst h3
  by_cases h4 : x4 = y4
  rotate_left
  · have hd : ¬ ([x0, x1, x2, x3, x4, x5, x6, x7] = [x0, x1, x2, x3, y4, y5, y6, y7]) := by intro e; simp only [List.cons.injEq] at e; exact h4 (by simp_all)
    rw [decide_eq_false hd]
    clear hd
    have hb : (x4 == y4) = false := by simpa using h4
    go_simp
    all_goals simp_all
  subst h4
  by_cases h5 : x5 = y5
  rotate_left
  · have hd : ¬ ([x0, x1, x2, x3, x4, x5, x6, x7] = [x0, x1, x2, x3, x4, y5, y6, y7]) := by intro e; simp only [List.cons.injEq] at e; exact h5 (by simp_all)
    rw [decide_eq_false hd]
    clear hd
    have hb : (x5 == y5) = false := by simpa using h5
    go_simp
    all_goals simp_all
  subst h5
  by_cases h6 : x6 = y6
  rotate_left
  · have hd : ¬ ([x0, x1, x2, x3, x4, x5, x6, x7] = [x0, x1, x2, x3, x4, x5, y6, y7]) := by intro e; simp only [List.cons.injEq] at e; exact h6 (by simp_all)
    rw [decide_eq_false hd]
    clear hd
    have hb : (x6 == y6) = false := by simpa using h6
    go_simp
    all_goals simp_all
  subst h6
  by_cases h7 : x7 = y7
  rotate_left
  · have hd : ¬ ([x0, x1, x2, x3, x4, x5, x6, x7] = [x0, x1, x2, x3, x4, x5, x6, y7]) := by intro e; simp only [List.cons.injEq] at e; exact h7 (by simp_all)
    rw [decide_eq_false hd]
    clear hd
    have hb : (x7 == y7) = false := by simpa using h7
    go_simp
    all_goals simp_all
  subst h7
  rw [decide_eq_true rfl]
  go_simp
set_option maxHeartbeats 4000000 in
theorem mac_eq6 (x0 x1 x2 x3 x4 x5 y0 y1 y2 y3 y4 y5 : Int) (w : World) : (Op.equalIn 10000 29 (.agg #[.int .u8 x0, .int .u8 x1, .int .u8 x2, .int .u8 x3, .int .u8 x4, .int .u8 x5]) (.agg #[.int .u8 y0, .int .u8 y1, .int .u8 y2, .int .u8 y3, .int .u8 y4, .int .u8 y5])).run Tryz.prog w = .ok (decide ([x0, x1, x2, x3, x4, x5] = [y0, y1, y2, y3, y4, y5])) w := by
  have u5 := Tryz.underlying5
  rw [show (10000 : Nat) = 9999 + 1 from rfl, Op.equalIn]
  simp only [Sem.run_bind, run_underlying Tryz.underlying29, Result.andThen_ok]
  simp only [Std.Legacy.Range.forIn_eq_forIn_range', Std.Legacy.Range.size, Nat.sub_zero, Nat.add_sub_cancel, Nat.div_one, List.range'_succ, List.range'_zero, List.forIn_cons, List.forIn_nil]
  by_cases h0 : x0 = y0
  rotate_left
  · have hd : ¬ ([x0, x1, x2, x3, x4, x5] = [y0, y1, y2, y3, y4, y5]) := by intro e; simp only [List.cons.injEq] at e; exact h0 (by simp_all)
    rw [decide_eq_false hd]
    clear hd
    have hb : (x0 == y0) = false := by simpa using h0
    go_simp
    all_goals simp_all
  subst h0
  by_cases h1 : x1 = y1
  rotate_left
  · have hd : ¬ ([x0, x1, x2, x3, x4, x5] = [x0, y1, y2, y3, y4, y5]) := by intro e; simp only [List.cons.injEq] at e; exact h1 (by simp_all)
    rw [decide_eq_false hd]
    clear hd
    have hb : (x1 == y1) = false := by simpa using h1
    go_simp
    all_goals simp_all
  subst h1
  by_cases h2 : x2 = y2
  rotate_left
  · have hd : ¬ ([x0, x1, x2, x3, x4, x5] = [x0, x1, y2, y3, y4, y5]) := by intro e; simp only [List.cons.injEq] at e; exact h2 (by simp_all)
    rw [decide_eq_false hd]
    clear hd
    have hb : (x2 == y2) = false := by simpa using h2
    go_simp
    all_goals simp_all
  subst h2
  by_cases h3 : x3 = y3
  rotate_left
  · have hd : ¬ ([x0, x1, x2, x3, x4, x5] = [x0, x1, x2, y3, y4, y5]) := by intro e; simp only [List.cons.injEq] at e; exact h3 (by simp_all)
    rw [decide_eq_false hd]
    clear hd
    have hb : (x3 == y3) = false := by simpa using h3
    go_simp
    all_goals simp_all
  subst h3
  by_cases h4 : x4 = y4
  rotate_left
  · have hd : ¬ ([x0, x1, x2, x3, x4, x5] = [x0, x1, x2, x3, y4, y5]) := by intro e; simp only [List.cons.injEq] at e; exact h4 (by simp_all)
    rw [decide_eq_false hd]
    clear hd
    have hb : (x4 == y4) = false := by simpa using h4
    go_simp
    all_goals simp_all
  subst h4
  by_cases h5 : x5 = y5
  rotate_left
  · have hd : ¬ ([x0, x1, x2, x3, x4, x5] = [x0, x1, x2, x3, x4, y5]) := by intro e; simp only [List.cons.injEq] at e; exact h5 (by simp_all)
    rw [decide_eq_false hd]
    clear hd
    have hb : (x5 == y5) = false := by simpa using h5
    go_simp
    all_goals simp_all
  subst h5
  rw [decide_eq_true rfl]
  go_simp
theorem drewN_more {w W : World} (h : ∃ q, W = w.drewN q) (n : Nat) : ∃ q, W.drewN n = w.drewN q := by
  obtain ⟨q, rfl⟩ := h
  exact ⟨q + n, by simp only [World.drewN]; rw [Nat.add_assoc]⟩
theorem pair_eq (a b c d : Int) (w : World) : (Op.equalIn 10000 62 (.agg #[.int .u32 a, .int .u32 b]) (.agg #[.int .u32 c, .int .u32 d])).run Tryz.prog w = .ok (decide ((a, b) = (c, d))) w := by
  have u3 := Tryz.underlying26
  rw [show (10000 : Nat) = 9999 + 1 from rfl, run_equalIn_agg w 9999 62 _ _ (by kernel_rfl) (by kernel_rfl)]
  simp only [Program.fieldsOf, Tryz.underlying62]
  go_simp
  by_cases h1 : a = c <;> by_cases h2 : b = d <;> simp [h1, h2]
set_option maxHeartbeats 8000000 in
theorem nums_any {w : World} (sv tv : Value) (xs ys : List Int) (hx : Rw w 1 sv (ux xs)) (hy : Rw w 1 tv (ux ys)) (hbx : xs.length ≤ 1000000) :
    Calls Tryz.prog 26 #[sv, tv] w fun e w' => e = .returned (.bool (decide (xs = ys))) ∧ ∃ q, w' = w.drewN q := by
  obtain ⟨a, c, rfl, hlc, hcb, ha, hra⟩ := hx
  obtain ⟨a', c', rfl, hlc', hcb', ha', hra'⟩ := hy
  have hlx : (ux xs).length = xs.length := by simp [ux]
  have hly : (ux ys).length = ys.length := by simp [ux]
  rw [hlx] at hra ⊢
  rw [hly] at hra' ⊢
  by_cases hl : xs.length = ys.length
  · obtain ⟨n, hn⟩ : ∃ n, xs.length = n := ⟨_, rfl⟩
    have hn2 : ys.length = n := by omega
    rw [hn2]
    rw [hn2] at hra'
    rw [hn] at hra ⊢
    obtain ⟨D, hD⟩ : ∃ D, decide (xs = ys) = D := ⟨_, rfl⟩
    rw [hD]
    have HX : Hid (∀ i, i < n → ∃ b off, a = some ⟨b, off, none⟩ ∧ w.rangeAt b (off + i * 1) ((ux xs).getD i [])) := by
      intro i hi
      rcases hra with e | ⟨b, off, rfl, hc⟩
      · rw [e] at hlx; simp at hlx; omega
      · exact ⟨b, off, rfl, fun j u hj => hc i (by omega) j u hj⟩
    have HY : Hid (∀ i, i < n → ∃ b off, a' = some ⟨b, off, none⟩ ∧ w.rangeAt b (off + i * 1) ((ux ys).getD i [])) := by
      intro i hi
      rcases hra' with e | ⟨b, off, rfl, hc⟩
      · rw [e] at hly; simp at hly; omega
      · exact ⟨b, off, rfl, fun j u hj => hc i (by omega) j u hj⟩
    clear hra hra' hlc hlc' hcb hcb' ha ha' hl hlx hly
    go_enter Tryz.func26, Tryz.ntmps26
    go_wp2_with fail
    go_loopw [5] (fun u5 w' => ∃ i : Nat, i ≤ n ∧ u5 = .int .i64 i ∧ Hid ((∃ q, w' = w.drewN q) ∧ ∀ j, j < i → xs[j]? = ys[j]?)) (fun u5 w' => n - (intOf u5).toNat)
    case atStart => exact ⟨0, Nat.zero_le _, rfl, ⟨0, rfl⟩, fun j hj => by omega⟩
    case round =>
      obtain ⟨i, hi, rfl, HR⟩ := hrel
      obtain ⟨⟨q, hq⟩, hall⟩ := HR.out
      have HQ : Hid (∃ q, wr = w.drewN q) := ⟨q, hq⟩
      by_cases hlt : i < n
      · have h1 : (i : Int) < n := by omega
        obtain ⟨b, off, rfl, rx⟩ := HX.out i hlt
        obtain ⟨b', off', rfl, ry⟩ := HY.out i hlt
        obtain ⟨x, hxi⟩ : ∃ x, xs[i]? = some x := ⟨_, List.getElem?_eq_getElem (by omega)⟩
        obtain ⟨y, hyi⟩ : ∃ y, ys[i]? = some y := ⟨_, List.getElem?_eq_getElem (by omega)⟩
        have ex : (ux xs).getD i [] = [.int .u32 x] := by simp [ux, List.getD, hxi]
        have ey : (ux ys).getD i [] = [.int .u32 y] := by simp [ux, List.getD, hyi]
        rw [ex] at rx
        rw [ey] at ry
        have d3 : wr.cell? ⟨b, off + i, none⟩ = some (.int .u32 x) := by have := rx 0 _ rfl; rw [hq]; simpa using this
        have d4 : wr.cell? ⟨b', off' + i, none⟩ = some (.int .u32 y) := by have := ry 0 _ rfl; rw [hq]; simpa using this
        have HA : Hid (∀ j, j < i → xs[j]? = ys[j]?) := hall
        clear HX HY ex ey rx ry hall HR hq
        by_cases hxy : x = y
        · have HF : Hid (∀ j, j < i + 1 → xs[j]? = ys[j]?) := by
            intro j hj
            by_cases e : j = i
            · rw [e, hxi, hyi, hxy]
            · exact HA.out j (by omega)
          clear hxi hyi HA
          subst hxy
          have hb : (x != x) = false := by simp
          go_upto_region 6 with fail
          go_quiet (fail)
          go_wp2_with fail
          go_roundw
          case rel => exact ⟨i + 1, by omega, by go_num, drewN_more HQ.out _, HF.out⟩
          case measure => simp [intOf]; omega
        · obtain rfl : D = false := by
            rw [← hD]
            apply decide_eq_false
            intro hc
            rw [hc, hyi] at hxi
            exact hxy (Option.some.inj hxi).symm
          have hb : (x != y) = true := by simpa using hxy
          clear hD hxi hyi HA
          go_upto_region 6 with fail
          go_quiet (fail)
          go_wp2_with fail
          go_ret
          exact ⟨rfl, drewN_more HQ.out _⟩
      · have h1 : ¬ ((i : Int) < n) := by omega
        obtain rfl : i = n := by omega
        obtain rfl : D = true := by
          rw [← hD]
          apply decide_eq_true
          apply List.ext_getElem?
          intro j
          by_cases hj : j < i
          · exact hall j hj
          · rw [List.getElem?_eq_none (by omega), List.getElem?_eq_none (by omega)]
        clear HR hall hD HX HY hq
        go_wp2_with fail
        go_ret
        exact ⟨rfl, HQ.out⟩
  · rw [decide_eq_false (fun e => hl (by rw [e]))]
    have h1 : ((xs.length : Int) != (ys.length : Int)) = true := by simp; omega
    have h2 : ¬ ((xs.length : Int) = (ys.length : Int)) := by omega
    clear hra hra' hl
    go_enter Tryz.func26, Tryz.ntmps26
    go_wp2_with fail
    go_ret
    exact ⟨rfl, 0, rfl⟩
set_option maxHeartbeats 8000000 in
theorem pairs_any {w : World} (sv tv : Value) (xs ys : List (Int × Int)) (hx : Rw w 2 sv (px xs)) (hy : Rw w 2 tv (px ys)) (hbx : xs.length ≤ 1000000) :
    Calls Tryz.prog 27 #[sv, tv] w fun e w' => e = .returned (.bool (decide (xs = ys))) ∧ ∃ q, w' = w.drewN q := by
  obtain ⟨a, c, rfl, hlc, hcb, ha, hra⟩ := hx
  obtain ⟨a', c', rfl, hlc', hcb', ha', hra'⟩ := hy
  have hlx : (px xs).length = xs.length := by simp [px]
  have hly : (px ys).length = ys.length := by simp [px]
  rw [hlx] at hra ⊢
  rw [hly] at hra' ⊢
  by_cases hl : xs.length = ys.length
  · obtain ⟨n, hn⟩ : ∃ n, xs.length = n := ⟨_, rfl⟩
    have hn2 : ys.length = n := by omega
    rw [hn2]
    rw [hn2] at hra'
    rw [hn] at hra ⊢
    obtain ⟨D, hD⟩ : ∃ D, decide (xs = ys) = D := ⟨_, rfl⟩
    rw [hD]
    have HX : Hid (∀ i, i < n → ∃ b off, a = some ⟨b, off, none⟩ ∧ w.rangeAt b (off + i * 2) ((px xs).getD i [])) := by
      intro i hi
      rcases hra with e | ⟨b, off, rfl, hc⟩
      · rw [e] at hlx; simp at hlx; omega
      · exact ⟨b, off, rfl, fun j u hj => hc i (by omega) j u hj⟩
    have HY : Hid (∀ i, i < n → ∃ b off, a' = some ⟨b, off, none⟩ ∧ w.rangeAt b (off + i * 2) ((px ys).getD i [])) := by
      intro i hi
      rcases hra' with e | ⟨b, off, rfl, hc⟩
      · rw [e] at hly; simp at hly; omega
      · exact ⟨b, off, rfl, fun j u hj => hc i (by omega) j u hj⟩
    clear hra hra' hlc hlc' hcb hcb' ha ha' hl hlx hly
    go_enter Tryz.func27, Tryz.ntmps27
    go_wp2_with fail
    go_loopw [5] (fun u5 w' => ∃ i : Nat, i ≤ n ∧ u5 = .int .i64 i ∧ Hid ((∃ q, w' = w.drewN q) ∧ ∀ j, j < i → xs[j]? = ys[j]?)) (fun u5 w' => n - (intOf u5).toNat)
    case atStart => exact ⟨0, Nat.zero_le _, rfl, ⟨0, rfl⟩, fun j hj => by omega⟩
    case round =>
      obtain ⟨i, hi, rfl, HR⟩ := hrel
      obtain ⟨⟨q, hq⟩, hall⟩ := HR.out
      have HQ : Hid (∃ q, wr = w.drewN q) := ⟨q, hq⟩
      by_cases hlt : i < n
      · have h1 : (i : Int) < n := by omega
        obtain ⟨b, off, rfl, rx⟩ := HX.out i hlt
        obtain ⟨b', off', rfl, ry⟩ := HY.out i hlt
        obtain ⟨x, hxi⟩ : ∃ x, xs[i]? = some x := ⟨_, List.getElem?_eq_getElem (by omega)⟩
        obtain ⟨y, hyi⟩ : ∃ y, ys[i]? = some y := ⟨_, List.getElem?_eq_getElem (by omega)⟩
        have ex : (px xs).getD i [] = [.int .u32 x.1, .int .u32 x.2] := by simp [px, List.getD, hxi]
        have ey : (px ys).getD i [] = [.int .u32 y.1, .int .u32 y.2] := by simp [px, List.getD, hyi]
        rw [ex] at rx
        rw [ey] at ry
        have d3 : wr.cell? ⟨b, off + i * 2, none⟩ = some (.int .u32 x.1) := by have := rx 0 _ rfl; rw [hq]; simpa using this
        have d5 : wr.cell? ⟨b, off + i * 2 + 1, none⟩ = some (.int .u32 x.2) := by have := rx 1 _ rfl; rw [hq]; simpa using this
        have d4 : wr.cell? ⟨b', off' + i * 2, none⟩ = some (.int .u32 y.1) := by have := ry 0 _ rfl; rw [hq]; simpa using this
        have d6 : wr.cell? ⟨b', off' + i * 2 + 1, none⟩ = some (.int .u32 y.2) := by have := ry 1 _ rfl; rw [hq]; simpa using this
        have HA : Hid (∀ j, j < i → xs[j]? = ys[j]?) := hall
        clear HX HY ex ey rx ry hall HR hq
        by_cases hxy : x = y
        · have HF : Hid (∀ j, j < i + 1 → xs[j]? = ys[j]?) := by
            intro j hj
            by_cases e : j = i
            · rw [e, hxi, hyi, hxy]
            · exact HA.out j (by omega)
          clear hxi hyi HA
          subst hxy
          have hb := fun V => pair_eq x.1 x.2 x.1 x.2 V
          simp only [decide_true] at hb
          go_upto_region 6 with fail
          go_quiet (fail)
          go_wp2_with fail
          go_roundw
          case rel => exact ⟨i + 1, by omega, by go_num, drewN_more HQ.out _, HF.out⟩
          case measure => simp [intOf]; omega
        · obtain rfl : D = false := by
            rw [← hD]
            apply decide_eq_false
            intro hc
            rw [hc, hyi] at hxi
            exact hxy (Option.some.inj hxi).symm
          have hb := fun V => pair_eq x.1 x.2 y.1 y.2 V
          rw [decide_eq_false (show ¬ ((x.1, x.2) = (y.1, y.2)) from hxy)] at hb
          clear hD hxi hyi HA
          go_upto_region 6 with fail
          go_quiet (fail)
          go_wp2_with fail
          go_ret
          exact ⟨rfl, drewN_more HQ.out _⟩
      · have h1 : ¬ ((i : Int) < n) := by omega
        obtain rfl : i = n := by omega
        obtain rfl : D = true := by
          rw [← hD]
          apply decide_eq_true
          apply List.ext_getElem?
          intro j
          by_cases hj : j < i
          · exact hall j hj
          · rw [List.getElem?_eq_none (by omega), List.getElem?_eq_none (by omega)]
        clear HR hall hD HX HY hq
        go_wp2_with fail
        go_ret
        exact ⟨rfl, HQ.out⟩
  · rw [decide_eq_false (fun e => hl (by rw [e]))]
    have h1 : ((xs.length : Int) != (ys.length : Int)) = true := by simp; omega
    have h2 : ¬ ((xs.length : Int) = (ys.length : Int)) := by omega
    clear hra hra' hl
    go_enter Tryz.func27, Tryz.ntmps27
    go_wp2_with fail
    go_ret
    exact ⟨rfl, 0, rfl⟩
end Go.Proofs.YtbccadbnaggkhaaGreat

namespace Go.Proofs.YtbccadbnaggkhaaGreat
open Go.RowKit
open Sm
open Cf
set_option linter.unusedVariables false
set_option maxRecDepth 20000

/-- Settings. -/
structure Cgf where
  ip : Int
  mac : List Int
  omac : List Int
  nmac : List Int
  key : List Int
  drain : Int
  ten : List Ten
structure CLen (c : Cgf) : Prop where
  mac : c.mac.length = 6
  omac : c.omac.length = 6
  nmac : c.nmac.length = 6
  key : c.key.length = 8
structure CIn (c : Cgf) : Prop where
  len : CLen c
  mac : IsBytes c.mac
  omac : IsBytes c.omac
  nmac : IsBytes c.nmac
  key : IsBytes c.key
/-- Their cells, the tenants the value v. -/
def cc (c : Cgf) (v : Value) : List Value := .int .u32 c.ip :: (c.mac.map (Value.int .u8) ++ (c.omac.map (Value.int .u8) ++ (c.nmac.map (Value.int .u8) ++ (c.key.map (Value.int .u8) ++ [.int .u32 c.drain, v]))))
theorem cc_len {c : Cgf} (h : CLen c) (v : Value) : (cc c v).length = 29 := by simp [cc, h.mac, h.omac, h.nmac, h.key]
/-- A tenant's cells, its lists whatever values. -/
abbrev Tv := Ten × Value × Value × Value
def zc (z : Tv) : List Value := tc z.1 z.2.1 z.2.2.1 z.2.2.2
def Rws (V : World) (z : Tv) : Prop := Rw V 1 z.2.1 (ux z.1.pool) ∧ Rw V 2 z.2.2.1 (px z.1.stat) ∧ Rw V 2 z.2.2.2 (px z.1.twi)
/-- Settings that lie at a place, their tenants the slice r.1, which are r.2. -/
def IC : Rp Cgf (Value × List Tv) := fun c r V g off => CIn c ∧ V.rangeAt g off (cc c r.1) ∧ r.2.map Prod.fst = c.ten ∧ Rw V 33 r.1 (r.2.map zc) ∧ ∀ z ∈ r.2, TIn z.1 ∧ Rws V z
theorem IC.cell {t : Cgf} {r : Value × List Tv} {V : World} {g off : Nat} (h : IC t r V g off) (o : Nat) {v : Value} (hv : (cc t r.1)[o]? = some v) : V.cell? ⟨g, off + o, none⟩ = some v := h.2.1 o v hv
theorem IC.row {t : Cgf} {r : Value × List Tv} {V : World} {g off : Nat} (h : IC t r V g off) (o : Nat) (x : List Int) (hb : IsBytes x) (hx : x.length ≤ 1000) (a c : List Value) (ha : a.length = o) (e : cc t r.1 = a ++ (x.map (Value.int .u8) ++ c)) :
    Row V (some ⟨g, off + o, none⟩) x := by
  refine ⟨hb, by omega, Or.inr ⟨g, off + o, rfl, fun i hi => ?_⟩⟩
  have := h.2.1 (o + i) (.int .u8 (x.getD i 0)) (by
    rw [e, List.getElem?_append_right (by omega), List.getElem?_append_left (by simp; omega), ha, Nat.add_sub_cancel_left]
    simp [hi])
  rw [Nat.add_assoc]; exact this
theorem rw_slice {V : World} {sz : Nat} {v : Value} {xs : List (List Value)} (h : Rw V sz v xs) : v.oneCell' = true := by
  obtain ⟨a, c, rfl, -⟩ := h; rfl
theorem zc_one {V : World} {z : Tv} (h : Rws V z) : (zc z).toArray.all (·.oneCell') = true := by
  apply all_oneCell_toArray
  intro v hv
  simp only [zc, tc, List.mem_cons, List.mem_append, List.mem_map, List.not_mem_nil, or_false] at hv
  rcases hv with rfl | rfl | ⟨x, _, rfl⟩ | rfl | ⟨x, _, rfl⟩ | ⟨x, _, rfl⟩ | rfl | rfl | rfl | rfl | rfl | rfl | rfl | rfl | rfl | rfl <;> first | rfl | exact rw_slice h.1 | exact rw_slice h.2.1 | exact rw_slice h.2.2
/-- Fields that are only written and read. -/
structure Fw {α ρ : Type} (w : World) (L : List (Nat × Obj)) (I : Rp α ρ) (J : St' α) (f : Fv) (s : Sp α) : Prop where
  ew : Ent f.kw
  er : Ent f.kr
  wr : ∀ K, Sub L K → ∀ x r g off, (∀ V, Mem w V K → I x r V g off) → ∀ v l V, Out w V v l K → l.length + (s.enc x).length ≤ 1000000000 →
    Calls Tryz.prog f.kw (#[v, .pointer (some ⟨g, off, none⟩)] ++ f.cw) V fun e V' => ∃ v', e = .returned v' ∧ Out w V' v' (l ++ s.enc x) K
  rd : ∀ K, Sub L K → ∀ x g T pre post a l c V, J w x g T pre post V K → Sl w a l c →
    Calls Tryz.prog f.kr (#[.slice a l.length c, .pointer (some ⟨g, pre.length, none⟩)] ++ f.cr) V (RPost w K (fun y V' => J w y g T pre post V' K) (s.dec l x))
theorem Fw.more {α ρ : Type} {w : World} {L K : List (Nat × Obj)} {I : Rp α ρ} {J : St' α} {f : Fv} {s : Sp α} (h : Fw w L I J f s) (hs : Sub L K) : Fw w K I J f s :=
  ⟨h.ew, h.er, fun M hM => h.wr M (hs.trans hM), fun M hM => h.rd M (hs.trans hM)⟩
inductive FwAll {α ρ : Type} (w : World) (L : List (Nat × Obj)) (I : Rp α ρ) (J : St' α) : List Fv → List (Sp α) → Prop
  | nil : FwAll w L I J [] []
  | cons {f : Fv} {s : Sp α} {fs : List Fv} {ss : List (Sp α)} : Fw w L I J f s → FwAll w L I J fs ss → FwAll w L I J (f :: fs) (s :: ss)
theorem FwAll.at_ {α ρ : Type} {w : World} {L : List (Nat × Obj)} {I : Rp α ρ} {J : St' α} {fs : List Fv} {ss : List (Sp α)} (h : FwAll w L I J fs ss) : ∀ i, i < fs.length → Fw w L I J (fs.getD i fv0) (ss.getD i sp0) := by
  induction h with
  | nil => intro i hi; simp at hi
  | cons h1 h2 ih =>
    intro i hi
    cases i with
    | zero => exact h1
    | succ i => exact ih i (by simpa using hi)
theorem FwAll.len {α ρ : Type} {w : World} {L : List (Nat × Obj)} {I : Rp α ρ} {J : St' α} {fs : List Fv} {ss : List (Sp α)} (h : FwAll w L I J fs ss) : fs.length = ss.length := by
  induction h with
  | nil => rfl
  | cons _ _ ih => simp [ih]
end Go.Proofs.YtbccadbnaggkhaaGreat

namespace Go.Proofs.YtbccadbnaggkhaaGreat
open Go.RowKit
open Sm
open Cf
set_option linter.unusedVariables false
set_option maxRecDepth 20000

end Go.Proofs.YtbccadbnaggkhaaGreat

namespace Go.Proofs.YtbccadbnaggkhaaGreat
open Go.RowKit
open Sm
open Cf
set_option linter.unusedVariables false
set_option maxRecDepth 20000

/-- A change. -/
structure Chg where
  put : Bool
  name : ByteArray
  t : Ten
def hc (h : Chg) (p s q : Value) : List Value := .bool h.put :: .string h.name :: tc h.t p s q
abbrev hz0 : Array Value := (hc ⟨false, ByteArray.empty, ten0⟩ nilV nilV nilV).toArray
theorem Out.none {w V : World} {u : Value} {l : List Int} : ∀ K, Out w V u l K → Out w V u l [] := by
  intro K
  induction K with
  | nil => exact id
  | cons p K ih => exact fun h => ih h.drop
end Go.Proofs.YtbccadbnaggkhaaGreat

namespace Go.Proofs.YtbccadbnaggkhaaGreat
open Go.RowKit
open Sm
open Cf
set_option linter.unusedVariables false
set_option maxRecDepth 20000

end Go.Proofs.YtbccadbnaggkhaaGreat

namespace Go.Proofs.YtbccadbnaggkhaaGreat
open Go.RowKit
open Sm
open Cf
set_option linter.unusedVariables false
set_option linter.unusedSimpArgs false
set_option maxRecDepth 20000

def rnx (σ : Option (List Int)) : Option (List Int) := nx (num (tk 1 σ)).toNat (nx 1 σ)
end Go.Proofs.YtbccadbnaggkhaaGreat

