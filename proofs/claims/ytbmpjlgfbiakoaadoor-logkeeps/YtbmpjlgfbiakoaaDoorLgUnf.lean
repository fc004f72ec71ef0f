/-
  What package log's unframed answers.
-/
import Derived.Test.YtbmpjlgfbiakoaaDoorLgPut
import Derived.BigQuiet
import Derived.Deep.QuietTactic
import Derived.Deep.RegionHeld3
import Derived.Deep.DeepCutAuto
namespace Go.Proofs.YtbmpjlgfbiakoaaDoor
open Go.RowKit
open Sm
set_option linter.unusedVariables false

theorem quiet_eq {P : Program} {f : FuncId} {args : Array Value} {w : World} {n : Nat} {v : Value} (h : Calls P f args (w.drewN n) fun e w' => e = .returned v ∧ w.drewN n = w') : Calls P f args (w.drewN n) fun e w'' => e = .returned v ∧ ∃ m, w'' = w.drewN m :=
  h.mono fun _ _ ⟨he, hm⟩ => ⟨he, n, hm.symm⟩

abbrev pcT : TypeId := 85
abbrev pcA (t c i n : Int) (v : Value) : Array Value := #[.int .u64 t, .int .i64 c, .int .i64 i, .int .i64 n, v]
abbrev pc0 : Array Value := pcA 0 0 0 0 (.slice none 0 0)
theorem Row.sl {w : World} {g off : Nat} {l : List Int} (h : Row w (some ⟨g, off, none⟩) l) (lo hi : Nat) (h1 : lo ≤ hi) (h2 : hi ≤ l.length) : Row w (some ⟨g, off + lo, none⟩) (sl l lo hi) := h.part lo (hi - lo) (by omega)

section
variable {W : World} {g c m : Nat} {b : List Int} {E : Value}
set_option maxRecDepth 20000 in
set_option maxHeartbeats 1000000 in
/-- No mark, or too great a size. -/
theorem unf_bad (hlen : b.length = m) (hm0 : 256 ≤ m) (hm1 : m ≤ 65536) (hr : Row W (some ⟨g, 0, none⟩) b) (hcap : m ≤ c) {t : TypeId} {v : Value} (hgl : W.cell? ⟨0, 0, none⟩ = some (.iface t v))
    (hno : b.getD 0 0 ≠ 165 ∨ b.getD (m - 1) 0 ≠ 165 ∨ (m : Int) - 64 < gt (sl b 23 27)) :
    Calls Tryd.prog 55 #[.slice (some ⟨g, 0, none⟩) m c] W fun e W' => e = .returned (.tuple #[.agg pc0, .iface t v]) ∧ ∃ K, Mem W W' K := by
  have hM : Mem W (W.alloc (.cells pc0 pcT)) [(W.heap.size, .cells pc0 pcT (0, 0))] := (Mem.nil W).push1 rfl
  have hr1 : Row (W.alloc (.cells pc0 pcT)) (some ⟨g, 0, none⟩) b := row_alloc hr
  have hgl1 : (W.alloc (.cells pc0 pcT)).cell? ⟨0, 0, none⟩ = some (.iface t v) := by rw [← hgl]; exact hM.old (cell_lt hgl)
  have kr := hM.cell 0 rfl
  have kf := hM.free 0 rfl
  have HM : Hid (Mem W (W.alloc (.cells pc0 pcT)) [(W.heap.size, .cells pc0 pcT (0, 0))]) := hM
  have hne := cell_lt hgl
  generalize hw1 : W.alloc (.cells pc0 pcT) = w1 at *
  have c0 := hr1.cellAt 0 (by omega)
  have cl := hr1.cellAt (m - 1) (by omega)
  simp only [Nat.zero_add] at c0 cl
  have hG := get_any (n := 4) (by rw [sl_length _ _ _ (by omega)]) (hr1.sl 23 27 (by omega) (by omega)) (by omega) (c - 23)
  simp only [Nat.zero_add] at hG
  have hz := gt_range (sl b 23 27) (sl_bytes hr.bytes 23 27)
  rw [sl_length _ _ _ (by omega)] at hz
  have hz1 : gt (sl b 23 27) < 4294967296 := hz.2
  have hz0 := hz.1
  generalize b.getD 0 0 = X0 at *
  generalize b.getD (m - 1) 0 = XL at *
  generalize gt (sl b 23 27) = Z at *
  have q23 : (23 : Int) < c := by omega
  have q27 : (27 : Int) ≤ c := by omega
  have qm : (0 : Int) < m := by omega
  have qm1 : ((m : Int) - 1).toNat = m - 1 := by omega
  have qw : IntKind.i64.wrap ((m : Int) - 1) = (m : Int) - 1 := by rw [IntKind.wrap_i64]; omega
  clear hM hr hr1 hz hgl
  go_enter Tryd.func55, Tryd.ntmps55
  go_wp2_with fail
  refine hG.mono ?_
  rintro e w' ⟨rfl, rfl⟩
  have fin : Hid (Mem W (((((w1.setCell ⟨W.heap.size, 0, none⟩ (.int .u64 0)).setCell ⟨W.heap.size, 1, none⟩ (.int .i64 0)).setCell ⟨W.heap.size, 2, none⟩ (.int .i64 0)).setCell ⟨W.heap.size, 3, none⟩ (.int .i64 0)).setCell ⟨W.heap.size, 4, none⟩ (.slice none 0 0)).drew _) :=
    (((((HM.out.set 0 rfl 0 _).set 0 rfl 1 _).set 0 rfl 2 _).set 0 rfl 3 _).set 0 rfl 4 _).drew
  clear HM
  by_cases h0 : X0 = 165
  · by_cases hl : XL = 165
    · have hZ : (m : Int) - 64 < Z := by simpa [h0, hl] using hno
      have b0 : (X0 != 165) = false := by simpa using h0
      have b1 : (XL != 165) = false := by simpa using hl
      have qm2 : IntKind.u64.wrap ((m : Int) - 64) = (m : Int) - 64 := wraps_u64 _ (by omega) (by omega)
      clear hno hl h0
      go_wp2_with fail
      go_region
      all_goals go_wp2
      exact bodyPost_ret (v := .tuple #[.agg pc0, .iface t v]) (by simp [results, Tryd.results55, go_sem, kr]) rfl ⟨rfl, _, fin.out⟩
    · have b0 : (X0 != 165) = false := by simpa using h0
      have b1 : (XL != 165) = true := by simpa using hl
      clear hno hl h0
      go_wp2_with fail
      go_region
      all_goals go_wp2
      exact bodyPost_ret (v := .tuple #[.agg pc0, .iface t v]) (by simp [results, Tryd.results55, go_sem, kr]) rfl ⟨rfl, _, fin.out⟩
  · have b0 : (X0 != 165) = true := by simpa using h0
    clear hno
    go_wp2_with fail
    go_region
    all_goals go_wp2
    exact bodyPost_ret (v := .tuple #[.agg pc0, .iface t v]) (by simp [results, Tryd.results55, go_sem, kr]) rfl ⟨rfl, _, fin.out⟩
set_option maxRecDepth 20000 in
set_option maxHeartbeats 1000000 in
/-- Another checksum. -/
theorem unf_sum (hlen : b.length = m) (hm0 : 256 ≤ m) (hm1 : m ≤ 65536) (hr : Row W (some ⟨g, 0, none⟩) b) (hcap : m ≤ c) {t : TypeId} {v : Value} (hgl : W.cell? ⟨0, 0, none⟩ = some (.iface t v))
    (h0 : b.getD 0 0 = 165) (hl : b.getD (m - 1) 0 = 165) {L : Nat} (hZ : gt (sl b 23 27) = L) (hL : L + 64 ≤ m) (hno : crc (sl b 5 (63 + L)) ≠ gt (sl b 1 5)) :
    Calls Tryd.prog 55 #[.slice (some ⟨g, 0, none⟩) m c] W fun e W' => e = .returned (.tuple #[.agg pc0, .iface t v]) ∧ ∃ K, Mem W W' K := by
  have hM : Mem W (W.alloc (.cells pc0 pcT)) [(W.heap.size, .cells pc0 pcT (0, 0))] := (Mem.nil W).push1 rfl
  have hr1 : Row (W.alloc (.cells pc0 pcT)) (some ⟨g, 0, none⟩) b := row_alloc hr
  have hgl1 : (W.alloc (.cells pc0 pcT)).cell? ⟨0, 0, none⟩ = some (.iface t v) := by rw [← hgl]; exact hM.old (cell_lt hgl)
  have kr := hM.cell 0 rfl
  have kf := hM.free 0 rfl
  have HM : Hid (Mem W (W.alloc (.cells pc0 pcT)) [(W.heap.size, .cells pc0 pcT (0, 0))]) := hM
  have hne := cell_lt hgl
  generalize hw1 : W.alloc (.cells pc0 pcT) = w1 at *
  have c0 := hr1.cellAt 0 (by omega)
  have cl := hr1.cellAt (m - 1) (by omega)
  simp only [Nat.zero_add] at c0 cl
  have hG := get_any (n := 4) (by rw [sl_length _ _ _ (by omega)]) (hr1.sl 23 27 (by omega) (by omega)) (by omega) (c - 23)
  simp only [Nat.zero_add] at hG
  have HG1 : Hid (∀ k, Calls Tryd.prog 59 #[.slice (some ⟨g, 1, none⟩) 4 (c - 1)] (w1.drewN k) fun e w' => e = .returned (.int .u64 (gt (sl b 1 5))) ∧ w1.drewN k = w') := fun k => by
    have := get_any (n := 4) (by rw [sl_length _ _ _ (by omega)]) (row_drewN (n := k) (hr1.sl 1 5 (by omega) (by omega))) (by omega) (c - 1)
    simpa only [Nat.zero_add] using this
  have HS1 : Hid (∀ k, Calls Tryd.prog 10 #[.slice (some ⟨g, 5, none⟩) (63 + L - 5) (c - 5)] (w1.drewN k) fun e w' => e = .returned (.int .u32 (crc (sl b 5 (63 + L)))) ∧ w1.drewN k = w') := fun k => by
    have := lsum_any (n := 63 + L - 5) (by rw [sl_length _ _ _ (by omega)]) (row_drewN (n := k) (hr1.sl 5 (63 + L) (by omega) (by omega))) (c - 5)
    simpa only [Nat.zero_add] using this
  rw [h0] at c0
  rw [hl] at cl
  rw [hZ] at hG
  have hcr := crc_range (sl b 5 (63 + L)) (sl_bytes hr.bytes _ _)
  generalize crc (sl b 5 (63 + L)) = S at *
  generalize gt (sl b 1 5) = T at *
  have bn : (S != T) = true := by simpa using hno
  have q23 : (23 : Int) < c := by omega
  have q27 : (27 : Int) ≤ c := by omega
  have q1 : (1 : Int) < c := by omega
  have q5 : (5 : Int) < c := by omega
  have qm : (0 : Int) < m := by omega
  have qm1 : ((m : Int) - 1).toNat = m - 1 := by omega
  have qw : IntKind.i64.wrap ((m : Int) - 1) = (m : Int) - 1 := by rw [IntKind.wrap_i64]; omega
  have qm2 : IntKind.u64.wrap ((m : Int) - 64) = (m : Int) - 64 := wraps_u64 _ (by omega) (by omega)
  have qz : ¬ ((m : Int) - 64 < (L : Int)) := by omega
  obtain ⟨hcr0, hcr1⟩ := hcr
  clear hM hr hr1 hgl hno h0 hl hZ kr kf
  go_enter Tryd.func55, Tryd.ntmps55
  go_wp2_with fail
  refine hG.mono ?_
  rintro e w' ⟨rfl, rfl⟩
  go_upto_region 5 with fail
  go_quiet (first | (go_at_call 10; exact quiet_eq (HS1.out _)) | (go_at_call 59; exact quiet_eq (HG1.out _)))
  go_upto_region 6 with fail
  refine wp_letter (fun V => Mem W V [(W.heap.size, .cells pc0 pcT (0, 0))] ∧ V.cell? ⟨0, 0, none⟩ = some (.iface t v)) ⟨HM.out.drewN _, hgl1⟩ ?_
  rintro wx ⟨hMx, hgx⟩
  have kr := hMx.cell 0 rfl
  have kf := hMx.free 0 rfl
  have HMx : Hid (Mem W wx [(W.heap.size, .cells pc0 pcT (0, 0))]) := hMx
  clear hMx HM HS1 HG1 hG hgl1 c0 cl
  go_region
  all_goals go_wp2
  exact bodyPost_ret (v := .tuple #[.agg pc0, .iface t v]) (by simp [results, Tryd.results55, go_sem, kr]) rfl ⟨rfl, _, (((((HMx.out.set 0 rfl 0 _).set 0 rfl 1 _).set 0 rfl 2 _).set 0 rfl 3 _).set 0 rfl 4 _).drew⟩
end
end Go.Proofs.YtbmpjlgfbiakoaaDoor
