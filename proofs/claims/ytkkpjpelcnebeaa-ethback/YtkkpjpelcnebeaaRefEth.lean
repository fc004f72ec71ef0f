/-
  What the document's own lychref1.Eth answers.
-/
import Derived.Test.YtkkpjpelcnebeaaParse
import Derived.Test.YtkkpjpelcnebeaaHelp
namespace Go.Proofs.Ytkkpjpelcnebeaa
open Go.RowKit
open Sm
set_option linter.unusedVariables false

/-- The frame with its first k bytes of each address filled in. -/
def ec (l : List Int) : Nat → Array Value
  | 0 => eth0
  | k + 1 => ((ec l k).setIfInBounds k (.int .u8 (l.getD k 0))).setIfInBounds (6 + k) (.int .u8 (l.getD (6 + k) 0))
theorem ec_size (l : List Int) (k : Nat) : (ec l k).size = 14 := by
  induction k with
  | zero => rfl
  | succ k ih => simp [ec, ih]

theorem ec_six (x0 x1 x2 x3 x4 x5 x6 x7 x8 x9 x10 x11 : Int) (r : List Int) : ec (x0 :: x1 :: x2 :: x3 :: x4 :: x5 :: x6 :: x7 :: x8 :: x9 :: x10 :: x11 :: r) 6 = ethA x0 x1 x2 x3 x4 x5 x6 x7 x8 x9 x10 x11 0 (.slice none 0 0) := by
  simp only [ec, eth0, ethA, List.setIfInBounds_toArray, List.set_cons_zero, List.set_cons_succ, Nat.reduceAdd, List.getD_cons_zero, List.getD_cons_succ]

set_option maxHeartbeats 1000000 in
theorem reth_ok (b off cap : Nat) (w : World) (x0 x1 x2 x3 x4 x5 x6 x7 x8 x9 x10 x11 x12 x13 : Int) (body : List Int)
    (h : Row w (some ⟨b, off, none⟩) (x0 :: x1 :: x2 :: x3 :: x4 :: x5 :: x6 :: x7 :: x8 :: x9 :: x10 :: x11 :: x12 :: x13 :: body)) (n m : Nat) (hm : body.length = m) (hn : n = m + 14) (h1 : m ≤ 1586) (hc : n ≤ cap) :
    Calls Try.prog 9 #[.slice (some ⟨b, off, none⟩) n cap] w fun e w' => ∃ ao c, e = .returned (.tuple #[.agg (ethA x0 x1 x2 x3 x4 x5 x6 x7 x8 x9 x10 x11 (x12 * 256 + x13) (.slice ao m c)), .int .i64 0]) ∧ Row w' ao body ∧ Below w.heap.size w w' := by
  obtain ⟨l, hl⟩ : ∃ l, l = x0 :: x1 :: x2 :: x3 :: x4 :: x5 :: x6 :: x7 :: x8 :: x9 :: x10 :: x11 :: x12 :: x13 :: body := ⟨_, rfl⟩
  have c12 : w.cell? ⟨b, off + 12, none⟩ = some (.int .u8 x12) := h.cellAt 12 (by simp)
  have c13 : w.cell? ⟨b, off + (12 + 1), none⟩ = some (.int .u8 x13) := h.cellAt 13 (by simp)
  obtain ⟨r00, r01⟩ : 0 ≤ x12 ∧ x12 ≤ 255 := h.bytes 12
  obtain ⟨r10, r11⟩ : 0 ≤ x13 ∧ x13 ≤ 255 := h.bytes 13
  have hb := cell_lt c12
  simp only at hb
  have HB : Hid (l.drop 14 = body) := by rw [hl]; rfl
  have HLn : Hid (l.length = n) := by show _ = _; rw [hl]; simp only [List.length_cons]; omega
  rw [← hl] at h
  have HR : Hid (Row w (some ⟨b, off, none⟩) l) := h
  have HM : Hid (body.length = m) := hm
  have HLL : Hid (l = x0 :: x1 :: x2 :: x3 :: x4 :: x5 :: x6 :: x7 :: x8 :: x9 :: x10 :: x11 :: x12 :: x13 :: body) := hl
  clear h hm hl
  have hn1 : (14 : Int) ≤ n := by omega
  have hn2 : (n : Int) ≤ 1600 := by omega
  have HN : Hid (n = m + 14) := hn
  clear hn
  go_enter Try.func9, Try.ntmps9
  go_wp2
  go_loopw [5] (fun i wr => ∃ k : Nat, k ≤ 6 ∧ i = .int .i64 k ∧ Mem w wr [(w.heap.size, .cells eth0 28), (w.heap.size + 1, .cells (ec l k) 28)]) (fun i _ => 6 - (intOf i).toNat)
  case atStart => exact ⟨0, Nat.zero_le _, rfl, ((Mem.nil w).push w.heap.size _ rfl).push (w.heap.size + 1) _ (by simp)⟩
  case round =>
    obtain ⟨k, hk, rfl, hM⟩ := hrel
    have HM1 : Hid _ := hM
    by_cases hlt : k < 6
    · have hlt' : (k : Int) < 6 := by omega
      have kn : (k : Int) < n := by omega
      have kn6 : 6 + (k : Int) < n := by omega
      have p6 : (0 : Int) ≤ 6 + (k : Int) := by omega
      have e6 : (6 + (k : Int)).toNat = 6 + k := by omega
      have w6 : IntKind.i64.wrap (6 + (k : Int)) = 6 + (k : Int) := by rw [IntKind.wrap_i64]; omega
      have d0 : wr.cell? ⟨b, off + k, none⟩ = some (.int .u8 (l.getD k 0)) := (hM.old hb).trans (HR.out.cellAt k (by rw [HLn.out]; omega))
      have d1 : wr.cell? ⟨b, off + (6 + k), none⟩ = some (.int .u8 (l.getD (6 + k) 0)) := (hM.old hb).trans (HR.out.cellAt (6 + k) (by rw [HLn.out]; omega))
      have z0 : wr.cell? ⟨w.heap.size + 1, k, none⟩ = some ((ec l k)[k]'(by rw [ec_size]; omega)) := by rw [hM.cell 1 rfl k]; simp
      have z1 : wr.cell? ⟨w.heap.size + 1, 6 + k, none⟩ = some ((ec l k)[6 + k]'(by rw [ec_size]; omega)) := by rw [hM.cell 1 rfl (6 + k)]; simp
      generalize (ec l k)[k]'(by rw [ec_size]; omega) = v0 at z0
      generalize (ec l k)[6 + k]'(by rw [ec_size]; omega) = v1 at z1
      have f0 : ∀ j, wr.frozen? ⟨w.heap.size + 1, j, none⟩ = false := hM.free 1 rfl
      have nb : w.heap.size + 1 ≠ b := by omega
      clear hM
      go_wp2_with fail
      go_region_held3 (fun w' => w'.cell? ⟨b, off + k, none⟩ = some (.int .u8 (l.getD k 0)) ∧ w'.cell? ⟨b, off + (6 + k), none⟩ = some (.int .u8 (l.getD (6 + k) 0))) (go_keep) (fail)
      all_goals
        go_wp2_with fail
        go_roundw
      case rel =>
        refine ⟨k + 1, by omega, by go_num, ?_⟩
        exact (HM1.out.drew.set 1 rfl k (.int .u8 (l.getD k 0))).set 1 rfl (6 + k) (.int .u8 (l.getD (6 + k) 0))
      case measure => simp [intOf]; omega
    · have hk6 : k = 6 := by omega
      have hlt' : ¬ (k : Int) < 6 := by omega
      rw [hk6, HLL.out, ec_six] at hM
      clear HM1
      have HM1 : Hid _ := hM
      have d0 : wr.cell? ⟨b, off + 12, none⟩ = some (.int .u8 x12) := (hM.old hb).trans c12
      have d1 : wr.cell? ⟨b, off + (12 + 1), none⟩ = some (.int .u8 x13) := (hM.old hb).trans c13
      clear hM hk6
      go_wp2_with fail
      refine (get16_row 12 x12 x13 d0 d1 r00 r01 r10 r11 n cap (by omega) (by omega)).mono ?_
      rintro e w1 ⟨rfl, q, rfl⟩
      have HM2 : Hid _ := HM1.out.drewN q
      clear HM1 d0 d1
      generalize wr.drewN q = w1 at HM2 ⊢
      have hcut := cut_row (HM2.out.row HR.out) n cap 14 m HLn.out hc (by rw [HN.out]; omega) (by omega)
      rw [show ((14 + m : Nat) : Int) = (n : Int) by rw [HN.out]; omega, HB.out, List.take_of_length_le (by rw [HM.out]; exact Nat.le_refl _)] at hcut
      go_wp2_with fail
      refine hcut.mono ?_
      rintro e w2 ⟨v1, rfl, hown, hbel⟩
      obtain ⟨ao, c, rfl, hrow, -, hfar, -⟩ := own_read hown HM.out (fun i => by have := HR.out.bytes (i + 14); rw [HLL.out] at this; exact this) (by rw [HM.out]; omega)
      have hM3 := HM2.out.after hbel
      have hf1 : ∀ x, ao = some x → w.heap.size + 1 ≠ x.block := fun x hx => by
        have h1 := hfar x hx
        have h2 : w.heap.size + 1 < w1.heap.size := HM2.out.lt (p := (w.heap.size + 1, _)) (List.mem_cons_of_mem _ (List.mem_cons_self ..))
        omega
      have hf0 : ∀ x, ao = some x → w.heap.size ≠ x.block := fun x hx => by
        have h1 := hfar x hx
        have h2 : w.heap.size < w1.heap.size := HM2.out.lt (p := (w.heap.size, _)) (List.mem_cons_self ..)
        omega
      have HF : Hid ((∀ x, ao = some x → w.heap.size + 1 ≠ x.block) ∧ (∀ x, ao = some x → w.heap.size ≠ x.block)) := ⟨hf1, hf0⟩
      have HM3 : Hid _ := hM3
      have kc : ∀ i, w2.cell? ⟨w.heap.size + 1, i, none⟩ = (ethA x0 x1 x2 x3 x4 x5 x6 x7 x8 x9 x10 x11 0 (.slice none 0 0))[i]? := hM3.cell 1 rfl
      have kr : ∀ i, w2.cell? ⟨w.heap.size, i, none⟩ = eth0[i]? := hM3.cell 0 rfl
      have kf : ∀ i, w2.frozen? ⟨w.heap.size, i, none⟩ = false := hM3.free 0 rfl
      have kf1 : ∀ i, w2.frozen? ⟨w.heap.size + 1, i, none⟩ = false := hM3.free 1 rfl
      have HO : Hid (Row w2 ao body) := hrow
      clear hcut hbel hown hrow HM2 hfar hf1 hf0 hM3
      go_wp2_with fail
      refine bodyPost_ret (v := .tuple #[.agg (ethA x0 x1 x2 x3 x4 x5 x6 x7 x8 x9 x10 x11 (x12 * 256 + x13) (.slice ao m c)), .int .i64 0]) (by simp [results, Try.results9, go_sem, kr]) rfl ⟨ao, c, rfl, ?_, ?_⟩
      · iterate 14 (refine Row.far ?_ HF.out.2)
        iterate 2 (refine Row.far ?_ HF.out.1)
        exact HO.out
      · iterate 14 (refine below_set ?_ (Nat.le_refl _))
        iterate 2 (refine below_set ?_ (Nat.le_succ _))
        exact HM3.out.below

set_option maxHeartbeats 400000 in
theorem reth_big (a : Option Addr) (n cap : Nat) (w : World) (h : 1600 < n) :
    Calls Try.prog 9 #[.slice a n cap] w fun e w' => e = .returned (.tuple #[.agg eth0, .int .i64 23]) ∧ Below w.heap.size w w' := by
  have h' : (1600 : Int) < n := by omega
  go_enter Try.func9, Try.ntmps9
  go_wp2
  refine bodyPost_ret (v := .tuple #[.agg eth0, .int .i64 23]) (by simp [results, Try.results9, go_sem]) rfl ⟨rfl, ?_⟩
  exact (Below.refl _ _).alloc (Nat.le_refl _) _

set_option maxHeartbeats 400000 in
theorem reth_short (a : Option Addr) (n cap : Nat) (w : World) (h : n < 14) :
    Calls Try.prog 9 #[.slice a n cap] w fun e w' => e = .returned (.tuple #[.agg eth0, .int .i64 20]) ∧ Below w.heap.size w w' := by
  have h' : (n : Int) < 14 := by omega
  go_enter Try.func9, Try.ntmps9
  go_wp2
  refine bodyPost_ret (v := .tuple #[.agg eth0, .int .i64 20]) (by simp [results, Try.results9, go_sem]) rfl ⟨rfl, ?_⟩
  exact (Below.refl _ _).alloc (Nat.le_refl _) _
end Go.Proofs.Ytkkpjpelcnebeaa
