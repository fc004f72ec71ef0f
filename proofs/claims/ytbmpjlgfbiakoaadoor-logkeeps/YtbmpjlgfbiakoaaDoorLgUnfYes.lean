/-
  What package log's unframed answers where a block holds a piece.
-/
import Derived.Test.YtbmpjlgfbiakoaaDoorLgUnf
namespace Go.Proofs.YtbmpjlgfbiakoaaDoor
open Go.RowKit
open Sm
set_option linter.unusedVariables false
section
variable {W : World} {g c m : Nat} {b : List Int} {E : Value}
set_option maxRecDepth 20000 in
set_option maxHeartbeats 2000000 in
/-- A piece. -/
theorem unf_yes (hlen : b.length = m) (hm0 : 256 ≤ m) (hm1 : m ≤ 65536) (hr : Row W (some ⟨g, 0, none⟩) b) (hcap : m ≤ c)
    (h0 : b.getD 0 0 = 165) (hl : b.getD (m - 1) 0 = 165) {L : Nat} (hZ : gt (sl b 23 27) = L) (hL : L + 64 ≤ m) (hno : crc (sl b 5 (63 + L)) = gt (sl b 1 5)) :
    Calls Tryd.prog 55 #[.slice (some ⟨g, 0, none⟩) m c] W fun e W' => e = .returned (.tuple #[.agg (pcA (gt (sl b 5 13)) (IntKind.i64.wrap (gt (sl b 13 21))) (gt (sl b 21 22)) (gt (sl b 22 23)) (.slice (some ⟨g, 63, none⟩) L (c - 63))), .nilIface]) ∧ ∃ K, Mem W W' K := by
  have hM : Mem W (W.alloc (.cells pc0 pcT)) [(W.heap.size, .cells pc0 pcT (0, 0))] := (Mem.nil W).push1 rfl
  have hr1 : Row (W.alloc (.cells pc0 pcT)) (some ⟨g, 0, none⟩) b := row_alloc hr
  have HM : Hid (Mem W (W.alloc (.cells pc0 pcT)) [(W.heap.size, .cells pc0 pcT (0, 0))]) := hM
  have hne : W.heap.size ≠ g := by
    have := cell_lt (hr.cellAt 0 (by omega))
    simp only at this
    omega
  generalize hw1 : W.alloc (.cells pc0 pcT) = w1 at *
  have c0 := hr1.cellAt 0 (by omega)
  have cl := hr1.cellAt (m - 1) (by omega)
  simp only [Nat.zero_add] at c0 cl
  have hG := get_any (n := 4) (by rw [sl_length _ _ _ (by omega)]) (hr1.sl 23 27 (by omega) (by omega)) (by omega) (c - 23)
  simp only [Nat.zero_add] at hG
  have HG1 : Hid (∀ k, Calls Tryd.prog 59 #[.slice (some ⟨g, 1, none⟩) 4 (c - 1)] (w1.drewN k) fun e w' => e = .returned (.int .u64 (gt (sl b 1 5))) ∧ w1.drewN k = w') := fun k => by
    have := get_any (n := 4) (by rw [sl_length _ _ _ (by omega)]) (row_drewN (n := k) (hr1.sl 1 5 (by omega) (by omega))) (by omega) (c - 1)
    simpa only [Nat.zero_add] using this
  have HS1 : Hid (∀ k, Calls Tryd.prog 10 #[.slice (some ⟨g, 5, none⟩) (63 + L - 5) (c - 5)] (w1.drewN k) fun e w' => e = .returned (.int .u32 (crc (sl b 5 (63 + L)))) ∧ w1.drewN k = w') := fun k => by
    have := lsum_any (n := 63 + L - 5) (by rw [sl_length _ _ _ (by omega)]) (row_drewN (n := k) (hr1.sl 5 (63 + L) (by omega) (by omega))) (c - 5)
    simpa only [Nat.zero_add] using this
  rw [h0] at c0
  rw [hl] at cl
  rw [hZ] at hG
  have hcr := crc_range (sl b 5 (63 + L)) (sl_bytes hr.bytes _ _)
  have gA : ∀ lo hi : Nat, lo ≤ hi → hi ≤ b.length → hi - lo ≤ 8 → ∀ V, Row V (some ⟨g, 0, none⟩) b → ∀ cc, Calls Tryd.prog 59 #[.slice (some ⟨g, lo, none⟩) (hi - lo) cc] V fun e w' => e = .returned (.int .u64 (gt (sl b lo hi))) ∧ V = w' := by
    intro lo hi e1 e2 e3 V hV cc
    have := get_any (n := hi - lo) (by rw [sl_length _ _ _ e2]) (hV.sl lo hi e1 e2) e3 cc
    simpa only [Nat.zero_add] using this
  have HA1 : Hid (∀ V, Row V (some ⟨g, 0, none⟩) b → Calls Tryd.prog 59 #[.slice (some ⟨g, 5, none⟩) 8 (c - 5)] V fun e w' => e = .returned (.int .u64 (gt (sl b 5 13))) ∧ V = w') := fun V hV => gA 5 13 (by omega) (by omega) (by omega) V hV _
  have HA2 : Hid (∀ V, Row V (some ⟨g, 0, none⟩) b → Calls Tryd.prog 59 #[.slice (some ⟨g, 13, none⟩) 8 (c - 13)] V fun e w' => e = .returned (.int .u64 (gt (sl b 13 21))) ∧ V = w') := fun V hV => gA 13 21 (by omega) (by omega) (by omega) V hV _
  have HA3 : Hid (∀ V, Row V (some ⟨g, 0, none⟩) b → Calls Tryd.prog 59 #[.slice (some ⟨g, 21, none⟩) 1 (c - 21)] V fun e w' => e = .returned (.int .u64 (gt (sl b 21 22))) ∧ V = w') := fun V hV => gA 21 22 (by omega) (by omega) (by omega) V hV _
  have HA4 : Hid (∀ V, Row V (some ⟨g, 0, none⟩) b → Calls Tryd.prog 59 #[.slice (some ⟨g, 22, none⟩) 1 (c - 22)] V fun e w' => e = .returned (.int .u64 (gt (sl b 22 23))) ∧ V = w') := fun V hV => gA 22 23 (by omega) (by omega) (by omega) V hV _
  have r3 := gt_range (sl b 21 22) (sl_bytes hr.bytes _ _)
  have r4 := gt_range (sl b 22 23) (sl_bytes hr.bytes _ _)
  rw [sl_length _ _ _ (by omega)] at r3 r4
  generalize gt (sl b 5 13) = T1 at *
  generalize gt (sl b 13 21) = T2 at *
  generalize gt (sl b 21 22) = T3 at *
  generalize gt (sl b 22 23) = T4 at *
  have w3 : IntKind.i64.wrap T3 = T3 := by rw [IntKind.wrap_i64]; have := r3.2; have := r3.1; omega
  have w4 : IntKind.i64.wrap T4 = T4 := by rw [IntKind.wrap_i64]; have := r4.2; have := r4.1; omega
  rw [← hno] at HG1
  generalize crc (sl b 5 (63 + L)) = S at *
  have bn : (S != S) = false := by simp
  have q23 : (23 : Int) < c := by omega
  have q27 : (27 : Int) ≤ c := by omega
  have q1 : (1 : Int) < c := by omega
  have q5 : (5 : Int) < c := by omega
  have q13 : (13 : Int) < c := by omega
  have q21 : (21 : Int) < c := by omega
  have q22 : (22 : Int) < c := by omega
  have q63 : (63 : Int) < c := by omega
  have n5 : ¬ c = 5 := by omega
  have n13 : ¬ c = 13 := by omega
  have n21 : ¬ c = 21 := by omega
  have n22 : ¬ c = 22 := by omega
  have n63 : ¬ c = 63 := by omega
  have i13 : (13 : Int) ≤ c := by omega
  have i21 : (21 : Int) ≤ c := by omega
  have i22 : (22 : Int) ≤ c := by omega
  have i23 : (23 : Int) ≤ c := by omega
  have iL : (63 : Int) + L ≤ c := by omega
  have iL0 : (0 : Int) ≤ 63 + L := by omega
  have iL1 : (63 : Int) ≤ 63 + L := by omega
  have iL2 : ((63 : Int) + L).toNat = 63 + L := by omega
  have qm : (0 : Int) < m := by omega
  have qm1 : ((m : Int) - 1).toNat = m - 1 := by omega
  have qw : IntKind.i64.wrap ((m : Int) - 1) = (m : Int) - 1 := by rw [IntKind.wrap_i64]; omega
  have qm2 : IntKind.u64.wrap ((m : Int) - 64) = (m : Int) - 64 := wraps_u64 _ (by omega) (by omega)
  have qz : ¬ ((m : Int) - 64 < (L : Int)) := by omega
  obtain ⟨hcr0, hcr1⟩ := hcr
  have HR : Hid (Row w1 (some ⟨g, 0, none⟩) b) := hr1
  clear hM hr hr1 hno h0 hl hZ r3 r4 gA
  go_enter Tryd.func55, Tryd.ntmps55
  go_wp2_with fail
  refine hG.mono ?_
  rintro e w' ⟨rfl, rfl⟩
  go_upto_region 5 with fail
  go_quiet (first | (go_at_call 10; exact quiet_eq (HS1.out _)) | (go_at_call 59; exact quiet_eq (HG1.out _)))
  go_upto_region 7 with fail
  refine wp_letter (fun V => Mem W V [(W.heap.size, .cells pc0 pcT (0, 0))] ∧ Row V (some ⟨g, 0, none⟩) b) ⟨HM.out.drewN _, row_drewN HR.out⟩ ?_
  rintro wx ⟨hMx, hrx⟩
  have kr := hMx.cell 0 rfl
  have kf := hMx.free 0 rfl
  have HMx : Hid (Mem W wx [(W.heap.size, .cells pc0 pcT (0, 0))]) := hMx
  clear hMx HM HS1 HG1 hG c0 cl HR hw1
  go_region_held3 (fun w' => Row w' (some ⟨g, 0, none⟩) b) (repeat (first | assumption | refine Row.setCell ?_ hne _ | refine row_drewN ?_ | refine row_drew ?_))
    (first
      | (go_at_call 59; with_reducible refine (HA1.out _ (by assumption)).mono ?_; rintro e w5 ⟨rfl, rfl⟩)
      | (go_at_call 59; with_reducible refine (HA2.out _ (by assumption)).mono ?_; rintro e w5 ⟨rfl, rfl⟩)
      | (go_at_call 59; with_reducible refine (HA3.out _ (by assumption)).mono ?_; rintro e w5 ⟨rfl, rfl⟩)
      | (go_at_call 59; with_reducible refine (HA4.out _ (by assumption)).mono ?_; rintro e w5 ⟨rfl, rfl⟩))
  all_goals go_wp2
  exact bodyPost_ret (v := .tuple #[.agg (pcA T1 (IntKind.i64.wrap T2) T3 T4 (.slice (some ⟨g, 63, none⟩) L (c - 63))), .nilIface]) (by simp [results, Tryd.results55, go_sem, kr]) rfl ⟨rfl, _, (((((HMx.out.set 0 rfl 0 _).set 0 rfl 1 _).set 0 rfl 2 _).set 0 rfl 3 _).set 0 rfl 4 _).drew⟩
end

/-- What a block's piece is told as. -/
def unfV (g c : Nat) (E : Value) : Option Pc → Value
  | none => .tuple #[.agg pc0, E]
  | some p => .tuple #[.agg (pcA p.t p.c p.i p.n (.slice (some ⟨g, 63, none⟩) p.b.length (c - 63))), .nilIface]
theorem unf_facts {b : List Int} {p : Pc} {m : Nat} (h : unf b = some p) (hlen : b.length = m) (hm0 : 256 ≤ m) (hb : IsBytes b) :
    p.b = sl b 63 (63 + p.b.length) ∧ p.b.length + 64 ≤ m ∧ (0 ≤ p.t ∧ p.t ≤ 18446744073709551615) ∧ (0 ≤ p.i ∧ p.i ≤ 255) ∧ (0 ≤ p.n ∧ p.n ≤ 255) ∧ (-9223372036854775808 ≤ p.c ∧ p.c ≤ 9223372036854775807) := by
  have rg : ∀ lo hi k, hi - lo = k → hi ≤ b.length → 0 ≤ gt (sl b lo hi) ∧ gt (sl b lo hi) < 256 ^ k := by
    intro lo hi k e1 e2
    have := gt_range (sl b lo hi) (sl_bytes hb lo hi)
    rwa [sl_length _ _ _ e2, e1] at this
  have r1 := rg 23 27 4 rfl (by omega)
  have r2 := rg 5 13 8 rfl (by omega)
  have r3 := rg 21 22 1 rfl (by omega)
  have r4 := rg 22 23 1 rfl (by omega)
  unfold unf at h
  split at h
  · cases h
  · rename_i h1
    split at h
    · cases h
    · simp only [Option.some.injEq] at h
      subst h
      have e1 : ¬ ((b.length : Int) - 64 < gt (sl b 23 27)) := fun e => h1 (Or.inr (Or.inr e))
      have hL : (sl b 63 (63 + (gt (sl b 23 27)).toNat)).length = (gt (sl b 23 27)).toNat := by rw [sl_length _ _ _ (by omega)]; omega
      refine ⟨by simp only [hL], by simp only [hL]; omega, ?_, ?_, ?_, ?_⟩
      · have := r2.2; have := r2.1; simp only; omega
      · have := r3.2; have := r3.1; simp only; omega
      · have := r4.2; have := r4.1; simp only; omega
      · simp only; rw [IntKind.wrap_i64]; omega
theorem unf_any {W : World} {g c m : Nat} {b : List Int} (hlen : b.length = m) (hm0 : 256 ≤ m) (hm1 : m ≤ 65536) (hr : Row W (some ⟨g, 0, none⟩) b) (hcap : m ≤ c) {t : TypeId} {v : Value} (hgl : W.cell? ⟨0, 0, none⟩ = some (.iface t v)) :
    Calls Tryd.prog 55 #[.slice (some ⟨g, 0, none⟩) m c] W fun e W' => e = .returned (unfV g c (.iface t v) (unf b)) ∧ ∃ K, Mem W W' K := by
  unfold unf
  rw [hlen]
  by_cases h1 : b.getD 0 0 ≠ 165 ∨ b.getD (m - 1) 0 ≠ 165 ∨ (m : Int) - 64 < gt (sl b 23 27)
  · rw [if_pos h1]
    exact unf_bad hlen hm0 hm1 hr hcap hgl h1
  · rw [if_neg h1]
    have e0 : b.getD 0 0 = 165 := Classical.byContradiction fun e => h1 (Or.inl e)
    have e1 : b.getD (m - 1) 0 = 165 := Classical.byContradiction fun e => h1 (Or.inr (Or.inl e))
    have e2 : ¬ ((m : Int) - 64 < gt (sl b 23 27)) := fun e => h1 (Or.inr (Or.inr e))
    have hz := (gt_range (sl b 23 27) (sl_bytes hr.bytes _ _)).1
    obtain ⟨k, hk⟩ : ∃ k : Nat, gt (sl b 23 27) = k := ⟨(gt (sl b 23 27)).toNat, by omega⟩
    by_cases h2 : crc (sl b 5 (63 + (gt (sl b 23 27)).toNat)) ≠ gt (sl b 1 5)
    · rw [if_pos h2]
      rw [hk, Int.toNat_natCast] at h2
      exact unf_sum hlen hm0 hm1 hr hcap hgl e0 e1 hk (by omega) h2
    · rw [if_neg h2]
      have h3 : crc (sl b 5 (63 + (gt (sl b 23 27)).toNat)) = gt (sl b 1 5) := Classical.byContradiction h2
      rw [hk, Int.toNat_natCast] at h3
      have hL : (sl b 63 (63 + k)).length = k := by rw [sl_length _ _ _ (by omega)]; omega
      have := unf_yes hlen hm0 hm1 hr hcap e0 e1 hk (by omega) h3
      simp only [unfV, hk, Int.toNat_natCast, hL]
      exact this
end Go.Proofs.YtbmpjlgfbiakoaaDoor
