/-
  The walk of lychlaw1.SumChanges where there are 2 to 2000 bytes: it answers true.
-/
import Derived.Test.YtlgkmoggdcjijaaBytes
import Derived.Deep.QuietTactic
import Derived.BigQuiet
namespace Go.Proofs.Ytlgkmoggdcjijaa
set_option linter.unusedVariables false
namespace Sm
theorem ofv_setw {l : List Int} (h : IsBytes l) (p : Nat) (x y : Int) (hp : 2 * p + 1 < l.length) : ofv (setw l p x y) = 65535 - foldv (tot l (cnt l.length) - wd l p + (x * 256 + y)) := by
  have hk : p < cnt l.length := by unfold cnt; omega
  unfold ofv
  rw [setw_len, tot_setw l p _ x y hp, if_pos hk]
theorem same_of (a b : Int) (h : a = b ∨ (a = 0 ∧ b = 65535) ∨ (a = 65535 ∧ b = 0)) : sameB a b = true := by
  simpa [sameB, or_assoc] using h
theorem fold_cases (T : Int) (h : 0 ≤ T) : (T = 0 ∧ foldv T = 0) ∨ (T ≠ 0 ∧ 1 ≤ foldv T ∧ foldv T ≤ 65535 ∧ (T - foldv T) % 65535 = 0) := by
  unfold foldv; split <;> omega
theorem changes_same {l : List Int} (h : IsBytes l) (p : Nat) (hp : 2 * p + 1 < l.length) (now : Int) (h0 : 0 ≤ now) (h1 : now ≤ 65535) :
    sameB (updv (ofv l) (wd l p) now) (ofv (setw l p (now / 256) (now % 256))) = true ∧ sameB (updv (updv (ofv l) (wd l p) now) now (wd l p)) (ofv l) = true := by
  have hk : p < cnt l.length := by unfold cnt; omega
  have hw := wd_range h p
  have hle := wd_le_tot h p _ hk
  rw [ofv_setw h p _ _ hp]
  unfold updv ofv
  generalize tot l (cnt l.length) = T at *
  generalize wd l p = v at *
  have e1 : (65535 - (65535 - foldv T)) + (65535 - v) + now = foldv T + (65535 - v) + now := by omega
  rw [e1]
  have e2 : T - v + (now / 256 * 256 + now % 256) = T - v + now := by omega
  rw [e2]
  have f0 := fold_cases T (by omega)
  have f1 := fold_cases (T - v + now) (by omega)
  have r0 := foldv_range T
  have f2 := fold_cases (foldv T + (65535 - v) + now) (by omega)
  have r2 := foldv_range (foldv T + (65535 - v) + now)
  have e3 : 65535 - (65535 - foldv (foldv T + (65535 - v) + now)) + (65535 - now) + v = foldv (foldv T + (65535 - v) + now) + (65535 - now) + v := by omega
  rw [e3]
  have f3 := fold_cases (foldv (foldv T + (65535 - v) + now) + (65535 - now) + v) (by omega)
  generalize foldv (foldv (foldv T + (65535 - v) + now) + (65535 - now) + v) = F3 at *
  generalize foldv (foldv T + (65535 - v) + now) = F2 at *
  generalize foldv (T - v + now) = F1 at *
  generalize foldv T = F0 at *
  constructor
  · apply same_of; omega
  · apply same_of; omega
end Sm
namespace sumChanges
open Go.RowKit
open Sm
set_option linter.unusedVariables false

set_option maxHeartbeats 600000 in
theorem core {w : World} {a : Option Addr} {l : List Int} {len0 : Nat} (h : Row w a l) (hlen : l.length = len0) (hlo : 2 ≤ len0) (hhi : len0 ≤ 2000) (cap : Nat) (at_ : Int) (g0 : -9223372036854775808 ≤ at_) (g1 : at_ ≤ 9223372036854775807)
    (now : Int) (n0 : 0 ≤ now) (n1 : now ≤ 65535) :
    Calls Try.prog 5 #[.slice a len0 cap, .int .i64 at_, .int .u16 now] w fun e w' => e = .returned (.bool true) ∧ Below w.heap.size w w' := by
  have hk := known_any w
  have hby := h.bytes
  have hne : l ≠ [] := by rintro rfl; simp at hlen; omega
  obtain ⟨b, off, rfl, hc⟩ : ∃ b off, a = some ⟨b, off, none⟩ ∧ ∀ i, i < l.length → w.cell? ⟨b, off + i, none⟩ = some (.int .u8 (l.getD i 0)) := by
    rcases h.cells with e | e
    · exact absurd e hne
    · exact e
  obtain ⟨i0, hi, hz0, hz1, hz2⟩ := info_parts info5
  subst hlen
  have hpr := plc_range at_ ((l.length : Int) / 2) (by omega)
  have hplace : ∀ w, Calls Try.prog 21 #[.int .i64 at_, .int .i64 ((l.length : Int) / 2)] w _ := fun w => place_any at_ ((l.length : Int) / 2) w g0 g1 (by omega) (by omega)
  obtain ⟨p, hp⟩ : ∃ p : Nat, plc at_ ((l.length : Int) / 2) = p := ⟨_, (Int.toNat_of_nonneg hpr.1).symm⟩
  rw [hp] at hplace hpr
  have hp1 : 2 * p + 1 < l.length := by omega
  have c0 := hc (2 * p) (by omega)
  have c1 := hc (2 * p + 1) hp1
  have r0 := hby (2 * p)
  have r1 := hby (2 * p + 1)
  obtain ⟨x0, hx0⟩ : ∃ x, l.getD (2 * p) 0 = x := ⟨_, rfl⟩
  obtain ⟨x1, hx1⟩ : ∃ x, l.getD (2 * p + 1) 0 = x := ⟨_, rfl⟩
  have hwd : wd l p = x0 * 256 + x1 := by unfold wd; rw [hx0, hx1]
  have HW : Hid (wd l p = x0 * 256 + x1) := hwd
  rw [hx0] at c0 r0
  rw [hx1] at c1 r1
  clear hp hc hne hwd hx0 hx1
  obtain ⟨r00, r01⟩ := r0
  obtain ⟨r10, r11⟩ := r1
  have hor := sm_word x0 x1 r00 r01 r10 r11
  have e0 : (2 * (p : Int)).toNat = 2 * p := by omega
  have e1 : (2 * (p : Int) + 1).toNat = 2 * p + 1 := by omega
  have cb0 := cell_lt c0
  go_enter Try.func5, Try.ntmps5
  go_wp2_with (first
    | (go_at_call 9; refine hk.mono ?_; rintro e w1 ⟨rfl, hbel⟩)
    | (go_at_call 21; refine (hplace _).mono ?_; rintro e w' ⟨rfl, rfl⟩)
    | (go_at_call 15; fail)
    | (at_builtin; refine wpList_append_own w1 rfl (.const (.slice none 0 0)) (.tmp 28) 23 rfl w1.heap.size 5 i0 (.int .u8 0) 1 1 Try.underlying23 hi hz0 hz1 hz2 rfl (by decide) (.slice none 0 0) 0 [] rfl (World.ownsRow_nil _ _ _ _) ⟨b, off, none⟩ l.length cap (l.map (Value.int .u8)) rfl (by simp) (h.below hbel (Nat.le_refl _)).news (ints_oneCell _ _) (by unfold maxLen; omega) (by omega) (Nat.le_refl _) ?_; intro v' w2 hown hgrow hnil; obtain ⟨g, cp, rfl, hg, hob⟩ := own_shape rfl hown (by omega); clear hown hnil))
  have hb2 : Below w.heap.size w w2 := hbel.grown hgrow hbel.size (fun k hk => by cases hk)
  have k0 : w2.cell? ⟨b, off + 2 * p, none⟩ = some (.int .u8 x0) := (hb2.cell (p := ⟨b, off + 2 * p, none⟩) cb0).trans c0
  have k1 : w2.cell? ⟨b, off + (2 * p + 1), none⟩ = some (.int .u8 x1) := (hb2.cell (p := ⟨b, off + (2 * p + 1), none⟩) cb0).trans c1
  have hgB : w.heap.size ≤ g := Nat.le_trans hbel.size hg
  clear c0 c1 hgrow hbel hk
  have q0 : (0 : Int) ≤ 2 * (p : Int) := by omega
  have q1 : 2 * (p : Int) < (l.length : Int) := by omega
  have q2 : 2 * (p : Int) + 1 < (l.length : Int) := by omega
  go_quiet (fail)
  have hob' : OwnB (w2.drewN nq) w1.heap.size g cp l := hob
  have hb3 : Below w.heap.size w (w2.drewN nq) := below_drewN hb2 nq
  clear hob hb2 k0 k1 q0 q1 q2 hor
  generalize w2.drewN nq = w3 at hob' hb3 ⊢
  have hrow3 := h.below hb3 (Nat.le_refl _)
  have d0 := hob'.cell (2 * p) (by omega)
  have d1 := hob'.free (2 * p)
  have hob1 := hob'.store (2 * p) (now / 256)
  have d2 := hob1.cell (2 * p + 1) (by simpa using hp1)
  have d3 := hob1.free (2 * p + 1)
  have hob2 := hob1.store (2 * p + 1) (now % 256)
  go_wp2_with fail
  have hb4 := (hb3.setCell (p := ⟨g, 2 * p, none⟩) hgB (.int .u8 (now / 256))).setCell (p := ⟨g, 2 * p + 1, none⟩) hgB (.int .u8 (now % 256))
  clear d0 d1 d2 d3 hob1 hob' hb3 hrow3
  generalize (w3.setCell ⟨g, 2 * p, none⟩ (.int .u8 (now / 256))).setCell ⟨g, 2 * p + 1, none⟩ (.int .u8 (now % 256)) = W4 at hob2 hb4 ⊢
  change OwnB W4 w1.heap.size g cp (setw l p (now / 256) (now % 256)) at hob2
  have hby1 := setw_bytes hby p (now / 256) (now % 256) hp1 ⟨by omega, by omega⟩ ⟨by omega, by omega⟩
  have hl1 : (setw l p (now / 256) (now % 256)).length = l.length := setw_len _ _ _ _
  have hrow4 := h.below hb4 (Nat.le_refl _)
  have cO := of_any hrow4 cap
  have cN := of_any (hob2.row hby1 (by omega)) cp
  rw [hl1] at cN
  have hsm := changes_same hby p hp1 now n0 n1
  have hr1 := ofv_range l
  have hr2 := ofv_range (setw l p (now / 256) (now % 256))
  have hr3 := updv_range (ofv l) (wd l p) now
  have hr4 := updv_range (updv (ofv l) (wd l p) now) now (wd l p)
  rw [HW.out] at hsm hr3 hr4
  obtain ⟨v, hv⟩ : ∃ v, x0 * 256 + x1 = v := ⟨_, rfl⟩
  have hv0 : 0 ≤ v := by omega
  have hv1 : v ≤ 65535 := by omega
  rw [hv] at hsm hr3 hr4 ⊢
  clear hv HW r00 r01 r10 r11 hl1 hby1 hob2 hrow4 h hby
  generalize ofv (setw l p (now / 256) (now % 256)) = fresh at cN hsm hr2
  generalize ofv l = old at cO hsm hr1 hr3 hr4
  have cU : ∀ w, Calls Try.prog 22 #[.int .u16 old, .int .u16 v, .int .u16 now] w _ := fun w => update_any old v now w hr1.1 hr1.2 hv0 hv1 n0 n1
  have cR : ∀ w, Calls Try.prog 23 #[.int .u16 old, .int .u16 v, .int .u16 now] w _ := fun w => rupdate_any old v now w hr1.1 hr1.2 hv0 hv1 n0 n1
  generalize updv old v now = got at cU cR hsm hr3 hr4
  have cB : ∀ w, Calls Try.prog 22 #[.int .u16 got, .int .u16 now, .int .u16 v] w _ := fun w => update_any got now v w hr3.1 hr3.2 n0 n1 hv0 hv1
  generalize updv got now v = back at cB hsm hr4
  have s1 : ∀ w, Calls Try.prog 24 #[.int .u16 got, .int .u16 fresh] w _ := fun w => same_yes got fresh w hsm.1
  have s2 : ∀ w, Calls Try.prog 24 #[.int .u16 back, .int .u16 old] w _ := fun w => same_yes back old w hsm.2
  clear hsm
  refine cO.mono ?_
  rintro e w' ⟨rfl, rfl⟩
  go_wp2_with fail
  refine cN.mono ?_
  rintro e w' ⟨rfl, rfl⟩
  go_wp2_with fail
  refine (cU _).mono ?_
  rintro e w' ⟨rfl, rfl⟩
  go_wp2_with fail
  refine (cB _).mono ?_
  rintro e w' ⟨rfl, rfl⟩
  go_wp2_with fail
  refine (cR _).mono ?_
  rintro e w' ⟨rfl, rfl⟩
  go_wp2_with fail
  refine (s1 _).mono ?_
  rintro e w' ⟨rfl, rfl⟩
  go_wp2_with fail
  refine (s2 _).mono ?_
  rintro e w' ⟨rfl, rfl⟩
  go_wp2_with fail
  go_ret
  exact ⟨rfl, hb4⟩
end sumChanges
end Go.Proofs.Ytlgkmoggdcjijaa
