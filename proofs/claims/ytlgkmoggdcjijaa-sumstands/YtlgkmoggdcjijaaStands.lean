/-
  The walk of lychlaw1.SumStands where there are 2 to 2000 bytes: it answers true.
-/
import Derived.Test.YtlgkmoggdcjijaaBytes
namespace Go.Proofs.Ytlgkmoggdcjijaa.sumStands
open Go.RowKit
open Sm
set_option linter.unusedVariables false

set_option maxHeartbeats 2000000 in
theorem core {w : World} {a : Option Addr} {l : List Int} {len0 : Nat} (h : Row w a l) (hlen : l.length = len0) (hlo : 2 ≤ len0) (hhi : len0 ≤ 2000) (cap : Nat) (at_ : Int) (g0 : -9223372036854775808 ≤ at_) (g1 : at_ ≤ 9223372036854775807) :
    Calls Try.prog 6 #[.slice a len0 cap, .int .i64 at_] w fun e w' => e = .returned (.bool true) ∧ Below w.heap.size w w' := by
  have hk := known_any w
  have hby := h.bytes
  have hne : l ≠ [] := by rintro rfl; simp at hlen; omega
  obtain ⟨b, off, rfl, hc⟩ : ∃ b off, a = some ⟨b, off, none⟩ ∧ ∀ i, i < l.length → w.cell? ⟨b, off + i, none⟩ = some (.int .u8 (l.getD i 0)) := by
    rcases h.cells with e | e
    · exact absurd e hne
    · exact e
  obtain ⟨i0, hi, hz0, hz1, hz2⟩ := info_parts info5
  subst hlen
  have hpr := plc_range at_ ((l.length : Int) / 2) (by omega)
  have hplace : ∀ w, Calls Try.prog 21 #[.int .i64 at_, .int .i64 ((l.length : Int) / 2)] w _ := fun w => place_any at_ ((l.length : Int) / 2) w g0 g1 (by omega) (by omega)
  obtain ⟨p, hp⟩ : ∃ p : Nat, plc at_ ((l.length : Int) / 2) = p := ⟨_, (Int.toNat_of_nonneg hpr.1).symm⟩
  rw [hp] at hplace hpr
  have hp1 : 2 * p + 1 < l.length := by omega
  clear hp hc hne
  have e0 : (2 * (p : Int)).toNat = 2 * p := by omega
  have e1 : (2 * (p : Int) + 1).toNat = 2 * p + 1 := by omega
  go_enter Try.func6, Try.ntmps6
  go_wp2_with (first
    | (go_at_call 9; refine hk.mono ?_; rintro e w1 ⟨rfl, hbel⟩)
    | (go_at_call 21; refine (hplace _).mono ?_; rintro e w' ⟨rfl, rfl⟩)
    | (go_at_call 15; fail)
    | (at_builtin; refine wpList_append_own w1 rfl (.const (.slice none 0 0)) (.tmp 22) 23 rfl w1.heap.size 5 i0 (.int .u8 0) 1 1 Try.underlying23 hi hz0 hz1 hz2 rfl (by decide) (.slice none 0 0) 0 [] rfl (World.ownsRow_nil _ _ _ _) ⟨b, off, none⟩ l.length cap (l.map (Value.int .u8)) rfl (by simp) (h.below hbel (Nat.le_refl _)).news (ints_oneCell _ _) (by unfold maxLen; omega) (by omega) (Nat.le_refl _) ?_; intro v' w2 hown hgrow hnil; obtain ⟨g, cp, rfl, hg, hob⟩ := own_shape rfl hown (by omega); clear hown hnil; have d0 := hob.cell (2 * p) (by omega); have d1 := hob.free (2 * p); have hob1 := hob.store (2 * p) 0; have d2 := hob1.cell (2 * p + 1) (by simpa using hp1); have d3 := hob1.free (2 * p + 1); have hob2 := hob1.store (2 * p + 1) 0))
  have hb2 : Below w.heap.size w w2 := hbel.grown hgrow hbel.size (fun k hk => by cases hk)
  have hb3 := (hb2.setCell (p := ⟨g, 2 * p, none⟩) (Nat.le_trans hbel.size hg) (.int .u8 0)).setCell (p := ⟨g, 2 * p + 1, none⟩) (Nat.le_trans hbel.size hg) (.int .u8 0)
  have hgB : w.heap.size ≤ g := Nat.le_trans hbel.size hg
  clear d0 d1 d2 d3 hob1 hob hb2 hgrow hbel hk h
  generalize (w2.setCell ⟨g, 2 * p, none⟩ (.int .u8 0)).setCell ⟨g, 2 * p + 1, none⟩ (.int .u8 0) = W3 at hob2 hb3 ⊢
  change OwnB W3 w1.heap.size g cp (setw l p 0 0) at hob2
  have hby1 := setw_bytes hby p 0 0 hp1 ⟨by omega, by omega⟩ ⟨by omega, by omega⟩
  have hl1 : (setw l p 0 0).length = l.length := setw_len _ _ _ _
  have cO := of_any (hob2.row hby1 (by omega)) cp
  rw [hl1] at cO
  refine cO.mono ?_
  rintro e W3' ⟨rfl, rfl⟩
  have hst := stands hby p hp1
  have hr := ofv_range (setw l p 0 0)
  obtain ⟨s, hs⟩ : ∃ s, ofv (setw l p 0 0) = s := ⟨_, rfl⟩
  rw [hs] at hr hst ⊢
  clear cO hs
  obtain ⟨hr0, hr1⟩ := hr
  have d0 := hob2.cell (2 * p) (by omega)
  have d1 := hob2.free (2 * p)
  have hob3 := hob2.store (2 * p) (s / 256)
  have d2 := hob3.cell (2 * p + 1) (by simp; omega)
  have d3 := hob3.free (2 * p + 1)
  have hob4 := hob3.store (2 * p + 1) (s % 256)
  change OwnB _ w1.heap.size g cp (setw (setw l p 0 0) p (s / 256) (s % 256)) at hob4
  have hby2 := setw_bytes hby1 p (s / 256) (s % 256) (by omega) ⟨by omega, by omega⟩ ⟨by omega, by omega⟩
  have hl2 : (setw (setw l p 0 0) p (s / 256) (s % 256)).length = l.length := by rw [setw_len, hl1]
  have hra := acc_range hby2 0 (by omega) (by omega) (cnt l.length)
  have cA := add_any (hob4.row hby2 (by omega)) cp 0 (by omega) (by omega)
  rw [hl2] at cA
  have hb4 := (hb3.setCell (p := ⟨g, 2 * p, none⟩) hgB (.int .u8 (s / 256))).setCell (p := ⟨g, 2 * p + 1, none⟩) hgB (.int .u8 (s % 256))
  obtain ⟨A, hA⟩ : ∃ A, acc (setw (setw l p 0 0) p (s / 256) (s % 256)) 0 (cnt l.length) = A := ⟨_, rfl⟩
  rw [hA] at cA hst hra
  clear hA hob2 hob3 hob4 hb3 hby hby1 hby2 hl1 hl2
  obtain ⟨ha0, ha1⟩ := hra
  have cF : ∀ w, Calls Try.prog 17 #[.int .u32 A] w _ := fun w => fold_any A w ha0 ha1
  rw [hst] at cF
  clear hst
  go_wp2_with (first
    | (go_at_call 13; refine cA.mono ?_; rintro e w' ⟨rfl, rfl⟩)
    | (go_at_call 17; refine (cF _).mono ?_; rintro e w' ⟨rfl, rfl⟩))
  go_ret
  exact ⟨rfl, hb4⟩
end Go.Proofs.Ytlgkmoggdcjijaa.sumStands
