/-
  The walk of lychlaw1.SumSwaps where there are 2 to 2000 bytes: it answers true.
-/
import Derived.Test.YtlgkmoggdcjijabBytes
import Derived.Deep.RegionHeld3
namespace Go.Proofs.Ytlgkmoggdcjijab
open Go.RowKit
open Sm
set_option linter.unusedVariables false

namespace sumSwaps
theorem swaps {l : List Int} {p q : Nat} {x0 x1 x2 x3 : Int} (hp : 2 * p + 1 < l.length) (hq : 2 * q + 1 < l.length) (h0 : wd l q = x0 * 256 + x1) (h1 : wd l p = x2 * 256 + x3) :
    ofv (setw (setw l p x0 x1) q x2 x3) = ofv l := by
  have kp : p < cnt l.length := by unfold cnt; omega
  have kq : q < cnt l.length := by unfold cnt; omega
  unfold ofv
  rw [setw_len, setw_len, tot_setw _ q _ _ _ (by rw [setw_len]; exact hq), if_pos kq, tot_setw l p _ _ _ hp, if_pos kp, wd_setw l p q _ _ hp]
  congr 2
  split <;> omega

set_option maxHeartbeats 2000000 in
theorem core {w : World} {a : Option Addr} {l : List Int} {len0 : Nat} (h : Row w a l) (hlen : l.length = len0) (hlo : 2 ≤ len0) (hhi : len0 ≤ 2000) (cap : Nat) (i_ k_ : Int) (g0 : -9223372036854775808 ≤ i_) (g1 : i_ ≤ 9223372036854775807) (g2 : -9223372036854775808 ≤ k_) (g3 : k_ ≤ 9223372036854775807) :
    Calls Try.prog 3 #[.slice a len0 cap, .int .i64 i_, .int .i64 k_] w fun e w' => e = .returned (.bool true) ∧ Below w.heap.size w w' := by
  have hk := known_any w
  have hby := h.bytes
  have hne : l ≠ [] := by rintro rfl; simp at hlen; omega
  obtain ⟨b, off, rfl, hc⟩ : ∃ b off, a = some ⟨b, off, none⟩ ∧ ∀ i, i < l.length → w.cell? ⟨b, off + i, none⟩ = some (.int .u8 (l.getD i 0)) := by
    rcases h.cells with e | e
    · exact absurd e hne
    · exact e
  obtain ⟨i0, hi, hz0, hz1, hz2⟩ := info_parts info5
  subst hlen
  have hpr := plc_range i_ ((l.length : Int) / 2) (by omega)
  have hqr := plc_range k_ ((l.length : Int) / 2) (by omega)
  have cp1 : ∀ w, Calls Try.prog 5 #[.int .i64 i_, .int .i64 ((l.length : Int) / 2)] w _ := fun w => place_any i_ ((l.length : Int) / 2) w g0 g1 (by omega) (by omega)
  have cp2 : ∀ w, Calls Try.prog 5 #[.int .i64 k_, .int .i64 ((l.length : Int) / 2)] w _ := fun w => place_any k_ ((l.length : Int) / 2) w g2 g3 (by omega) (by omega)
  obtain ⟨P, hp⟩ : ∃ P : Int, plc i_ ((l.length : Int) / 2) = P := ⟨_, rfl⟩
  obtain ⟨Q, hq⟩ : ∃ Q : Int, plc k_ ((l.length : Int) / 2) = Q := ⟨_, rfl⟩
  rw [hp] at cp1 hpr
  rw [hq] at cp2 hqr
  obtain ⟨hpr0, hpr1⟩ := hpr
  obtain ⟨hqr0, hqr1⟩ := hqr
  obtain ⟨p, HP⟩ : ∃ p : Nat, Hid (P = p) := ⟨P.toNat, (Int.toNat_of_nonneg hpr0).symm⟩
  obtain ⟨q, HQ⟩ : ∃ q : Nat, Hid (Q = q) := ⟨Q.toNat, (Int.toNat_of_nonneg hqr0).symm⟩
  have hp1 : 2 * p + 1 < l.length := by have := HP.out; omega
  have hq1 : 2 * q + 1 < l.length := by have := HQ.out; omega
  have cb := cell_lt (hc 0 (by omega))
  clear hp hq hne
  go_enter Try.func3, Try.ntmps3
  go_wp2_with fail
  refine hk.mono ?_
  rintro e w1 ⟨rfl, hbel⟩
  go_wp2_with fail
  refine (cp1 _).mono ?_
  rintro e w' ⟨rfl, rfl⟩
  go_wp2_with fail
  refine (cp2 _).mono ?_
  rintro e w' ⟨rfl, rfl⟩
  clear cp1 cp2
  go_wp2_with (at_builtin; refine wpList_append_own w1 rfl (.const (.slice none 0 0)) (.tmp 28) 22 rfl w1.heap.size 5 i0 (.int .u8 0) 1 1 Try.underlying22 hi hz0 hz1 hz2 rfl (by decide) (.slice none 0 0) 0 [] rfl (World.ownsRow_nil _ _ _ _) ⟨b, off, none⟩ l.length cap (l.map (Value.int .u8)) rfl (by simp) (h.below hbel (Nat.le_refl _)).news (ints_oneCell _ _) (by unfold maxLen; omega) (by omega) (Nat.le_refl _) ?_; intro v' w2 hown hgrow hnil; obtain ⟨g, cp, rfl, hg, hob⟩ := own_shape rfl hown (by omega); clear hown hnil)
  have hb2 : Below w.heap.size w w2 := hbel.grown hgrow hbel.size (fun k hk => by cases hk)
  have hgB : w.heap.size ≤ g := Nat.le_trans hbel.size hg
  have hc2 : ∀ i, i < l.length → w2.cell? ⟨b, off + i, none⟩ = some (.int .u8 (l.getD i 0)) := fun i hi => (hb2.cell (p := ⟨b, off + i, none⟩) (by simpa using cb)).trans (hc i hi)
  have k0 := hc2 (2 * q) (by omega)
  have k1 := hc2 (2 * q + 1) hq1
  have k2 := hc2 (2 * p) (by omega)
  have k3 := hc2 (2 * p + 1) hp1
  have H0 : Hid (wd l q = l.getD (2 * q) 0 * 256 + l.getD (2 * q + 1) 0) := rfl
  have H1 : Hid (wd l p = l.getD (2 * p) 0 * 256 + l.getD (2 * p + 1) 0) := rfl
  have r0 := hby (2 * q)
  have r1 := hby (2 * q + 1)
  have r2 := hby (2 * p)
  have r3 := hby (2 * p + 1)
  generalize l.getD (2 * q) 0 = x0 at k0 r0 H0
  generalize l.getD (2 * q + 1) 0 = x1 at k1 r1 H0
  generalize l.getD (2 * p) 0 = x2 at k2 r2 H1
  generalize l.getD (2 * p + 1) 0 = x3 at k3 r3 H1
  have hbg : b ≠ g := by
    have : b < w.heap.size := by simpa using cb
    omega
  have hgb : g ≠ b := fun e => hbg e.symm
  have d0 := hob.cell (2 * p) (by omega)
  have d1 := hob.free (2 * p)
  have hob1 := hob.store (2 * p) x0
  have d2 := hob1.cell (2 * p + 1) (by simpa using hp1)
  have d3 := hob1.free (2 * p + 1)
  have hob2 := hob1.store (2 * p + 1) x1
  have d4 := hob2.cell (2 * q) (by simp; omega)
  have d5 := hob2.free (2 * q)
  have hob3 := hob2.store (2 * q) x2
  have d6 := hob3.cell (2 * q + 1) (by simpa using hq1)
  have d7 := hob3.free (2 * q + 1)
  have hob4 := hob3.store (2 * q + 1) x3
  have e0 : (2 * P).toNat = 2 * p := by have := HP.out; omega
  have e1 : (2 * P + 1).toNat = 2 * p + 1 := by have := HP.out; omega
  have e2 : (2 * Q).toNat = 2 * q := by have := HQ.out; omega
  have e3 : (2 * Q + 1).toNat = 2 * q + 1 := by have := HQ.out; omega
  have q0 : (0 : Int) ≤ 2 * P := by omega
  have q1 : 2 * P < (l.length : Int) := by omega
  have q2 : 2 * P + 1 < (l.length : Int) := by omega
  have q3 : (0 : Int) ≤ 2 * Q := by omega
  have q4 : 2 * Q < (l.length : Int) := by omega
  have q5 : 2 * Q + 1 < (l.length : Int) := by omega
  have q6 : (0 : Int) ≤ 2 * P + 1 := by omega
  have q7 : (0 : Int) ≤ 2 * Q + 1 := by omega
  have t0 : IntKind.i64.wrap (2 * P) = 2 * P := by rw [IntKind.wrap_i64]; omega
  have t1 : IntKind.i64.wrap (2 * P + 1) = 2 * P + 1 := by rw [IntKind.wrap_i64]; omega
  have t2 : IntKind.i64.wrap (2 * Q) = 2 * Q := by rw [IntKind.wrap_i64]; omega
  have t3 : IntKind.i64.wrap (2 * Q + 1) = 2 * Q + 1 := by rw [IntKind.wrap_i64]; omega
  clear hc hc2 hgrow hbel hk hob1 hob2 hob3 hob
  go_region_held3 (fun w' => w'.cell? ⟨b, off + 2 * q, none⟩ = some (.int .u8 x0) ∧ w'.cell? ⟨b, off + (2 * q + 1), none⟩ = some (.int .u8 x1) ∧ w'.cell? ⟨b, off + 2 * p, none⟩ = some (.int .u8 x2) ∧ w'.cell? ⟨b, off + (2 * p + 1), none⟩ = some (.int .u8 x3)) (go_keep) (fail)
  have hbW : Below w.heap.size w ((((w2.setCell ⟨g, 2 * p, none⟩ (.int .u8 x0)).setCell ⟨g, 2 * p + 1, none⟩ (.int .u8 x1)).setCell ⟨g, 2 * q, none⟩ (.int .u8 x2)).setCell ⟨g, 2 * q + 1, none⟩ (.int .u8 x3)).drew :=
    ((((hb2.setCell (p := ⟨g, 2 * p, none⟩) hgB _).setCell (p := ⟨g, 2 * p + 1, none⟩) hgB _).setCell (p := ⟨g, 2 * q, none⟩) hgB _).setCell (p := ⟨g, 2 * q + 1, none⟩) hgB _).drew
  have hobW : OwnB ((((w2.setCell ⟨g, 2 * p, none⟩ (.int .u8 x0)).setCell ⟨g, 2 * p + 1, none⟩ (.int .u8 x1)).setCell ⟨g, 2 * q, none⟩ (.int .u8 x2)).setCell ⟨g, 2 * q + 1, none⟩ (.int .u8 x3)).drew w1.heap.size g cp (setw (setw l p x0 x1) q x2 x3) := hob4
  clear d0 d1 d2 d3 d4 d5 d6 d7 hob4 k0 k1 k2 k3
  generalize ((((w2.setCell ⟨g, 2 * p, none⟩ (.int .u8 x0)).setCell ⟨g, 2 * p + 1, none⟩ (.int .u8 x1)).setCell ⟨g, 2 * q, none⟩ (.int .u8 x2)).setCell ⟨g, 2 * q + 1, none⟩ (.int .u8 x3)).drew = W at hbW hobW ⊢
  have hl1 : (setw (setw l p x0 x1) q x2 x3).length = l.length := by rw [setw_len, setw_len]
  have hby1 := setw_bytes hby p x0 x1 hp1 r0 r1
  have hby2 := setw_bytes hby1 q x2 x3 (by rw [setw_len]; exact hq1) r2 r3
  have c1 := of_any (hobW.row hby2 (by omega)) cp
  rw [swaps hp1 hq1 H0.out H1.out, hl1] at c1
  have c2 := of_any (h.below hbW (Nat.le_refl _)) cap
  clear e0 e1 e2 e3 t0 t1 t2 t3 hobW hby1 hby2 hl1
  go_wp2_with fail
  refine c1.mono ?_
  rintro e w' ⟨rfl, rfl⟩
  go_wp2_with fail
  refine c2.mono ?_
  rintro e w' ⟨rfl, rfl⟩
  go_wp2_with fail
  go_ret
  exact ⟨rfl, hbW⟩
end sumSwaps
end Go.Proofs.Ytlgkmoggdcjijab
