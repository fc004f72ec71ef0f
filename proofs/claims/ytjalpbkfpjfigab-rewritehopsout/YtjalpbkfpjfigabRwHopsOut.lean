/-
  lychlaw8.RewriteHopsOut answers true: a packet goes just as many hops as it has left.
-/
import Derived.Test.YtjalpbkfpjfigabRwKnownAll
namespace Go.Proofs.Ytjalpbkfpjfigab
open Go.RowKit
open Sm
set_option linter.unusedVariables false
set_option maxRecDepth 20000

namespace Sm
/-- A packet without options and body, with t hops left. -/
def hq (t pr : Int) : Pk := ⟨0, t, pr, 0, 0, 0, 1, 2, [], []⟩
def hl (t pr : Int) : List Int := ipb (hq t pr)
theorem hq_ok {t pr : Int} (ht : 0 ≤ t ∧ t ≤ 255) (hp : 0 ≤ pr ∧ pr ≤ 255) : (hq t pr).Ok :=
  ⟨by simp [hq], ht, hp, by simp [hq], by simp [hq], by simp [hq], by simp [hq], by simp [hq], bytes_nil, bytes_nil⟩
theorem hq_fits (t pr : Int) : Fits (hq t pr) := ⟨rfl, by simp [hq], by simp [hq], by simp [hq], by simp [hq]⟩
theorem hl_out (t pr : Int) : ipOut (hq t pr) = hl t pr := by unfold ipOut; rw [if_pos ((fits_iff _).mpr (hq_fits t pr))]; rfl
theorem hl_err (t pr : Int) : ipbErr (hq t pr) = 0 := (fits_iff _).mpr (hq_fits t pr)
theorem hl_len (t pr : Int) : (hl t pr).length = 20 := by unfold hl; rw [ipb_len]; rfl
theorem hl_bytes {t pr : Int} (ht : 0 ≤ t ∧ t ≤ 255) (hp : 0 ≤ pr ∧ pr ≤ 255) : IsBytes (hl t pr) := ipb_bytes (hq_ok ht hp) (hq_fits t pr)
theorem hl_ttl (t pr : Int) : (hl t pr).getD 8 0 = t := rfl
theorem hl_parse {t pr : Int} (ht : 0 ≤ t ∧ t ≤ 255) (hp : 0 ≤ pr ∧ pr ≤ 255) : ipErr (hl t pr) = 0 ∧ ipPk (hl t pr) = hq t pr := by
  have a := back_err (hq_ok ht hp) (hq_fits t pr) []
  have b := back_pk (hq_ok ht hp) (hq_fits t pr) []
  rw [List.append_nil] at a b
  exact ⟨a, b⟩
theorem hl_hop {t pr : Int} (ht : 1 ≤ t ∧ t ≤ 255) (hp : 0 ≤ pr ∧ pr ≤ 255) : hopErr (hl t pr) = 0 ∧ hopOut (hl t pr) = hl (t - 1) pr := by
  obtain ⟨a, b⟩ := hl_parse (t := t) (by omega) hp
  have e : (hq t pr).hop = hq (t - 1) pr := rfl
  have z : ¬ (hq t pr).ttl = 0 := by show ¬ t = 0; omega
  unfold hopErr hopOut
  rw [a, b, if_neg (by omega), if_neg z, if_neg (by omega), if_neg z, e, hl_out, hl_err]
  exact ⟨rfl, rfl⟩
theorem hl_end {pr : Int} (hp : 0 ≤ pr ∧ pr ≤ 255) : hopErr (hl 0 pr) = 21 := by
  obtain ⟨a, b⟩ := hl_parse (t := 0) (by omega) hp
  have z : (hq 0 pr).ttl = 0 := rfl
  unfold hopErr
  rw [a, b, if_neg (by omega), if_pos z]
end Sm

set_option maxHeartbeats 4000000 in
theorem hopsout_core (w : World) (ttl pr : Int) (h0 : 0 ≤ ttl) (h1 : ttl ≤ 255) (p0 : 0 ≤ pr) (p1 : pr ≤ 255) :
    Calls Try.prog 4 #[.int .u8 ttl, .int .u8 pr] w fun e w' => e = .returned (.bool true) ∧ Below w.heap.size w w' := by
  have hk := rknown_any w
  obtain ⟨T, hT⟩ : ∃ T : Nat, ttl % 40 = (T : Int) := ⟨(ttl % 40).toNat, by omega⟩
  have hT40 : (T : Int) < 40 := by omega
  have hTw : IntKind.i64.wrap (T : Int) = T := wrap64_small _ (by omega) (by omega)
  have HP : Hid (0 ≤ pr ∧ pr ≤ 255) := ⟨p0, p1⟩
  have HT : Hid (T < 40) := by show T < 40; omega
  go_enter Try.func4, Try.ntmps4
  go_wp2_with fail
  refine hk.mono ?_
  rintro e w1 ⟨rfl, hb1⟩
  have HB1 : Hid _ := hb1
  have hv : IpV w1 0 (.agg (ipA 0 T pr 0 0 0 1 2 (.slice none 0 0) (.slice none 0 0))) (hq T pr) := ⟨none, 0, none, 0, rfl, row_nil w1, row_nil w1, fun _ => rfl, fun _ => rfl, fun x hx => (by cases hx), fun x hx => (by cases hx)⟩
  have hB := rbytes_any (hq_ok (t := T) (by have := HT.out; omega) HP.out) hv
  rw [hl_err, hl_out, hl_len] at hB
  clear hk hb1 hv
  go_wp2_with fail
  refine hB.mono ?_
  rintro e w2 ⟨u, rfl, hown, hb2⟩
  obtain ⟨a, c, hu, hrow, -, -, hca⟩ := own_read hown (hl_len T pr) (hl_bytes (t := T) (by have := HT.out; omega) HP.out) (by rw [hl_len]; decide)
  subst hu
  have HS : Hid (Row w2 a (hl T pr) ∧ 20 ≤ c ∧ Below w.heap.size w w2) := ⟨hrow, hca, HB1.out.trans (hb2.mono HB1.out.size)⟩
  clear hB hown hb2 hrow hca HB1
  go_wp2_with fail
  go_loopw [5, 7] (fun v i wr => ∃ (k : Nat) (a : Option Addr) (c : Nat), k ≤ T ∧ i = .int .i64 k ∧ v = .slice a 20 c ∧ Row wr a (hl ((T : Int) - k) pr) ∧ 20 ≤ c ∧ Below w.heap.size w wr) (fun _ i _ => T - (intOf i).toNat)
  case atStart => exact ⟨0, a, c, Nat.zero_le _, rfl, rfl, by simpa using HS.out.1, HS.out.2.1, HS.out.2.2⟩
  case round =>
    clear HS
    obtain ⟨k, a, c, hkT, rfl, rfl, hrow, hc, hbel⟩ := hrel
    have HBl : Hid _ := hbel
    by_cases hlt : k < T
    · have hlt' : (k : Int) < T := by omega
      have hkw : IntKind.i64.wrap ((k : Int) + 1) = (k : Int) + 1 := wrap64_small _ (by omega) (by omega)
      obtain ⟨q1, q2⟩ := hl_hop (t := (T : Int) - k) (by have := HT.out; omega) HP.out
      have hH := hop_any hrow (hl_len _ _) hc
      rw [q1, q2, hl_len] at hH
      have HR : Hid _ := hrow
      have HQ : Hid (0 ≤ (T : Int) - k - 1 ∧ (T : Int) - k - 1 ≤ 255) := ⟨by omega, by omega⟩
      clear q1 q2 hrow hbel
      go_wp2_with fail
      refine hH.mono ?_
      rintro e w3 ⟨u, rfl, hown, hb3⟩
      obtain ⟨d, cd, hu, hrowd, -, -, hcd⟩ := own_read hown (hl_len _ _) (hl_bytes HQ.out HP.out) (by rw [hl_len]; decide)
      subst hu
      have hrow3 := HR.out.below hb3 (Nat.le_refl _)
      obtain ⟨b1, o1, rfl, hc1⟩ : ∃ b1 o1, a = some ⟨b1, o1, none⟩ ∧ w3.cell? ⟨b1, o1 + 8, none⟩ = some (.int .u8 ((T : Int) - k)) := by
        rcases hrow3.cells with e | ⟨b1, o1, rfl, hc⟩
        · have := hl_len ((T : Int) - k) pr; rw [e] at this; simp at this
        · exact ⟨b1, o1, rfl, by have := hc 8 (by rw [hl_len]; decide); rw [hl_ttl] at this; exact this⟩
      obtain ⟨b2, o2, rfl, hc2⟩ : ∃ b2 o2, d = some ⟨b2, o2, none⟩ ∧ w3.cell? ⟨b2, o2 + 8, none⟩ = some (.int .u8 ((T : Int) - k - 1)) := by
        rcases hrowd.cells with e | ⟨b1, o1, rfl, hc⟩
        · have := hl_len ((T : Int) - k - 1) pr; rw [e] at this; simp at this
        · exact ⟨b1, o1, rfl, by have := hc 8 (by rw [hl_len]; decide); rw [hl_ttl] at this; exact this⟩
      have z8 : IntKind.u8.wrap ((T : Int) - k - 1) = (T : Int) - k - 1 := wrap8_small _ HQ.out.1 HQ.out.2
      have HRd : Hid (Row w3 (some ⟨b2, o2, none⟩) (hl ((T : Int) - k - 1) pr) ∧ 20 ≤ cd ∧ Below w.heap.size w w3) := ⟨hrowd, hcd, HBl.out.trans (hb3.mono HBl.out.size)⟩
      clear hH hown hrow3 hrowd hcd hb3 HR HBl hc
      generalize hX : (T : Int) - k = X at *
      have HX : Hid _ := hX
      clear hX
      go_wp2_with fail
      go_quiet (fail)
      go_wp2_with fail
      go_roundw
      case rel =>
        refine ⟨k + 1, some ⟨b2, o2, none⟩, cd, by omega, by go_num, rfl, ?_, HRd.out.2.1, below_drewN HRd.out.2.2 _⟩
        have e : (T : Int) - ((k + 1 : Nat) : Int) = X - 1 := by have := HX.out; omega
        rw [e]
        exact row_drewN HRd.out.1
      case measure => simp [intOf]; omega
    · have hkT' : k = T := by omega
      subst hkT'
      have hlt' : ¬ (k : Int) < k := by omega
      rw [show (k : Int) - k = 0 by omega] at hrow
      have hH := hop_any hrow (hl_len _ _) hc
      rw [hl_end HP.out] at hH
      clear hrow hbel hc
      go_wp2_with fail
      refine hH.mono ?_
      rintro e w3 ⟨u, rfl, -, hb3⟩
      have HB3 : Hid _ := HBl.out.trans (hb3.mono HBl.out.size)
      clear hH hb3 HBl
      go_wp2_with fail
      go_ret
      exact ⟨rfl, HB3.out⟩
end Go.Proofs.Ytjalpbkfpjfigab
