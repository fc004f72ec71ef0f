/-
  The walk of lychlaw3.IpBack: it answers true.
-/
import Derived.Test.YtnjejakhikonpaaIpKnown
namespace Go.Proofs.Ytnjejakhikonpaa
open Go.RowKit
open Sm
set_option linter.unusedVariables false

theorem out_facts {q : Pk} (hq : q.Ok) : IsBytes (ipOut q) ∧ (ipOut q).length ≤ 65535 := by
  unfold ipOut
  by_cases h : ipbErr q = 0
  · rw [if_pos h]
    have f := (fits_iff q).mp h
    exact ⟨ipb_bytes hq f, by rw [ipb_len]; exact f.n⟩
  · rw [if_neg h]; exact ⟨fun i => by simp, by simp⟩

abbrev pkA (q : Pk) (a b : Value) : Array Value := ipA q.tos q.ttl q.proto q.id q.flags q.off q.src q.dst a b

set_option maxRecDepth 20000 in
set_option maxHeartbeats 2000000 in
theorem back_long {w : World} (q : Pk) (ao bo bh : Option Addr) (lo co lb cb nh ch : Nat) (h : 3000 < lb ∨ 200 < lo ∨ 100 < nh) :
    Calls Try.prog 4 #[.agg (pkA q (.slice ao lo co) (.slice bo lb cb)), .slice bh nh ch] w fun e w' => e = .returned (.bool true) ∧ Below w.heap.size w w' := by
  have hk := known_any (w.alloc (.cells (pkA q (.slice ao lo co) (.slice bo lb cb)) ipT))
  have cs : (3000 : Int) < lb ∨ ((lb : Int) ≤ 3000 ∧ (200 : Int) < lo) ∨ ((lb : Int) ≤ 3000 ∧ (lo : Int) ≤ 200 ∧ (100 : Int) < nh) := by omega
  clear h
  rcases cs with h1 | ⟨h1, h2⟩ | ⟨h1, h2, h3⟩
  all_goals
    go_enter Try.func4, Try.ntmps4
    go_wp2_with fail
    refine hk.mono ?_
    rintro e w2 ⟨rfl, hbel⟩
    have hM := ((Mem.nil w).push w.heap.size (.cells (pkA q (.slice ao lo co) (.slice bo lb cb)) ipT) rfl).after hbel
    have HM : Hid _ := hM
    have k9 : w2.cell? ⟨w.heap.size, 9, none⟩ = some (.slice bo lb cb) := hM.cell 0 rfl 9
    have k8 : w2.cell? ⟨w.heap.size, 8, none⟩ = some (.slice ao lo co) := hM.cell 0 rfl 8
    clear hM hbel hk
    go_wp2_with fail
    go_ret
    exact ⟨rfl, HM.out.below⟩

set_option maxRecDepth 20000 in
set_option maxHeartbeats 4000000 in
theorem back_core {w : World} (q : Pk) (hq : q.Ok) {ao bo bh : Option Addr} (lo co lb cb nh ch : Nat) {l : List Int} (hv : IpV w 0 (.agg (pkA q (.slice ao lo co) (.slice bo lb cb))) q) (hr : Row w bh l) (hl : l.length = nh) (hnil : bh = none → ch = 0) (h1 : lb ≤ 3000) (h2 : lo ≤ 200) (h3 : nh ≤ 100) :
    Calls Try.prog 4 #[.agg (pkA q (.slice ao lo co) (.slice bo lb cb)), .slice bh nh ch] w fun e w' => e = .returned (.bool true) ∧ Below w.heap.size w w' := by
  have hk := known_any (w.alloc (.cells (pkA q (.slice ao lo co) (.slice bo lb cb)) ipT))
  have h1' : (lb : Int) ≤ 3000 := by omega
  have h2' : (lo : Int) ≤ 200 := by omega
  have h3' : (nh : Int) ≤ 100 := by omega
  have HV : Hid (IpV w 0 (.agg (pkA q (.slice ao lo co) (.slice bo lb cb))) q) := hv
  have HQ : Hid (q.Ok ∧ Row w bh l ∧ l.length = nh ∧ (bh = none → ch = 0) ∧ nh ≤ 100) := ⟨hq, hr, hl, hnil, h3⟩
  obtain ⟨L, eL⟩ : ∃ L, ipOut q = L := ⟨_, rfl⟩
  obtain ⟨E, eE⟩ : ∃ E, ipbErr q = E := ⟨_, rfl⟩
  obtain ⟨nL, enL⟩ : ∃ n, L.length = n := ⟨_, rfl⟩
  have hof := out_facts hq
  rw [eL] at hof
  have HL : Hid (ipOut q = L ∧ ipbErr q = E ∧ L.length = nL ∧ IsBytes L ∧ L.length ≤ 65535) := ⟨eL, eE, enL, hof.1, hof.2⟩
  clear hq hv hr hl hnil h1 h2 h3 eL eE enL hof
  go_enter Try.func4, Try.ntmps4
  go_wp2_with fail
  refine hk.mono ?_
  rintro e w2 ⟨rfl, hbel⟩
  have hM := ((Mem.nil w).push w.heap.size (.cells (pkA q (.slice ao lo co) (.slice bo lb cb)) ipT) rfl).after hbel
  have HM2 : Hid (Mem w w2 [(w.heap.size, .cells (pkA q (.slice ao lo co) (.slice bo lb cb)) ipT)]) := hM
  have kc : ∀ i, w2.cell? ⟨w.heap.size, i, none⟩ = (pkA q (.slice ao lo co) (.slice bo lb cb))[i]? := hM.cell 0 rfl
  have hb := bytes_any HQ.out.1 (HV.out.below hM.below (Nat.le_refl _))
  rw [HL.out.1, HL.out.2.1, HL.out.2.2.1] at hb
  clear hM hbel hk
  go_wp2_with fail
  refine hb.mono ?_
  rintro e w3 ⟨u1, rfl, hown3, hbel3⟩
  clear hb kc
  have hM := HM2.out.after hbel3
  have HM3 : Hid (Mem w w3 [(w.heap.size, .cells (pkA q (.slice ao lo co) (.slice bo lb cb)) ipT)]) := hM
  have kc : ∀ i, w3.cell? ⟨w.heap.size, i, none⟩ = (pkA q (.slice ao lo co) (.slice bo lb cb))[i]? := hM.cell 0 rfl
  have hb := rbytes_any HQ.out.1 (HV.out.below hM.below (Nat.le_refl _))
  rw [HL.out.1, HL.out.2.1, HL.out.2.2.1] at hb
  have HO3 : Hid _ := hown3
  have HS3 : Hid (w2.heap.size ≤ w3.heap.size ∧ w.heap.size < w2.heap.size) := ⟨hbel3.size, HM2.out.lt (p := (w.heap.size, _)) (List.mem_cons_self ..)⟩
  clear hM hbel3 HM2 hown3
  go_wp2_with fail
  refine hb.mono ?_
  rintro e w4 ⟨u2, rfl, hown4, hbel4⟩
  clear hb kc
  have hM := HM3.out.after hbel4
  have HM4 : Hid (Mem w w4 [(w.heap.size, .cells (pkA q (.slice ao lo co) (.slice bo lb cb)) ipT)]) := hM
  have hown3 := own_after HO3.out hbel4 (Nat.le_refl _)
  have HS4 : Hid (w2.heap.size ≤ w4.heap.size ∧ w.heap.size < w2.heap.size) := ⟨Nat.le_trans HS3.out.1 hbel4.size, HS3.out.2⟩
  obtain ⟨a1, c1, rfl, hr1, hn1, hf1, hc1⟩ := own_read hown3 HL.out.2.2.1 HL.out.2.2.2.1 (by have := HL.out; omega)
  obtain ⟨a2, c2, rfl, hr2, hn2, hf2, hc2⟩ := own_read hown4 HL.out.2.2.1 HL.out.2.2.2.1 (by have := HL.out; omega)
  have hh := hbytes_yes hr1 hr2 nL nL HL.out.2.2.1 HL.out.2.2.1 c1 c2
  have HO4 : Hid (w4.ownsRow w2.heap.size 5 1 (.slice a1 nL c1) nL (L.map (Value.int .u8))) := hown3
  clear hown3 hown4 hr1 hn1 hf1 hc1 hr2 hn2 hf2 hc2 hM hbel4 HM3 HO3 HS3
  go_wp2_with fail
  refine hh.mono ?_
  rintro e w' ⟨rfl, rfl⟩
  clear hh
  by_cases hE : E = 0
  · subst hE
    have f : Fits q := (fits_iff q).mp HL.out.2.1
    have HLb : Hid (L = ipb q) := by
      show L = ipb q
      rw [← HL.out.1]; exact if_pos HL.out.2.1
    have hE0 := back_err HQ.out.1 f l
    have hR0 := back_res HQ.out.1 f l
    rw [← HLb.out] at hE0 hR0
    have HER : Hid (ipErr (L ++ l) = 0 ∧ ipRes (L ++ l) = q ∧ IsBytes (L ++ l)) := ⟨hE0, hR0, bytes_append HL.out.2.2.2.1 HQ.out.2.1.bytes⟩
    clear hE0 hR0 f
    go_wp2_with (at_builtin; refine wpList_append_more _ rfl (.tmp 50) (.tmp 51) rfl w2.heap.size _ nL _ rfl HO4.out bh ch nh l rfl HQ.out.2.2.1 HQ.out.2.2.2.1 (HM4.out.row HQ.out.2.1) (by have := HQ.out; have := HL.out; omega) HS4.out.1 ?_; intro v5 w5 hown5 hbel5)
    rw [← List.map_append] at hown5
    have hlen : (L ++ l).length = nL + nh := by rw [List.length_append, HL.out.2.2.1, HQ.out.2.2.1]
    obtain ⟨a5, c5, rfl, hr5, hn5, hf5, hc5⟩ := own_read hown5 hlen HER.out.2.2 (by rw [hlen]; have := HQ.out; have := HL.out; omega)
    have hM5 := HM4.out.over hbel5 (Nat.le_of_lt HS4.out.2) (fun p hp => by simp at hp; subst hp; exact HS4.out.2)
    have HM5 : Hid (Mem w w5 [(w.heap.size, .cells (pkA q (.slice ao lo co) (.slice bo lb cb)) ipT)]) := hM5
    have hpa := parse_out hr5 hlen hc5 HER.out.1 HER.out.2.1 (no := q.opts.length) (nb := q.body.length) rfl rfl
    clear hown5 hlen hr5 hn5 hf5 hc5 hM5 hbel5 HM4 HO4
    refine hpa.mono ?_
    rintro e w6 ⟨a6, c6, b6, d6, rfl, hv6, hb6⟩
    clear hpa
    have hM6 := HM5.out.after hb6
    go_upto_region 12 with fail
    refine wp_letter (fun W => Mem w W [(w.heap.size, .cells (pkA q (.slice ao lo co) (.slice bo lb cb)) ipT), (w6.heap.size, .cells (pkA q (.slice a6 q.opts.length c6) (.slice b6 q.body.length d6)) ipT)] ∧ IpV W w5.heap.size (.agg (pkA q (.slice a6 q.opts.length c6) (.slice b6 q.body.length d6))) q) ⟨hM6.push w6.heap.size _ rfl, hv6.below ((Below.refl w6.heap.size w6).alloc (Nat.le_refl _) _) (Nat.le_refl _)⟩ ?_
    intro w7 ⟨hM7, hv7⟩
    have ka : ∀ i, w7.cell? ⟨w.heap.size, i, none⟩ = (pkA q (.slice ao lo co) (.slice bo lb cb))[i]? := hM7.cell 0 rfl
    have kb : ∀ i, w7.cell? ⟨w6.heap.size, i, none⟩ = (pkA q (.slice a6 q.opts.length c6) (.slice b6 q.body.length d6))[i]? := hM7.cell 1 rfl
    have hhip := hip_yes hv7 (HV.out.below hM7.below (Nat.le_refl _))
    have HB7 : Hid (Below w.heap.size w w7) := hM7.below
    clear hM6 hv6 hb6 hM7 hv7 HM5
    go_wp2_with fail
    refine hhip.mono ?_
    rintro e w8 ⟨rfl, hb8⟩
    have HB8 : Hid (Below w.heap.size w w8) := HB7.out.trans (hb8.mono HB7.out.size)
    clear hb8 hhip
    go_wp2_with fail
    go_ret
    exact ⟨rfl, HB8.out⟩
  · have hE' : ¬ E = 0 := hE
    go_wp2_with fail
    go_ret
    exact ⟨rfl, HM4.out.below⟩
end Go.Proofs.Ytnjejakhikonpaa
