/-
  The walk of lychlaw3.IpCut: it answers true.
-/
import Derived.Test.YtnjejakhikonpaaIpLawBack
namespace Go.Proofs.Ytnjejakhikonpaa
open Go.RowKit
open Sm
set_option linter.unusedVariables false

set_option maxRecDepth 20000 in
set_option maxHeartbeats 2000000 in
theorem cut_long {w : World} (q : Pk) (ao bo bh : Option Addr) (lo co lb cb nh ch : Nat) (at_ : Int) (h : 500 < lb ∨ 500 < nh) :
    Calls Try.prog 7 #[.agg (pkA q (.slice ao lo co) (.slice bo lb cb)), .int .i64 at_, .slice bh nh ch] w fun e w' => e = .returned (.bool true) ∧ Below w.heap.size w w' := by
  have hk := known_any (w.alloc (.cells (pkA q (.slice ao lo co) (.slice bo lb cb)) ipT))
  have cs : (500 : Int) < lb ∨ ((lb : Int) ≤ 500 ∧ (500 : Int) < nh) := by omega
  clear h
  rcases cs with h1 | ⟨h1, h2⟩
  all_goals
    go_enter Try.func7, Try.ntmps7
    go_wp2_with fail
    refine hk.mono ?_
    rintro e w2 ⟨rfl, hbel⟩
    have hM := ((Mem.nil w).push w.heap.size (.cells (pkA q (.slice ao lo co) (.slice bo lb cb)) ipT) rfl).after hbel
    have HM : Hid _ := hM
    have k9 : w2.cell? ⟨w.heap.size, 9, none⟩ = some (.slice bo lb cb) := hM.cell 0 rfl 9
    clear hM hbel hk
    go_wp2_with fail
    go_ret
    exact ⟨rfl, HM.out.below⟩

set_option maxRecDepth 20000 in
set_option maxHeartbeats 2000000 in
/-- Options that are too long: the packet is not written. -/
theorem cut_opts {w : World} (q : Pk) (ao bo bh : Option Addr) (lo co lb cb nh ch : Nat) (at_ : Int) (h1 : lb ≤ 500) (h2 : nh ≤ 500) (h : 40 < lo) :
    Calls Try.prog 7 #[.agg (pkA q (.slice ao lo co) (.slice bo lb cb)), .int .i64 at_, .slice bh nh ch] w fun e w' => e = .returned (.bool true) ∧ Below w.heap.size w w' := by
  have hk := known_any (w.alloc (.cells (pkA q (.slice ao lo co) (.slice bo lb cb)) ipT))
  have h1' : (lb : Int) ≤ 500 := by omega
  have h2' : (nh : Int) ≤ 500 := by omega
  have hb : ∀ W, Calls Try.prog 15 #[.agg (pkA q (.slice ao lo co) (.slice bo lb cb))] W fun r w' => r = .returned (.tuple #[.slice none 0 0, .int .i64 21]) ∧ Below W.heap.size W w' := fun W => bytes_form W ao bo lo lb co cb q.tos q.ttl q.proto q.id q.flags q.off q.src q.dst (Or.inr (Or.inl h))
  clear h h1 h2
  go_enter Try.func7, Try.ntmps7
  go_wp2_with fail
  refine hk.mono ?_
  rintro e w2 ⟨rfl, hbel⟩
  have hM := ((Mem.nil w).push w.heap.size (.cells (pkA q (.slice ao lo co) (.slice bo lb cb)) ipT) rfl).after hbel
  have HM : Hid _ := hM
  have kc : ∀ i, w2.cell? ⟨w.heap.size, i, none⟩ = (pkA q (.slice ao lo co) (.slice bo lb cb))[i]? := hM.cell 0 rfl
  clear hM hbel hk
  go_wp2_with fail
  refine (hb _).mono ?_
  rintro e w3 ⟨rfl, hbel3⟩
  have HM3 : Hid _ := HM.out.after hbel3
  clear hbel3 kc HM
  go_wp2_with fail
  go_ret
  exact ⟨rfl, HM3.out.below⟩

set_option maxRecDepth 20000 in
set_option maxHeartbeats 4000000 in
theorem cut_core {w : World} (q : Pk) (hq : q.Ok) {ao bo bh : Option Addr} (lo co lb cb nh ch : Nat) (at_ : Int) {l : List Int} (hv : IpV w 0 (.agg (pkA q (.slice ao lo co) (.slice bo lb cb))) q) (hr : Row w bh l) (hl : l.length = nh) (hnil : bh = none → ch = 0) (h1 : lb ≤ 500) (h3 : nh ≤ 500)
    (g0 : -9223372036854775808 ≤ at_) (g1 : at_ ≤ 9223372036854775807) :
    Calls Try.prog 7 #[.agg (pkA q (.slice ao lo co) (.slice bo lb cb)), .int .i64 at_, .slice bh nh ch] w fun e w' => e = .returned (.bool true) ∧ Below w.heap.size w w' := by
  have hk := known_any (w.alloc (.cells (pkA q (.slice ao lo co) (.slice bo lb cb)) ipT))
  have h1' : (lb : Int) ≤ 500 := by omega
  have h3' : (nh : Int) ≤ 500 := by omega
  have HV : Hid (IpV w 0 (.agg (pkA q (.slice ao lo co) (.slice bo lb cb))) q) := hv
  have HQ : Hid (q.Ok ∧ Row w bh l ∧ l.length = nh ∧ (bh = none → ch = 0) ∧ nh ≤ 500) := ⟨hq, hr, hl, hnil, h3⟩
  obtain ⟨L, eL⟩ : ∃ L, ipOut q = L := ⟨_, rfl⟩
  obtain ⟨E, eE⟩ : ∃ E, ipbErr q = E := ⟨_, rfl⟩
  obtain ⟨nL, enL⟩ : ∃ n, L.length = n := ⟨_, rfl⟩
  have hof := out_facts hq
  rw [eL] at hof
  have HL : Hid (ipOut q = L ∧ ipbErr q = E ∧ L.length = nL ∧ IsBytes L ∧ L.length ≤ 65535) := ⟨eL, eE, enL, hof.1, hof.2⟩
  clear hq hv hr hl hnil h1 h3 eL eE enL hof
  go_enter Try.func7, Try.ntmps7
  go_wp2_with fail
  refine hk.mono ?_
  rintro e w2 ⟨rfl, hbel⟩
  have hM := ((Mem.nil w).push w.heap.size (.cells (pkA q (.slice ao lo co) (.slice bo lb cb)) ipT) rfl).after hbel
  have HM2 : Hid (Mem w w2 [(w.heap.size, .cells (pkA q (.slice ao lo co) (.slice bo lb cb)) ipT)]) := hM
  have kc : ∀ i, w2.cell? ⟨w.heap.size, i, none⟩ = (pkA q (.slice ao lo co) (.slice bo lb cb))[i]? := hM.cell 0 rfl
  have hb := bytes_any HQ.out.1 (HV.out.below hM.below (Nat.le_refl _))
  rw [HL.out.1, HL.out.2.1, HL.out.2.2.1] at hb
  clear hM hbel hk
  go_wp2_with fail
  refine hb.mono ?_
  rintro e w3 ⟨u1, rfl, hown3, hbel3⟩
  clear hb kc
  have hM := HM2.out.after hbel3
  have HM3 : Hid (Mem w w3 [(w.heap.size, .cells (pkA q (.slice ao lo co) (.slice bo lb cb)) ipT)]) := hM
  obtain ⟨a1, c1, rfl, hr1, hn1, hf1, hc1⟩ := own_read hown3 HL.out.2.2.1 HL.out.2.2.2.1 (by have := HL.out; omega)
  clear hM hbel3 HM2 hown3 hf1
  by_cases hE : E = 0
  · subst hE
    have f : Fits q := (fits_iff q).mp HL.out.2.1
    have hLb : L = ipb q := by
      rw [← HL.out.1]; exact if_pos HL.out.2.1
    have hlen : L.length = 20 + q.opts.length + q.body.length := by rw [hLb, ipb_len]
    have hnL : 0 < nL := by have := HL.out.2.2.1; omega
    have hpr := plc_range at_ (nL : Int) (by omega)
    have hplace : ∀ W, Calls Try.prog 18 #[.int .i64 at_, .int .i64 (nL : Int)] W _ := fun W => place_any at_ (nL : Int) W g0 g1 (by omega) (by have := HL.out; omega)
    obtain ⟨P, hP⟩ : ∃ P : Nat, plc at_ (nL : Int) = P := ⟨(plc at_ (nL : Int)).toNat, by omega⟩
    rw [hP] at hplace
    have hPn : P < nL := by omega
    obtain ⟨b1, off1, rfl, -⟩ : ∃ b off, a1 = some ⟨b, off, none⟩ ∧ ∀ i, i < L.length → w3.cell? ⟨b, off + i, none⟩ = some (.int .u8 (L.getD i 0)) := by
      rcases hr1.cells with e | e
      · rw [e] at hlen; simp at hlen; omega
      · exact e
    have hcut0 := cut_err HQ.out.1 f P (by rw [← hLb, HL.out.2.2.1]; exact hPn)
    rw [← hLb] at hcut0
    have hcr : ipRes (L.take P) = Pk.zero := if_neg (by rw [hcut0]; decide)
    have hE0 := back_err HQ.out.1 f l
    have hR0 := back_res HQ.out.1 f l
    rw [← hLb] at hE0 hR0
    have HER : Hid (ipErr (L ++ l) = 0 ∧ ipRes (L ++ l) = q ∧ IsBytes (L ++ l)) := ⟨hE0, hR0, bytes_append HL.out.2.2.2.1 HQ.out.2.1.bytes⟩
    have hrP := hr1.part 0 P (by rw [HL.out.2.2.1]; omega)
    rw [List.drop_zero] at hrP
    have hp1 := parse_out hrP (n := P) (c := c1) (by rw [List.length_take, HL.out.2.2.1]; omega) (by omega) hcut0 hcr (no := 0) (nb := 0) rfl rfl
    have HR1 : Hid (Row w3 (some ⟨b1, off1, none⟩) L ∧ (some (⟨b1, off1, none⟩ : Addr) = none → c1 = 0) ∧ nL ≤ c1 ∧ nL ≤ 65535) := ⟨hr1, hn1, hc1, by have := HL.out; omega⟩
    have hP1 : (P : Int) ≤ nL := by omega
    have hP2 : (P : Int) ≤ c1 := by omega
    clear hr1 hn1 hc1 hrP hE0 hR0 f hLb hlen hpr hP hPn hcut0 hcr hnL
    go_wp2_with fail
    refine (hplace _).mono ?_
    rintro e w' ⟨rfl, rfl⟩
    go_wp2_with fail
    refine hp1.mono ?_
    rintro e w4 ⟨a2, c2, b2, d2, rfl, -, hb4⟩
    clear hp1 hplace
    have hM4 := HM3.out.after hb4
    have hr4 := HR1.out.1.below hb4 (Nat.le_refl _)
    go_upto_region 9 with fail
    refine wp_letter (fun W => Mem w W [(w.heap.size, .cells (pkA q (.slice ao lo co) (.slice bo lb cb)) ipT)] ∧ Row W (some ⟨b1, off1, none⟩) L) ⟨hM4.after ((Below.refl w4.heap.size w4).alloc (Nat.le_refl _) _), hr4.below ((Below.refl w4.heap.size w4).alloc (Nat.le_refl _) _) (Nat.le_refl _)⟩ ?_
    intro w5 ⟨hM5, hr5⟩
    have HM5 : Hid (Mem w w5 [(w.heap.size, .cells (pkA q (.slice ao lo co) (.slice bo lb cb)) ipT)]) := hM5
    have HR5 : Hid (Row w5 (some ⟨b1, off1, none⟩) L) := hr5
    clear hM4 hr4 hb4 hM5 hr5 HM3
    go_wp2_with (first
      | (at_builtin; refine wpList_append_more _ rfl _ (.tmp 42) rfl w5.heap.size (.slice none 0 0) 0 [] rfl (World.ownsRow_nil _ _ _ _) (some ⟨b1, off1, none⟩) c1 nL L rfl HL.out.2.2.1 HR1.out.2.1 HR5.out (by have := HR1.out; omega) (Nat.le_refl _) ?_; intro v6 w6 hown6 hbel6)
      | (at_builtin; refine wpList_append_more _ rfl (.tmp 43) (.tmp 44) rfl w5.heap.size v6 (0 + nL) _ rfl hown6 bh ch nh l rfl HQ.out.2.2.1 HQ.out.2.2.2.1 ((HM5.out.row HQ.out.2.1).below hbel6 (Nat.le_refl _)) (by have := HR1.out; have := HQ.out; omega) hbel6.size ?_; intro v7 w7 hown7 hbel7))
    rw [List.nil_append, ← List.map_append, Nat.zero_add] at hown7
    have hlen : (L ++ l).length = nL + nh := by rw [List.length_append, HL.out.2.2.1, HQ.out.2.2.1]
    obtain ⟨a5, c5, rfl, hr7, hn7, hf7, hc7⟩ := own_read hown7 hlen HER.out.2.2 (by rw [hlen]; have := HR1.out; have := HQ.out; omega)
    have hM7 := (HM5.out.after hbel6).over (hbel7.mono (Nat.le_refl _)) (HM5.out.below.size) (fun p hp => by simp at hp; subst hp; exact HM5.out.lt (p := (w.heap.size, _)) (List.mem_cons_self ..))
    have HM7 : Hid (Mem w w7 [(w.heap.size, .cells (pkA q (.slice ao lo co) (.slice bo lb cb)) ipT)]) := hM7
    have hpa := parse_out hr7 hlen hc7 HER.out.1 HER.out.2.1 (no := q.opts.length) (nb := q.body.length) rfl rfl
    clear hown6 hbel6 hown7 hlen hr7 hn7 hf7 hc7 hM7 hbel7 HM5 HR5
    refine hpa.mono ?_
    rintro e w8 ⟨a6, c6, b6, d6, rfl, hv8, hb8⟩
    clear hpa
    have hM8 := HM7.out.after hb8
    go_upto_region 10 with fail
    refine wp_letter (fun W => Mem w W [(w.heap.size, .cells (pkA q (.slice ao lo co) (.slice bo lb cb)) ipT), (w8.heap.size, .cells (pkA q (.slice a6 q.opts.length c6) (.slice b6 q.body.length d6)) ipT)] ∧ IpV W w7.heap.size (.agg (pkA q (.slice a6 q.opts.length c6) (.slice b6 q.body.length d6))) q) ⟨hM8.push w8.heap.size _ rfl, hv8.below ((Below.refl w8.heap.size w8).alloc (Nat.le_refl _) _) (Nat.le_refl _)⟩ ?_
    intro w9 ⟨hM9, hv9⟩
    have ka : ∀ i, w9.cell? ⟨w.heap.size, i, none⟩ = (pkA q (.slice ao lo co) (.slice bo lb cb))[i]? := hM9.cell 0 rfl
    have kb : ∀ i, w9.cell? ⟨w8.heap.size, i, none⟩ = (pkA q (.slice a6 q.opts.length c6) (.slice b6 q.body.length d6))[i]? := hM9.cell 1 rfl
    have hhip := hip_yes hv9 (HV.out.below hM9.below (Nat.le_refl _))
    have HB9 : Hid (Below w.heap.size w w9) := hM9.below
    clear hM8 hv8 hb8 hM9 hv9 HM7
    go_wp2_with fail
    refine hhip.mono ?_
    rintro e wz ⟨rfl, hbz⟩
    have HBz : Hid (Below w.heap.size w wz) := HB9.out.trans (hbz.mono HB9.out.size)
    clear hbz hhip
    go_wp2_with fail
    go_ret
    exact ⟨rfl, HBz.out⟩
  · go_wp2_with fail
    go_ret
    exact ⟨rfl, HM3.out.below⟩
end Go.Proofs.Ytnjejakhikonpaa
