/-
  The walk of lychlaw4.UdpSums: it answers true.
-/
import Derived.Test.YtekfeifdgbipnaaUdpLaws
namespace Go.Proofs.Ytekfeifdgbipnaa
open Go.RowKit
open Sm
set_option linter.unusedVariables false

set_option maxRecDepth 20000 in
set_option maxHeartbeats 1000000 in
theorem usums_long {w : World} (s d : Int) (q : Dg) (bo : Option Addr) (lb cb : Nat) (o : Int) (h : 3000 < lb) :
    Calls Try.prog 5 #[.int .u32 s, .int .u32 d, .agg (dgA q (.slice bo lb cb)), .int .u16 o] w fun e w' => e = .returned (.bool true) ∧ Below w.heap.size w w' := by
  have h' : (3000 : Int) < lb := by omega
  have hk := uknown_any (w.alloc (.cells (dgA q (.slice bo lb cb)) udT))
  clear h
  go_enter Try.func5, Try.ntmps5
  go_wp2_with fail
  refine hk.mono ?_
  rintro e w2 ⟨rfl, hbel⟩
  have hM := ((Mem.nil w).push w.heap.size (.cells (dgA q (.slice bo lb cb)) udT) rfl).after hbel
  have HM : Hid _ := hM
  have k3 : w2.cell? ⟨w.heap.size, 3, none⟩ = some (.slice bo lb cb) := hM.cell 0 rfl 3
  clear hM hbel hk
  go_wp2_with fail
  go_ret
  exact ⟨rfl, HM.out.below⟩

set_option maxRecDepth 20000 in
set_option maxHeartbeats 4000000 in
theorem usums_core {w : World} (s d : Int) (s0 : 0 ≤ s) (s1 : s ≤ 4294967295) (d0 : 0 ≤ d) (d1 : d ≤ 4294967295) (q : Dg) (hq : q.Ok) {bo : Option Addr} (lb cb : Nat) (hl : q.body.length = lb) (hv : UdV w 0 (.agg (dgA q (.slice bo lb cb))) q) (h1 : lb ≤ 3000) (o : Int) (o0 : 0 ≤ o) (o1 : o ≤ 65535) :
    Calls Try.prog 5 #[.int .u32 s, .int .u32 d, .agg (dgA q (.slice bo lb cb)), .int .u16 o] w fun e w' => e = .returned (.bool true) ∧ Below w.heap.size w w' := by
  have hk := uknown_any (w.alloc (.cells (dgA q (.slice bo lb cb)) udT))
  have h1' : (lb : Int) ≤ 3000 := by omega
  have hsr := usum_range s d q
  have hE := (udbErr_zero q).mpr (by omega)
  obtain ⟨S, eS⟩ : ∃ S, usum s d q = S := ⟨_, rfl⟩
  have hself : uright s d (q.at S) = true := by rw [uright_at hq (by omega) s d s0 d0 S (by omega) (by omega), eS]; simp
  have hoth := uright_at hq (by omega) s d s0 d0 o o0 o1
  rw [eS] at hoth hsr
  obtain ⟨R, eR⟩ : ∃ R, uright s d q = R := ⟨_, rfl⟩
  have HQ : Hid (q.Ok ∧ q.body.length = lb ∧ UdV w 0 (.agg (dgA q (.slice bo lb cb))) q) := ⟨hq, hl, hv⟩
  have HF : Hid (usum s d q = S ∧ uright s d q = R ∧ udbErr q = 0 ∧ uright s d (q.at S) = true ∧ uright s d (q.at o) = (decide (o = S) || decide (o = 0)) ∧ 0 ≤ S ∧ S ≤ 65535) := ⟨eS, eR, hE, hself, hoth, hsr.1, hsr.2⟩
  clear hq hv h1 hl hsr hE eS hself hoth eR
  go_enter Try.func5, Try.ntmps5
  go_wp2_with fail
  refine hk.mono ?_
  rintro e w2 ⟨rfl, hbel⟩
  have hM := ((Mem.nil w).push w.heap.size (.cells (dgA q (.slice bo lb cb)) udT) rfl).after hbel
  have HM2 : Hid (Mem w w2 [(w.heap.size, .cells (dgA q (.slice bo lb cb)) udT)]) := hM
  have kc : ∀ i, w2.cell? ⟨w.heap.size, i, none⟩ = (dgA q (.slice bo lb cb))[i]? := hM.cell 0 rfl
  have hb := usum_any HQ.out.1 (HQ.out.2.2.below hM.below (Nat.le_refl _)) s d s0 s1 d0 d1
  rw [HF.out.1] at hb
  clear hM hbel hk
  go_wp2_with fail
  refine hb.mono ?_
  rintro e w3 ⟨rfl, hbel3⟩
  have hM := HM2.out.after hbel3
  clear hb kc HM2 hbel3
  have HM3 : Hid (Mem w w3 [(w.heap.size, .cells (dgA q (.slice bo lb cb)) udT)]) := hM
  have D0 : w3.cell? ⟨w.heap.size, 0, none⟩ = some (.int .u16 q.src) := hM.cell 0 rfl 0
  have D1 : w3.cell? ⟨w.heap.size, 1, none⟩ = some (.int .u16 q.dst) := hM.cell 0 rfl 1
  have D2 : w3.cell? ⟨w.heap.size, 2, none⟩ = some (.int .u16 q.sum) := hM.cell 0 rfl 2
  have D3 : w3.cell? ⟨w.heap.size, 3, none⟩ = some (.slice bo lb cb) := hM.cell 0 rfl 3
  have q1 := rusum_any HQ.out.1 (HQ.out.2.2.below hM.drew.below (Nat.le_refl _)) s d s0 s1 d0 d1
  rw [HF.out.1] at q1
  have q2 : ∀ W, Mem w W [(w.heap.size, .cells (dgA q (.slice bo lb cb)) udT)] → Calls Try.prog 18 #[.int .u32 s, .int .u32 d, .agg (dgA q (.slice bo lb cb))] W fun r w' => r = .returned (.bool R) ∧ Below W.heap.size W w' := fun W hW => by
    have := uright_any HQ.out.1 (HQ.out.2.2.below hW.below (Nat.le_refl _)) s d s0 s1 d0 d1
    rw [HF.out.2.1] at this
    exact this
  have q3 : ∀ W, Mem w W [(w.heap.size, .cells (dgA q (.slice bo lb cb)) udT)] → Calls Try.prog 19 #[.int .u32 s, .int .u32 d, .agg (dgA q (.slice bo lb cb))] W fun r w' => r = .returned (.bool R) ∧ Below W.heap.size W w' := fun W hW => by
    have := ruright_any HQ.out.1 (HQ.out.2.2.below hW.below (Nat.le_refl _)) s d s0 s1 d0 d1
    rw [HF.out.2.1] at this
    exact this
  have HQ2 : Hid _ := q2
  have HQ3 : Hid _ := q3
  clear hM q2 q3
  go_upto_region 6 with fail
  go_cut [39] from 23 (fun s39 wx => s39 = .bool false ∧ Mem w wx [(w.heap.size, .cells (dgA q (.slice bo lb cb)) udT)])
  case first =>
    go_region_held3 (fun w' => w'.cell? ⟨w.heap.size, 0, none⟩ = some (.int .u16 q.src) ∧ w'.cell? ⟨w.heap.size, 1, none⟩ = some (.int .u16 q.dst) ∧ w'.cell? ⟨w.heap.size, 2, none⟩ = some (.int .u16 q.sum) ∧ w'.cell? ⟨w.heap.size, 3, none⟩ = some (.slice bo lb cb))
      (first | go_keep | exact ⟨hM5.cell 0 rfl 0, hM5.cell 0 rfl 1, hM5.cell 0 rfl 2, hM5.cell 0 rfl 3⟩ | exact ⟨hM6.cell 0 rfl 0, hM6.cell 0 rfl 1, hM6.cell 0 rfl 2, hM6.cell 0 rfl 3⟩ | exact ⟨hM7.cell 0 rfl 0, hM7.cell 0 rfl 1, hM7.cell 0 rfl 2, hM7.cell 0 rfl 3⟩)
      (first
        | (go_at_call 17; with_reducible refine q1.mono ?_; rintro e w5 ⟨rfl, hb5⟩; have hM5 := HM3.out.drew.after hb5)
        | (go_at_call 18; with_reducible refine (HQ2.out _ hM5).mono ?_; rintro e w6 ⟨rfl, hb6⟩; have hM6 := hM5.after hb6)
        | (go_at_call 19; with_reducible refine (HQ3.out _ hM6).mono ?_; rintro e w7 ⟨rfl, hb7⟩; have hM7 := hM6.after hb7))
    all_goals
      go_wp2_with fail
      go_meet
      case rel => exact ⟨by simp, hM7⟩
  case rest =>
  obtain ⟨rfl, hM4⟩ := hcut
  clear D0 D1 D2 D3 q1 HQ2 HQ3 HM3
  have HM4 : Hid (Mem w wc [(w.heap.size, .cells (dgA q (.slice bo lb cb)) udT)]) := hM4
  have kc : ∀ i, wc.cell? ⟨w.heap.size, i, none⟩ = (dgA q (.slice bo lb cb))[i]? := hM4.cell 0 rfl
  have hb := rubytes_any HQ.out.1 (HQ.out.2.2.below hM4.below (Nat.le_refl _))
  rw [HF.out.2.2.1] at hb
  clear hM4
  go_wp2_with fail
  refine hb.mono ?_
  rintro e w5 ⟨x5, rfl, hown5, hb5⟩
  have HM5 : Hid _ := HM4.out.after hb5
  clear hb hb5 hown5 kc HM4
  have k2 : w5.cell? ⟨w.heap.size, 2, none⟩ = some (.int .u16 q.sum) := HM5.out.cell 0 rfl 2
  have kf : ∀ i, w5.frozen? ⟨w.heap.size, i, none⟩ = false := HM5.out.free 0 rfl
  go_upto_region 12 with fail
  refine wp_letter (fun W => Mem w W [(w.heap.size, .cells (udA q.src q.dst S (.slice bo lb cb)) udT)]) (HM5.out.set 0 rfl 2 (.int .u16 S)) ?_
  intro w6 hM6
  have HM6 : Hid _ := hM6
  have kc : ∀ i, w6.cell? ⟨w.heap.size, i, none⟩ = (udA q.src q.dst S (.slice bo lb cb))[i]? := hM6.cell 0 rfl
  clear hM6 HM5 k2 kf
  go_upto_region 14 with fail
  refine wp_letter (fun W => Mem w W [(w.heap.size, .cells (udA q.src q.dst S (.slice bo lb cb)) udT), (w6.heap.size, .cells (udA q.src q.dst o (.slice bo lb cb)) udT)]) (HM6.out.push w6.heap.size _ rfl) ?_
  intro w7 hM7
  generalize w6.heap.size = P at *
  have HM7 : Hid (Mem w w7 [(w.heap.size, .cells (udA q.src q.dst S (.slice bo lb cb)) udT), (P, .cells (udA q.src q.dst o (.slice bo lb cb)) udT)]) := hM7
  clear kc HM6
  have kc : ∀ i, w7.cell? ⟨w.heap.size, i, none⟩ = (udA q.src q.dst S (.slice bo lb cb))[i]? := hM7.cell 0 rfl
  have hva : ∀ W (L : List (Nat × Obj)) (c : Int), Mem w W L → UdV W 0 (.agg (udA q.src q.dst c (.slice bo lb cb))) (q.at c) := fun W L c hM => by
    have h := HQ.out.2.2.below hM.below (Nat.le_refl _)
    have e := HQ.out.2.1
    subst e
    exact udv_at h c
  have HVa : Hid _ := hva
  have hb := uright_any (HQ.out.1.at HF.out.2.2.2.2.2.1 HF.out.2.2.2.2.2.2) (hva w7 _ S hM7) s d s0 s1 d0 d1
  rw [HF.out.2.2.2.1] at hb
  clear hM7 hva
  go_wp2_with fail
  refine hb.mono ?_
  rintro e w8 ⟨rfl, hb8⟩
  have hM8 := HM7.out.after hb8
  have HB8 : Hid (Below w.heap.size w w8) := hM8.below
  clear hb hb8 kc
  have kc : ∀ i, w8.cell? ⟨P, i, none⟩ = (udA q.src q.dst o (.slice bo lb cb))[i]? := hM8.cell 1 rfl
  have hb := uright_any (HQ.out.1.at o0 o1) (HVa.out w8 _ o hM8) s d s0 s1 d0 d1
  rw [HF.out.2.2.2.2.1] at hb
  clear hM8 HM7 HVa
  go_wp2_with fail
  refine hb.mono ?_
  rintro e w9 ⟨rfl, hb9⟩
  have HB9 : Hid (Below w.heap.size w w9) := HB8.out.trans (hb9.mono HB8.out.size)
  clear hb hb9 kc HB8
  by_cases ho : o = S
  · subst ho
    have e1 : (decide (o = o) || decide (o = 0)) = true := by simp
    rw [e1]
    go_wp2_with fail
    go_ret
    exact ⟨by simp, HB9.out⟩
  · have ho' : (o == S) = false := by simp [ho]
    have e1 : (decide (o = S) || decide (o = 0)) = (o == 0) := by simp only [ho, decide_false, Bool.false_or]; rfl
    rw [e1]
    go_wp2_with fail
    go_ret
    exact ⟨by simp, HB9.out⟩
end Go.Proofs.Ytekfeifdgbipnaa
