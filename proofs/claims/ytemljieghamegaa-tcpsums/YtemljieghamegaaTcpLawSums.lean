/-
  The walk of lychlaw5.TcpSums: it answers true.
-/
import Derived.Test.YtemljieghamegaaTcpLaws
namespace Go.Proofs.Ytemljieghamegaa
open Go.RowKit
open Sm
set_option linter.unusedVariables false

set_option maxRecDepth 20000 in
set_option maxHeartbeats 1000000 in
theorem tsums_long {w : World} (s d : Int) (q : Sg) (ao bo : Option Addr) (lo co lb cb : Nat) (o : Int) (h : 3000 < lb ∨ (lb ≤ 3000 ∧ 200 < lo)) :
    Calls Try.prog 5 #[.int .u32 s, .int .u32 d, .agg (tcB q ao lo co bo lb cb), .int .u16 o] w fun e w' => e = .returned (.bool true) ∧ Below w.heap.size w w' := by
  have hk := tknown_any (w.alloc (.cells (tcB q ao lo co bo lb cb) tcT))
  rcases h with h | ⟨h1, h2⟩
  · have h' : (3000 : Int) < lb := by omega
    clear h
    go_enter Try.func5, Try.ntmps5
    go_wp2_with fail
    refine hk.mono ?_
    rintro e w2 ⟨rfl, hbel⟩
    have hM := ((Mem.nil w).push w.heap.size (.cells (tcB q ao lo co bo lb cb) tcT) rfl).after hbel
    have HM : Hid _ := hM
    have k9 : w2.cell? ⟨w.heap.size, 9, none⟩ = some (.slice bo lb cb) := hM.cell 0 rfl 9
    clear hM hbel hk
    go_wp2_with fail
    go_ret
    exact ⟨rfl, HM.out.below⟩
  · have h1' : (lb : Int) ≤ 3000 := by omega
    have h2' : (200 : Int) < lo := by omega
    clear h1 h2
    go_enter Try.func5, Try.ntmps5
    go_wp2_with fail
    refine hk.mono ?_
    rintro e w2 ⟨rfl, hbel⟩
    have hM := ((Mem.nil w).push w.heap.size (.cells (tcB q ao lo co bo lb cb) tcT) rfl).after hbel
    have HM : Hid _ := hM
    have k9 : w2.cell? ⟨w.heap.size, 9, none⟩ = some (.slice bo lb cb) := hM.cell 0 rfl 9
    have k8 : w2.cell? ⟨w.heap.size, 8, none⟩ = some (.slice ao lo co) := hM.cell 0 rfl 8
    clear hM hbel hk
    go_wp2_with fail
    go_ret
    exact ⟨rfl, HM.out.below⟩

set_option maxRecDepth 20000 in
set_option maxHeartbeats 4000000 in
theorem tsums_core {w : World} (s d : Int) (s0 : 0 ≤ s) (s1 : s ≤ 4294967295) (d0 : 0 ≤ d) (d1 : d ≤ 4294967295) (q : Sg) (hq : q.Ok) {ao bo : Option Addr} (lo co lb cb : Nat) (hlo : q.opts.length = lo) (hl : q.body.length = lb) (hv : TcV w 0 (.agg (tcB q ao lo co bo lb cb)) q) (h1 : lb ≤ 3000) (h2 : lo ≤ 200) (o : Int) (o0 : 0 ≤ o) (o1 : o ≤ 65535) :
    Calls Try.prog 5 #[.int .u32 s, .int .u32 d, .agg (tcB q ao lo co bo lb cb), .int .u16 o] w fun e w' => e = .returned (.bool true) ∧ Below w.heap.size w w' := by
  have hk := tknown_any (w.alloc (.cells (tcB q ao lo co bo lb cb) tcT))
  have h1' : (lb : Int) ≤ 3000 := by omega
  have h2' : (lo : Int) ≤ 200 := by omega
  have hsr := tsum_range s d q
  obtain ⟨E, eE⟩ : ∃ E, tcbErr q = E := ⟨_, rfl⟩
  obtain ⟨S, eS⟩ : ∃ S, tsum s d q = S := ⟨_, rfl⟩
  have hself : E = 0 → tright s d (q.at S) = true := fun e => by
    rw [tright_at hq ((tfits_iff q).mp (eE.trans e)) s d s0 d0 S (by omega) (by omega), eS]; simp
  have hoth : E = 0 → _ := fun e => tright_at hq ((tfits_iff q).mp (eE.trans e)) s d s0 d0 o o0 o1
  have hzero : E ≠ 0 → S = 0 := fun e => by rw [← eS]; unfold tsum; rw [if_pos (by rw [eE]; exact e)]
  rw [eS] at hoth hsr
  obtain ⟨R, eR⟩ : ∃ R, tright s d q = R := ⟨_, rfl⟩
  have HQ : Hid (q.Ok ∧ q.opts.length = lo ∧ q.body.length = lb ∧ TcV w 0 (.agg (tcB q ao lo co bo lb cb)) q) := ⟨hq, hlo, hl, hv⟩
  have HF : Hid (tsum s d q = S ∧ tright s d q = R ∧ tcbErr q = E ∧ (E = 0 → tright s d (q.at S) = true) ∧ (E = 0 → tright s d (q.at o) = (decide (o = S) || (decide (S = 0) && decide (o = 65535)) || (decide (S = 65535) && decide (o = 0)))) ∧ 0 ≤ S ∧ S ≤ 65535 ∧ (E ≠ 0 → S = 0)) := ⟨eS, eR, eE, hself, hoth, hsr.1, hsr.2, hzero⟩
  clear hq hv h1 h2 hl hlo hsr eE eS hself hoth eR hzero
  go_enter Try.func5, Try.ntmps5
  go_wp2_with fail
  refine hk.mono ?_
  rintro e w2 ⟨rfl, hbel⟩
  have hM := ((Mem.nil w).push w.heap.size (.cells (tcB q ao lo co bo lb cb) tcT) rfl).after hbel
  have HM2 : Hid (Mem w w2 [(w.heap.size, .cells (tcB q ao lo co bo lb cb) tcT)]) := hM
  have kc : ∀ i, w2.cell? ⟨w.heap.size, i, none⟩ = (tcB q ao lo co bo lb cb)[i]? := hM.cell 0 rfl
  have hb := tsum_any HQ.out.1 (HQ.out.2.2.2.below hM.below (Nat.le_refl _)) s d s0 s1 d0 d1
  rw [HF.out.1] at hb
  clear hM hbel hk
  go_wp2_with fail
  refine hb.mono ?_
  rintro e w3 ⟨rfl, hbel3⟩
  have hM := HM2.out.after hbel3
  clear hb kc HM2 hbel3
  have HM3 : Hid (Mem w w3 [(w.heap.size, .cells (tcB q ao lo co bo lb cb) tcT)]) := hM
  have D0 : w3.cell? ⟨w.heap.size, 0, none⟩ = some (.int .u16 q.src) := hM.cell 0 rfl 0
  have D1 : w3.cell? ⟨w.heap.size, 1, none⟩ = some (.int .u16 q.dst) := hM.cell 0 rfl 1
  have D2 : w3.cell? ⟨w.heap.size, 2, none⟩ = some (.int .u32 q.seq) := hM.cell 0 rfl 2
  have D3 : w3.cell? ⟨w.heap.size, 3, none⟩ = some (.int .u32 q.ack) := hM.cell 0 rfl 3
  have D4 : w3.cell? ⟨w.heap.size, 4, none⟩ = some (.int .u8 q.flags) := hM.cell 0 rfl 4
  have D5 : w3.cell? ⟨w.heap.size, 5, none⟩ = some (.int .u16 q.win) := hM.cell 0 rfl 5
  have D6 : w3.cell? ⟨w.heap.size, 6, none⟩ = some (.int .u16 q.sum) := hM.cell 0 rfl 6
  have D7 : w3.cell? ⟨w.heap.size, 7, none⟩ = some (.int .u16 q.urg) := hM.cell 0 rfl 7
  have D8 : w3.cell? ⟨w.heap.size, 8, none⟩ = some (.slice ao lo co) := hM.cell 0 rfl 8
  have D9 : w3.cell? ⟨w.heap.size, 9, none⟩ = some (.slice bo lb cb) := hM.cell 0 rfl 9
  have q1 := rtsum_any HQ.out.1 (HQ.out.2.2.2.below hM.drew.below (Nat.le_refl _)) s d s0 s1 d0 d1
  rw [HF.out.1] at q1
  have q2 : ∀ W, Mem w W [(w.heap.size, .cells (tcB q ao lo co bo lb cb) tcT)] → Calls Try.prog 17 #[.int .u32 s, .int .u32 d, .agg (tcB q ao lo co bo lb cb)] W fun r w' => r = .returned (.bool R) ∧ Below W.heap.size W w' := fun W hW => by
    have := tright_any HQ.out.1 (HQ.out.2.2.2.below hW.below (Nat.le_refl _)) s d s0 s1 d0 d1
    rw [HF.out.2.1] at this
    exact this
  have q3 : ∀ W, Mem w W [(w.heap.size, .cells (tcB q ao lo co bo lb cb) tcT)] → Calls Try.prog 18 #[.int .u32 s, .int .u32 d, .agg (tcB q ao lo co bo lb cb)] W fun r w' => r = .returned (.bool R) ∧ Below W.heap.size W w' := fun W hW => by
    have := rtright_any HQ.out.1 (HQ.out.2.2.2.below hW.below (Nat.le_refl _)) s d s0 s1 d0 d1
    rw [HF.out.2.1] at this
    exact this
  have HQ2 : Hid _ := q2
  have HQ3 : Hid _ := q3
  clear hM q2 q3
  go_upto_region 6 with fail
  go_cut [45] from 29 (fun s45 wx => s45 = .bool false ∧ Mem w wx [(w.heap.size, .cells (tcB q ao lo co bo lb cb) tcT)])
  case first =>
    go_region_held3 (fun w' => w'.cell? ⟨w.heap.size, 0, none⟩ = some (.int .u16 q.src) ∧ w'.cell? ⟨w.heap.size, 1, none⟩ = some (.int .u16 q.dst) ∧ w'.cell? ⟨w.heap.size, 2, none⟩ = some (.int .u32 q.seq) ∧ w'.cell? ⟨w.heap.size, 3, none⟩ = some (.int .u32 q.ack) ∧ w'.cell? ⟨w.heap.size, 4, none⟩ = some (.int .u8 q.flags) ∧ w'.cell? ⟨w.heap.size, 5, none⟩ = some (.int .u16 q.win) ∧ w'.cell? ⟨w.heap.size, 6, none⟩ = some (.int .u16 q.sum) ∧ w'.cell? ⟨w.heap.size, 7, none⟩ = some (.int .u16 q.urg) ∧ w'.cell? ⟨w.heap.size, 8, none⟩ = some (.slice ao lo co) ∧ w'.cell? ⟨w.heap.size, 9, none⟩ = some (.slice bo lb cb))
      (first | go_keep | exact ⟨hM5.cell 0 rfl 0, hM5.cell 0 rfl 1, hM5.cell 0 rfl 2, hM5.cell 0 rfl 3, hM5.cell 0 rfl 4, hM5.cell 0 rfl 5, hM5.cell 0 rfl 6, hM5.cell 0 rfl 7, hM5.cell 0 rfl 8, hM5.cell 0 rfl 9⟩ | exact ⟨hM6.cell 0 rfl 0, hM6.cell 0 rfl 1, hM6.cell 0 rfl 2, hM6.cell 0 rfl 3, hM6.cell 0 rfl 4, hM6.cell 0 rfl 5, hM6.cell 0 rfl 6, hM6.cell 0 rfl 7, hM6.cell 0 rfl 8, hM6.cell 0 rfl 9⟩ | exact ⟨hM7.cell 0 rfl 0, hM7.cell 0 rfl 1, hM7.cell 0 rfl 2, hM7.cell 0 rfl 3, hM7.cell 0 rfl 4, hM7.cell 0 rfl 5, hM7.cell 0 rfl 6, hM7.cell 0 rfl 7, hM7.cell 0 rfl 8, hM7.cell 0 rfl 9⟩)
      (first
        | (go_at_call 16; with_reducible refine q1.mono ?_; rintro e w5 ⟨rfl, hb5⟩; have hM5 := HM3.out.drew.after hb5)
        | (go_at_call 17; with_reducible refine (HQ2.out _ hM5).mono ?_; rintro e w6 ⟨rfl, hb6⟩; have hM6 := hM5.after hb6)
        | (go_at_call 18; with_reducible refine (HQ3.out _ hM6).mono ?_; rintro e w7 ⟨rfl, hb7⟩; have hM7 := hM6.after hb7))
    all_goals
      go_wp2_with fail
      go_meet
      case rel => exact ⟨by simp, hM7⟩
  case rest =>
  obtain ⟨rfl, hM4⟩ := hcut
  clear D0 D1 D2 D3 D4 D5 D6 D7 D8 D9 q1 HQ2 HQ3 HM3
  have HM4 : Hid (Mem w wc [(w.heap.size, .cells (tcB q ao lo co bo lb cb) tcT)]) := hM4
  have kc : ∀ i, wc.cell? ⟨w.heap.size, i, none⟩ = (tcB q ao lo co bo lb cb)[i]? := hM4.cell 0 rfl
  have hb := rtbytes_any HQ.out.1 (HQ.out.2.2.2.below hM4.below (Nat.le_refl _))
  rw [HF.out.2.2.1] at hb
  clear hM4
  go_wp2_with fail
  refine hb.mono ?_
  rintro e w5 ⟨x5, rfl, hown5, hb5⟩
  have HM5 : Hid _ := HM4.out.after hb5
  clear hb hb5 hown5 kc HM4
  by_cases hE : E = 0
  case neg =>
    have hS := HF.out.2.2.2.2.2.2.2 hE
    have hE' : (E == 0) = false := by simp [hE]
    have HB5 : Hid (Below w.heap.size w w5) := HM5.out.below
    clear HM5
    subst hS
    go_wp2_with fail
    go_ret
    exact ⟨rfl, HB5.out⟩
  have hsf := HF.out.2.2.2.1 hE
  have hot := HF.out.2.2.2.2.1 hE
  have hS0 := HF.out.2.2.2.2.2.1
  have hS1 := HF.out.2.2.2.2.2.2.1
  have HZ : Hid (tright s d (q.at S) = true ∧ tright s d (q.at o) = (decide (o = S) || (decide (S = 0) && decide (o = 65535)) || (decide (S = 65535) && decide (o = 0)))) := ⟨hsf, hot⟩
  clear hsf hot HF
  subst hE
  have k2 : w5.cell? ⟨w.heap.size, 6, none⟩ = some (.int .u16 q.sum) := HM5.out.cell 0 rfl 6
  have kf : ∀ i, w5.frozen? ⟨w.heap.size, i, none⟩ = false := HM5.out.free 0 rfl
  go_upto_region 12 with fail
  refine wp_letter (fun W => Mem w W [(w.heap.size, .cells (tcA q.src q.dst q.seq q.ack q.flags q.win S q.urg (.slice ao lo co) (.slice bo lb cb)) tcT)]) (HM5.out.set 0 rfl 6 (.int .u16 S)) ?_
  intro w6 hM6
  have HM6 : Hid _ := hM6
  have kc : ∀ i, w6.cell? ⟨w.heap.size, i, none⟩ = (tcA q.src q.dst q.seq q.ack q.flags q.win S q.urg (.slice ao lo co) (.slice bo lb cb))[i]? := hM6.cell 0 rfl
  clear hM6 HM5 k2 kf
  go_upto_region 14 with fail
  refine wp_letter (fun W => Mem w W [(w.heap.size, .cells (tcA q.src q.dst q.seq q.ack q.flags q.win S q.urg (.slice ao lo co) (.slice bo lb cb)) tcT), (w6.heap.size, .cells (tcA q.src q.dst q.seq q.ack q.flags q.win o q.urg (.slice ao lo co) (.slice bo lb cb)) tcT)]) (HM6.out.push w6.heap.size _ rfl) ?_
  intro w7 hM7
  generalize w6.heap.size = P at *
  have HM7 : Hid (Mem w w7 [(w.heap.size, .cells (tcA q.src q.dst q.seq q.ack q.flags q.win S q.urg (.slice ao lo co) (.slice bo lb cb)) tcT), (P, .cells (tcA q.src q.dst q.seq q.ack q.flags q.win o q.urg (.slice ao lo co) (.slice bo lb cb)) tcT)]) := hM7
  clear kc HM6
  have kc : ∀ i, w7.cell? ⟨w.heap.size, i, none⟩ = (tcA q.src q.dst q.seq q.ack q.flags q.win S q.urg (.slice ao lo co) (.slice bo lb cb))[i]? := hM7.cell 0 rfl
  have hva : ∀ W (L : List (Nat × Obj)) (c : Int), Mem w W L → TcV W 0 (.agg (tcA q.src q.dst q.seq q.ack q.flags q.win c q.urg (.slice ao lo co) (.slice bo lb cb))) (q.at c) := fun W L c hM => by
    have h := HQ.out.2.2.2.below hM.below (Nat.le_refl _)
    have e := HQ.out.2.1
    have e' := HQ.out.2.2.1
    subst e e'
    exact tcv_at h c
  have HVa : Hid _ := hva
  have hb := tright_any (HQ.out.1.at hS0 hS1) (hva w7 _ S hM7) s d s0 s1 d0 d1
  rw [HZ.out.1] at hb
  clear hM7 hva
  go_wp2_with fail
  refine hb.mono ?_
  rintro e w8 ⟨rfl, hb8⟩
  have hM8 := HM7.out.after hb8
  have HB8 : Hid (Below w.heap.size w w8) := hM8.below
  clear hb hb8 kc
  have kc : ∀ i, w8.cell? ⟨P, i, none⟩ = (tcA q.src q.dst q.seq q.ack q.flags q.win o q.urg (.slice ao lo co) (.slice bo lb cb))[i]? := hM8.cell 1 rfl
  have hb := tright_any (HQ.out.1.at o0 o1) (HVa.out w8 _ o hM8) s d s0 s1 d0 d1
  rw [HZ.out.2] at hb
  clear hM8 HM7 HVa HZ
  go_wp2_with fail
  refine hb.mono ?_
  rintro e w9 ⟨rfl, hb9⟩
  have HB9 : Hid (Below w.heap.size w w9) := HB8.out.trans (hb9.mono HB8.out.size)
  clear hb hb9 kc HB8
  by_cases ho : o = S
  · subst ho
    rw [show (decide (o = o) || (decide (o = 0) && decide (o = 65535)) || (decide (o = 65535) && decide (o = 0))) = true by simp]
    go_wp2_with fail
    go_ret
    exact ⟨by simp, HB9.out⟩
  have ho' : (o == S) = false := by simp [ho]
  by_cases h0 : S = 0
  · subst h0
    by_cases h6 : o = 65535
    · subst h6
      rw [show (decide ((65535 : Int) = 0) || (decide ((0 : Int) = 0) && decide ((65535 : Int) = 65535)) || (decide ((0 : Int) = 65535) && decide ((65535 : Int) = 0))) = true by decide]
      go_wp2_with fail
      go_ret
      exact ⟨by simp, HB9.out⟩
    · have h6' : (o == 65535) = false := by simp [h6]
      rw [show (decide (o = 0) || (decide ((0 : Int) = 0) && decide (o = 65535)) || (decide ((0 : Int) = 65535) && decide (o = 0))) = false by simp [ho, h6]]
      go_wp2_with fail
      go_ret
      exact ⟨by simp, HB9.out⟩
  have h0' : (S == 0) = false := by simp [h0]
  by_cases h5 : S = 65535
  · subst h5
    by_cases h6 : o = 0
    · subst h6
      rw [show (decide ((0 : Int) = 65535) || (decide ((65535 : Int) = 0) && decide ((0 : Int) = 65535)) || (decide ((65535 : Int) = 65535) && decide ((0 : Int) = 0))) = true by decide]
      go_wp2_with fail
      go_ret
      exact ⟨by simp, HB9.out⟩
    · have h6' : (o == 0) = false := by simp [h6]
      rw [show (decide (o = 65535) || (decide ((65535 : Int) = 0) && decide (o = 65535)) || (decide ((65535 : Int) = 65535) && decide (o = 0))) = false by simp [ho, h6]]
      go_wp2_with fail
      go_ret
      exact ⟨by simp, HB9.out⟩
  · have h5' : (S == 65535) = false := by simp [h5]
    rw [show (decide (o = S) || (decide (S = 0) && decide (o = 65535)) || (decide (S = 65535) && decide (o = 0))) = false by simp [ho, h0, h5]]
    go_wp2_with fail
    go_ret
    exact ⟨by simp, HB9.out⟩
end Go.Proofs.Ytemljieghamegaa
