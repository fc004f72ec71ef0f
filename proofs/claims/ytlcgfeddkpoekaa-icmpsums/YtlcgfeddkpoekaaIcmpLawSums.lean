/-
  The walk of lychlaw6.IcmpSums: it answers true.
-/
import Derived.Test.YtlcgfeddkpoekaaIcmpLaws
namespace Go.Proofs.Ytlcgfeddkpoekaa
open Go.RowKit
open Sm
set_option linter.unusedVariables false

set_option maxRecDepth 20000 in
set_option maxHeartbeats 1000000 in
theorem msums_long {w : World} (q : Mg) (bo : Option Addr) (lb cb : Nat) (o : Int) (h : 3000 < lb) :
    Calls Try.prog 5 #[.agg (mgB q bo lb cb), .int .u16 o] w fun e w' => e = .returned (.bool true) ∧ Below w.heap.size w w' := by
  have hk := mknown_any (w.alloc (.cells (mgB q bo lb cb) mgT))
  have h' : (3000 : Int) < lb := by omega
  clear h
  go_enter Try.func5, Try.ntmps5
  go_wp2_with fail
  refine hk.mono ?_
  rintro e w2 ⟨rfl, hbel⟩
  have hM := ((Mem.nil w).push w.heap.size (.cells (mgB q bo lb cb) mgT) rfl).after hbel
  have HM : Hid _ := hM
  have k4 : w2.cell? ⟨w.heap.size, 4, none⟩ = some (.slice bo lb cb) := hM.cell 0 rfl 4
  clear hM hbel hk
  go_wp2_with fail
  go_ret
  exact ⟨rfl, HM.out.below⟩

set_option linter.unusedSimpArgs false in
set_option maxRecDepth 20000 in
set_option maxHeartbeats 4000000 in
theorem msums_core {w : World} (q : Mg) (hq : q.Ok) {bo : Option Addr} (lb cb : Nat) (hl : q.body.length = lb) (hv : MgV w 0 (.agg (mgB q bo lb cb)) q) (h1 : lb ≤ 3000) (o : Int) (o0 : 0 ≤ o) (o1 : o ≤ 65535) :
    Calls Try.prog 5 #[.agg (mgB q bo lb cb), .int .u16 o] w fun e w' => e = .returned (.bool true) ∧ Below w.heap.size w w' := by
  have hk := mknown_any (w.alloc (.cells (mgB q bo lb cb) mgT))
  have h1' : (lb : Int) ≤ 3000 := by omega
  have hsr := msum_range q
  have eE : mgbErr q = 0 := (mfits_iff q).mpr (by omega)
  have hself := mright_own hq eE
  obtain ⟨S, eS⟩ : ∃ S, msum q = S := ⟨_, rfl⟩
  obtain ⟨R, eR⟩ : ∃ R, mright q = R := ⟨_, rfl⟩
  obtain ⟨Z, eZ⟩ : ∃ Z, mright (q.at o) = Z := ⟨_, rfl⟩
  rw [eS] at hself hsr
  have HQ : Hid (q.Ok ∧ q.body.length = lb ∧ MgV w 0 (.agg (mgB q bo lb cb)) q) := ⟨hq, hl, hv⟩
  have HF : Hid (msum q = S ∧ mright q = R ∧ mright (q.at S) = true ∧ mright (q.at o) = Z ∧ 0 ≤ S ∧ S ≤ 65535 ∧ 0 ≤ o ∧ o ≤ 65535) := ⟨eS, eR, hself, eZ, hsr.1, hsr.2, o0, o1⟩
  clear hq hv h1 hl hsr eE eS hself eR eZ o0 o1
  go_enter Try.func5, Try.ntmps5
  go_wp2_with fail
  refine hk.mono ?_
  rintro e w2 ⟨rfl, hbel⟩
  have hM := ((Mem.nil w).push w.heap.size (.cells (mgB q bo lb cb) mgT) rfl).after hbel
  have HM2 : Hid (Mem w w2 [(w.heap.size, .cells (mgB q bo lb cb) mgT)]) := hM
  have kc : ∀ i, w2.cell? ⟨w.heap.size, i, none⟩ = (mgB q bo lb cb)[i]? := hM.cell 0 rfl
  have hb := msum_any HQ.out.1 (HQ.out.2.2.below hM.below (Nat.le_refl _))
  rw [HF.out.1] at hb
  clear hM hbel hk
  go_wp2_with fail
  refine hb.mono ?_
  rintro e w3 ⟨rfl, hbel3⟩
  have hM := HM2.out.after hbel3
  clear hb kc HM2 hbel3
  have HM3 : Hid (Mem w w3 [(w.heap.size, .cells (mgB q bo lb cb) mgT)]) := hM
  have D0 : w3.cell? ⟨w.heap.size, 0, none⟩ = some (.int .u8 q.typ) := hM.cell 0 rfl 0
  have D1 : w3.cell? ⟨w.heap.size, 1, none⟩ = some (.int .u8 q.code) := hM.cell 0 rfl 1
  have D2 : w3.cell? ⟨w.heap.size, 2, none⟩ = some (.int .u16 q.sum) := hM.cell 0 rfl 2
  have D3 : w3.cell? ⟨w.heap.size, 3, none⟩ = some (.int .u32 q.rest) := hM.cell 0 rfl 3
  have D4 : w3.cell? ⟨w.heap.size, 4, none⟩ = some (.slice bo lb cb) := hM.cell 0 rfl 4
  have q1 := rmsum_any HQ.out.1 (HQ.out.2.2.below hM.drew.below (Nat.le_refl _))
  rw [HF.out.1] at q1
  have HQ2 : Hid (∀ W, Mem w W [(w.heap.size, .cells (mgB q bo lb cb) mgT)] → Calls Try.prog 21 #[.agg (mgB q bo lb cb)] W fun r w' => r = .returned (.bool R) ∧ Below W.heap.size W w') := fun W hW => by
    have := mright_any HQ.out.1 (HQ.out.2.2.below hW.below (Nat.le_refl _))
    rw [HF.out.2.1] at this
    exact this
  have HQ3 : Hid (∀ W, Mem w W [(w.heap.size, .cells (mgB q bo lb cb) mgT)] → Calls Try.prog 22 #[.agg (mgB q bo lb cb)] W fun r w' => r = .returned (.bool R) ∧ Below W.heap.size W w') := fun W hW => by
    have := rmright_any HQ.out.1 (HQ.out.2.2.below hW.below (Nat.le_refl _))
    rw [HF.out.2.1] at this
    exact this
  clear hM
  go_upto_region 6 with fail
  go_cut [25] from 15 (fun s25 wx => s25 = .bool false ∧ Mem w wx [(w.heap.size, .cells (mgB q bo lb cb) mgT)])
  case first =>
    go_region_held3 (fun w' => w'.cell? ⟨w.heap.size, 0, none⟩ = some (.int .u8 q.typ) ∧ w'.cell? ⟨w.heap.size, 1, none⟩ = some (.int .u8 q.code) ∧ w'.cell? ⟨w.heap.size, 2, none⟩ = some (.int .u16 q.sum) ∧ w'.cell? ⟨w.heap.size, 3, none⟩ = some (.int .u32 q.rest) ∧ w'.cell? ⟨w.heap.size, 4, none⟩ = some (.slice bo lb cb))
      (first | go_keep | exact ⟨hM5.cell 0 rfl 0, hM5.cell 0 rfl 1, hM5.cell 0 rfl 2, hM5.cell 0 rfl 3, hM5.cell 0 rfl 4⟩ | exact ⟨hM6.cell 0 rfl 0, hM6.cell 0 rfl 1, hM6.cell 0 rfl 2, hM6.cell 0 rfl 3, hM6.cell 0 rfl 4⟩ | exact ⟨hM7.cell 0 rfl 0, hM7.cell 0 rfl 1, hM7.cell 0 rfl 2, hM7.cell 0 rfl 3, hM7.cell 0 rfl 4⟩)
      (first
        | (go_at_call 20; with_reducible refine q1.mono ?_; rintro e w5 ⟨rfl, hb5⟩; have hM5 := HM3.out.drew.after hb5)
        | (go_at_call 21; with_reducible refine (HQ2.out _ hM5).mono ?_; rintro e w6 ⟨rfl, hb6⟩; have hM6 := hM5.after hb6)
        | (go_at_call 22; with_reducible refine (HQ3.out _ hM6).mono ?_; rintro e w7 ⟨rfl, hb7⟩; have hM7 := hM6.after hb7))
    all_goals
      go_wp2_with fail
      go_meet
      case rel => exact ⟨by simp, hM7⟩
  case rest =>
  obtain ⟨rfl, hM4⟩ := hcut
  clear D0 D1 D2 D3 D4 q1 HQ2 HQ3 HM3
  have HM5 : Hid (Mem w wc [(w.heap.size, .cells (mgB q bo lb cb) mgT)]) := hM4
  have k2 : wc.cell? ⟨w.heap.size, 2, none⟩ = some (.int .u16 q.sum) := hM4.cell 0 rfl 2
  have kf : ∀ i, wc.frozen? ⟨w.heap.size, i, none⟩ = false := hM4.free 0 rfl
  clear hM4
  go_upto_region 9 with fail
  refine wp_letter (fun W => Mem w W [(w.heap.size, .cells (mgA q.typ q.code S q.rest (.slice bo lb cb)) mgT)]) (HM5.out.set 0 rfl 2 (.int .u16 S)) ?_
  intro w6 hM6
  have HM6 : Hid _ := hM6
  have kc : ∀ i, w6.cell? ⟨w.heap.size, i, none⟩ = (mgA q.typ q.code S q.rest (.slice bo lb cb))[i]? := hM6.cell 0 rfl
  clear hM6 HM5 k2 kf
  go_upto_region 11 with fail
  refine wp_letter (fun W => Mem w W [(w.heap.size, .cells (mgA q.typ q.code S q.rest (.slice bo lb cb)) mgT), (w6.heap.size, .cells (mgA q.typ q.code o q.rest (.slice bo lb cb)) mgT)]) (HM6.out.push w6.heap.size _ rfl) ?_
  intro w7 hM7
  generalize w6.heap.size = P at *
  have HM7' : Hid (Mem w w7 [(w.heap.size, .cells (mgA q.typ q.code S q.rest (.slice bo lb cb)) mgT), (P, .cells (mgA q.typ q.code o q.rest (.slice bo lb cb)) mgT)]) := hM7
  have HM7 : Hid (Mem w w7.drew [(w.heap.size, .cells (mgA q.typ q.code S q.rest (.slice bo lb cb)) mgT), (P, .cells (mgA q.typ q.code o q.rest (.slice bo lb cb)) mgT)]) := hM7.drew
  clear kc HM6 hM7
  have hva : ∀ W (L : List (Nat × Obj)) (c : Int), Mem w W L → MgV W 0 (.agg (mgA q.typ q.code c q.rest (.slice bo lb cb))) (q.at c) := fun W L c hM => by
    have h := HQ.out.2.2.below hM.below (Nat.le_refl _)
    have e := HQ.out.2.1
    subst e
    exact mgv_at h c
  have HPA : Hid (∀ W, Mem w W [(w.heap.size, .cells (mgA q.typ q.code S q.rest (.slice bo lb cb)) mgT), (P, .cells (mgA q.typ q.code o q.rest (.slice bo lb cb)) mgT)] → Calls Try.prog 21 #[.agg (mgA q.typ q.code S q.rest (.slice bo lb cb))] W fun r w' => r = .returned (.bool true) ∧ Below W.heap.size W w') := fun W hW => by
    have := mright_any (HQ.out.1.at HF.out.2.2.2.2.1 HF.out.2.2.2.2.2.1) (hva W _ S hW)
    rw [HF.out.2.2.1] at this
    exact this
  have HRA : Hid (∀ W, Mem w W [(w.heap.size, .cells (mgA q.typ q.code S q.rest (.slice bo lb cb)) mgT), (P, .cells (mgA q.typ q.code o q.rest (.slice bo lb cb)) mgT)] → Calls Try.prog 22 #[.agg (mgA q.typ q.code S q.rest (.slice bo lb cb))] W fun r w' => r = .returned (.bool true) ∧ Below W.heap.size W w') := fun W hW => by
    have := rmright_any (HQ.out.1.at HF.out.2.2.2.2.1 HF.out.2.2.2.2.2.1) (hva W _ S hW)
    rw [HF.out.2.2.1] at this
    exact this
  have HPB : Hid (∀ W, Mem w W [(w.heap.size, .cells (mgA q.typ q.code S q.rest (.slice bo lb cb)) mgT), (P, .cells (mgA q.typ q.code o q.rest (.slice bo lb cb)) mgT)] → Calls Try.prog 21 #[.agg (mgA q.typ q.code o q.rest (.slice bo lb cb))] W fun r w' => r = .returned (.bool Z) ∧ Below W.heap.size W w') := fun W hW => by
    have := mright_any (HQ.out.1.at HF.out.2.2.2.2.2.2.1 HF.out.2.2.2.2.2.2.2) (hva W _ o hW)
    rw [HF.out.2.2.2.1] at this
    exact this
  have HRB : Hid (∀ W, Mem w W [(w.heap.size, .cells (mgA q.typ q.code S q.rest (.slice bo lb cb)) mgT), (P, .cells (mgA q.typ q.code o q.rest (.slice bo lb cb)) mgT)] → Calls Try.prog 22 #[.agg (mgA q.typ q.code o q.rest (.slice bo lb cb))] W fun r w' => r = .returned (.bool Z) ∧ Below W.heap.size W w') := fun W hW => by
    have := rmright_any (HQ.out.1.at HF.out.2.2.2.2.2.2.1 HF.out.2.2.2.2.2.2.2) (hva W _ o hW)
    rw [HF.out.2.2.2.1] at this
    exact this
  clear hva HF
  by_cases h5 : S = 65535
  · subst h5
    have A0 : w7.cell? ⟨w.heap.size, 0, none⟩ = some (.int .u8 q.typ) := HM7'.out.cell 0 rfl 0
    have A1 : w7.cell? ⟨w.heap.size, 1, none⟩ = some (.int .u8 q.code) := HM7'.out.cell 0 rfl 1
    have A2 : w7.cell? ⟨w.heap.size, 2, none⟩ = some (.int .u16 65535) := HM7'.out.cell 0 rfl 2
    have A3 : w7.cell? ⟨w.heap.size, 3, none⟩ = some (.int .u32 q.rest) := HM7'.out.cell 0 rfl 3
    have A4 : w7.cell? ⟨w.heap.size, 4, none⟩ = some (.slice bo lb cb) := HM7'.out.cell 0 rfl 4
    have B0 : w7.cell? ⟨P, 0, none⟩ = some (.int .u8 q.typ) := HM7'.out.cell 1 rfl 0
    have B1 : w7.cell? ⟨P, 1, none⟩ = some (.int .u8 q.code) := HM7'.out.cell 1 rfl 1
    have B2 : w7.cell? ⟨P, 2, none⟩ = some (.int .u16 o) := HM7'.out.cell 1 rfl 2
    have B3 : w7.cell? ⟨P, 3, none⟩ = some (.int .u32 q.rest) := HM7'.out.cell 1 rfl 3
    have B4 : w7.cell? ⟨P, 4, none⟩ = some (.slice bo lb cb) := HM7'.out.cell 1 rfl 4
    clear HM7'
    go_region_held3 (fun w' => w'.cell? ⟨w.heap.size, 0, none⟩ = some (.int .u8 q.typ) ∧ w'.cell? ⟨w.heap.size, 1, none⟩ = some (.int .u8 q.code) ∧ w'.cell? ⟨w.heap.size, 2, none⟩ = some (.int .u16 65535) ∧ w'.cell? ⟨w.heap.size, 3, none⟩ = some (.int .u32 q.rest) ∧ w'.cell? ⟨w.heap.size, 4, none⟩ = some (.slice bo lb cb) ∧ w'.cell? ⟨P, 0, none⟩ = some (.int .u8 q.typ) ∧ w'.cell? ⟨P, 1, none⟩ = some (.int .u8 q.code) ∧ w'.cell? ⟨P, 2, none⟩ = some (.int .u16 o) ∧ w'.cell? ⟨P, 3, none⟩ = some (.int .u32 q.rest) ∧ w'.cell? ⟨P, 4, none⟩ = some (.slice bo lb cb))
      (first | go_keep | exact ⟨hM8.cell 0 rfl 0, hM8.cell 0 rfl 1, hM8.cell 0 rfl 2, hM8.cell 0 rfl 3, hM8.cell 0 rfl 4, hM8.cell 1 rfl 0, hM8.cell 1 rfl 1, hM8.cell 1 rfl 2, hM8.cell 1 rfl 3, hM8.cell 1 rfl 4⟩ | exact ⟨hM9.cell 0 rfl 0, hM9.cell 0 rfl 1, hM9.cell 0 rfl 2, hM9.cell 0 rfl 3, hM9.cell 0 rfl 4, hM9.cell 1 rfl 0, hM9.cell 1 rfl 1, hM9.cell 1 rfl 2, hM9.cell 1 rfl 3, hM9.cell 1 rfl 4⟩ | exact ⟨hM10.cell 0 rfl 0, hM10.cell 0 rfl 1, hM10.cell 0 rfl 2, hM10.cell 0 rfl 3, hM10.cell 0 rfl 4, hM10.cell 1 rfl 0, hM10.cell 1 rfl 1, hM10.cell 1 rfl 2, hM10.cell 1 rfl 3, hM10.cell 1 rfl 4⟩ | exact ⟨hM11.cell 0 rfl 0, hM11.cell 0 rfl 1, hM11.cell 0 rfl 2, hM11.cell 0 rfl 3, hM11.cell 0 rfl 4, hM11.cell 1 rfl 0, hM11.cell 1 rfl 1, hM11.cell 1 rfl 2, hM11.cell 1 rfl 3, hM11.cell 1 rfl 4⟩ | exact ⟨hM12.cell 0 rfl 0, hM12.cell 0 rfl 1, hM12.cell 0 rfl 2, hM12.cell 0 rfl 3, hM12.cell 0 rfl 4, hM12.cell 1 rfl 0, hM12.cell 1 rfl 1, hM12.cell 1 rfl 2, hM12.cell 1 rfl 3, hM12.cell 1 rfl 4⟩ | exact ⟨hM13.cell 0 rfl 0, hM13.cell 0 rfl 1, hM13.cell 0 rfl 2, hM13.cell 0 rfl 3, hM13.cell 0 rfl 4, hM13.cell 1 rfl 0, hM13.cell 1 rfl 1, hM13.cell 1 rfl 2, hM13.cell 1 rfl 3, hM13.cell 1 rfl 4⟩)
      (first
      | (go_at_call 22; with_reducible refine (HRA.out _ HM7.out).mono ?_; rintro e w8 ⟨rfl, hb8⟩; have hM8 := HM7.out.after hb8)
      | (go_at_call 21; with_reducible refine (HPA.out w8 hM8).mono ?_; rintro e w9 ⟨rfl, hb9⟩; have hM9 := hM8.after hb9)
      | (go_at_call 21; with_reducible refine (HPB.out w9 hM9).mono ?_; rintro e w10 ⟨rfl, hb10⟩; have hM10 := hM9.after hb10)
      | (go_at_call 22; with_reducible refine (HRB.out w10 hM10).mono ?_; rintro e w11 ⟨rfl, hb11⟩; have hM11 := hM10.after hb11)
      | (go_at_call 21; with_reducible refine (HPA.out w11 hM11).mono ?_; rintro e w12 ⟨rfl, hb12⟩; have hM12 := hM11.after hb12)
      | (go_at_call 22; with_reducible refine (HRA.out w12 hM12).mono ?_; rintro e w13 ⟨rfl, hb13⟩; have hM13 := hM12.after hb13))
    all_goals
      have HBz : Hid (Below w.heap.size w w13) := hM13.below
      clear hM8 hM9 hM10 hM11 hM12 hM13 hb8 hb9 hb10 hb11 hb12 hb13
      go_wp2_with fail
      go_ret
      exact ⟨by simp, HBz.out⟩
  · have h5' : (S != 65535) = true := by simp [h5]
    have A0 : w7.cell? ⟨w.heap.size, 0, none⟩ = some (.int .u8 q.typ) := HM7'.out.cell 0 rfl 0
    have A1 : w7.cell? ⟨w.heap.size, 1, none⟩ = some (.int .u8 q.code) := HM7'.out.cell 0 rfl 1
    have A2 : w7.cell? ⟨w.heap.size, 2, none⟩ = some (.int .u16 S) := HM7'.out.cell 0 rfl 2
    have A3 : w7.cell? ⟨w.heap.size, 3, none⟩ = some (.int .u32 q.rest) := HM7'.out.cell 0 rfl 3
    have A4 : w7.cell? ⟨w.heap.size, 4, none⟩ = some (.slice bo lb cb) := HM7'.out.cell 0 rfl 4
    have B0 : w7.cell? ⟨P, 0, none⟩ = some (.int .u8 q.typ) := HM7'.out.cell 1 rfl 0
    have B1 : w7.cell? ⟨P, 1, none⟩ = some (.int .u8 q.code) := HM7'.out.cell 1 rfl 1
    have B2 : w7.cell? ⟨P, 2, none⟩ = some (.int .u16 o) := HM7'.out.cell 1 rfl 2
    have B3 : w7.cell? ⟨P, 3, none⟩ = some (.int .u32 q.rest) := HM7'.out.cell 1 rfl 3
    have B4 : w7.cell? ⟨P, 4, none⟩ = some (.slice bo lb cb) := HM7'.out.cell 1 rfl 4
    clear HM7'
    refine wp_region_held_drew (S := (fun w' => w'.cell? ⟨w.heap.size, 0, none⟩ = some (.int .u8 q.typ) ∧ w'.cell? ⟨w.heap.size, 1, none⟩ = some (.int .u8 q.code) ∧ w'.cell? ⟨w.heap.size, 2, none⟩ = some (.int .u16 S) ∧ w'.cell? ⟨w.heap.size, 3, none⟩ = some (.int .u32 q.rest) ∧ w'.cell? ⟨w.heap.size, 4, none⟩ = some (.slice bo lb cb) ∧ w'.cell? ⟨P, 0, none⟩ = some (.int .u8 q.typ) ∧ w'.cell? ⟨P, 1, none⟩ = some (.int .u8 q.code) ∧ w'.cell? ⟨P, 2, none⟩ = some (.int .u16 o) ∧ w'.cell? ⟨P, 3, none⟩ = some (.int .u32 q.rest) ∧ w'.cell? ⟨P, 4, none⟩ = some (.slice bo lb cb))) (by kernel_rfl) ⟨HM7.out.cell 0 rfl 0, HM7.out.cell 0 rfl 1, HM7.out.cell 0 rfl 2, HM7.out.cell 0 rfl 3, HM7.out.cell 0 rfl 4, HM7.out.cell 1 rfl 0, HM7.out.cell 1 rfl 1, HM7.out.cell 1 rfl 2, HM7.out.cell 1 rfl 3, HM7.out.cell 1 rfl 4⟩ (fun hHeld => ?_)
    refine wpAnyH_take (i := 0) (v := ?_) rfl (by kernel_rfl) (by kernel_rfl) (by kernel_rfl) (fun _ _ _ h => h) (Or.inl ⟨by rfl, ?hy1⟩) (by assumption) ?rest1
    case hy1 =>
      intro w hSw
      (try dsimp only at hSw)
      go_simp
      all_goals with_reducible rfl
    try simp only [List.getElem_toArray, List.getElem_cons_zero, List.getElem_cons_succ, Act.put, List.setIfInBounds_toArray, List.set_cons_zero, List.set_cons_succ]
    refine wpAnyH_take (i := 2) (v := ?_) rfl (by kernel_rfl) (by kernel_rfl) (by kernel_rfl) (fun _ _ _ h => h) (Or.inl ⟨by rfl, ?hy2⟩) (by assumption) ?rest2
    case hy2 =>
      intro w hSw
      (try dsimp only at hSw)
      go_simp
      all_goals with_reducible rfl
    try simp only [List.getElem_toArray, List.getElem_cons_zero, List.getElem_cons_succ, Act.put, List.setIfInBounds_toArray, List.set_cons_zero, List.set_cons_succ]
    refine wpAnyH_ready (rs := [1]) (by kernel_rfl) (by simp) ?_
    refine AllReadyH.cons rfl (fun K hK => ?_) AllReadyH.nil
    go_simp
    with_reducible refine (HRA.out _ HM7.out).mono ?_
    rintro e w8 ⟨rfl, hb8⟩
    have hM8 := HM7.out.after hb8
    refine hK.out _ _ ⟨hM8.cell 0 rfl 0, hM8.cell 0 rfl 1, hM8.cell 0 rfl 2, hM8.cell 0 rfl 3, hM8.cell 0 rfl 4, hM8.cell 1 rfl 0, hM8.cell 1 rfl 1, hM8.cell 1 rfl 2, hM8.cell 1 rfl 3, hM8.cell 1 rfl 4⟩ (fun hHeld => ?_)
    clear hK K
    try simp only [List.getElem_toArray, List.getElem_cons_zero, List.getElem_cons_succ, Act.put, List.setIfInBounds_toArray, List.set_cons_zero, List.set_cons_succ]
    refine wpAnyH_ready (rs := [3]) (by kernel_rfl) (by simp) ?_
    refine AllReadyH.cons rfl (fun K hK => ?_) AllReadyH.nil
    go_simp
    with_reducible refine (HPA.out w8 hM8).mono ?_
    rintro e w9 ⟨rfl, hb9⟩
    have hM9 := hM8.after hb9
    refine hK.out _ _ ⟨hM9.cell 0 rfl 0, hM9.cell 0 rfl 1, hM9.cell 0 rfl 2, hM9.cell 0 rfl 3, hM9.cell 0 rfl 4, hM9.cell 1 rfl 0, hM9.cell 1 rfl 1, hM9.cell 1 rfl 2, hM9.cell 1 rfl 3, hM9.cell 1 rfl 4⟩ (fun hHeld => ?_)
    clear hK K
    try simp only [List.getElem_toArray, List.getElem_cons_zero, List.getElem_cons_succ, Act.put, List.setIfInBounds_toArray, List.set_cons_zero, List.set_cons_succ]
    refine wpAnyH_take (i := 4) (v := ?_) rfl (by kernel_rfl) (by kernel_rfl) (by kernel_rfl) (fun _ _ _ h => h) (Or.inl ⟨by rfl, ?hy3⟩) (by assumption) ?rest3
    case hy3 =>
      intro w hSw
      (try dsimp only at hSw)
      go_simp
      all_goals with_reducible rfl
    try simp only [List.getElem_toArray, List.getElem_cons_zero, List.getElem_cons_succ, Act.put, List.setIfInBounds_toArray, List.set_cons_zero, List.set_cons_succ]
    refine wpAnyH_take (i := 5) (v := ?_) rfl (by kernel_rfl) (by kernel_rfl) (by kernel_rfl) (fun _ _ _ h => h) (Or.inl ⟨by rfl, ?hy4⟩) (by assumption) ?rest4
    case hy4 =>
      intro w hSw
      (try dsimp only at hSw)
      go_simp
      all_goals with_reducible rfl
    try simp only [List.getElem_toArray, List.getElem_cons_zero, List.getElem_cons_succ, Act.put, List.setIfInBounds_toArray, List.set_cons_zero, List.set_cons_succ]
    refine wpAnyH_take (i := 6) (v := ?_) rfl (by kernel_rfl) (by kernel_rfl) (by kernel_rfl) (fun _ _ _ h => h) (Or.inl ⟨by rfl, ?hy5⟩) (by assumption) ?rest5
    case hy5 =>
      intro w hSw
      (try dsimp only at hSw)
      go_simp
      all_goals with_reducible rfl
    try simp only [List.getElem_toArray, List.getElem_cons_zero, List.getElem_cons_succ, Act.put, List.setIfInBounds_toArray, List.set_cons_zero, List.set_cons_succ]
    refine wpAnyH_take (i := 8) (v := ?_) rfl (by kernel_rfl) (by kernel_rfl) (by kernel_rfl) (fun _ _ _ h => h) (Or.inl ⟨by rfl, ?hy6⟩) (by assumption) ?rest6
    case hy6 =>
      intro w hSw
      (try dsimp only at hSw)
      go_simp
      all_goals with_reducible rfl
    try simp only [List.getElem_toArray, List.getElem_cons_zero, List.getElem_cons_succ, Act.put, List.setIfInBounds_toArray, List.set_cons_zero, List.set_cons_succ]
    refine wpAnyH_ready (rs := [7]) (by kernel_rfl) (by simp) ?_
    refine AllReadyH.cons rfl (fun K hK => ?_) AllReadyH.nil
    go_simp
    with_reducible refine (HPB.out w9 hM9).mono ?_
    rintro e w10 ⟨rfl, hb10⟩
    have hM10 := hM9.after hb10
    refine hK.out _ _ ⟨hM10.cell 0 rfl 0, hM10.cell 0 rfl 1, hM10.cell 0 rfl 2, hM10.cell 0 rfl 3, hM10.cell 0 rfl 4, hM10.cell 1 rfl 0, hM10.cell 1 rfl 1, hM10.cell 1 rfl 2, hM10.cell 1 rfl 3, hM10.cell 1 rfl 4⟩ (fun hHeld => ?_)
    clear hK K
    try simp only [List.getElem_toArray, List.getElem_cons_zero, List.getElem_cons_succ, Act.put, List.setIfInBounds_toArray, List.set_cons_zero, List.set_cons_succ]
    refine wpAnyH_ready (rs := [9]) (by kernel_rfl) (by simp) ?_
    refine AllReadyH.cons rfl (fun K hK => ?_) AllReadyH.nil
    go_simp
    with_reducible refine (HRB.out w10 hM10).mono ?_
    rintro e w11 ⟨rfl, hb11⟩
    have hM11 := hM10.after hb11
    refine hK.out _ _ ⟨hM11.cell 0 rfl 0, hM11.cell 0 rfl 1, hM11.cell 0 rfl 2, hM11.cell 0 rfl 3, hM11.cell 0 rfl 4, hM11.cell 1 rfl 0, hM11.cell 1 rfl 1, hM11.cell 1 rfl 2, hM11.cell 1 rfl 3, hM11.cell 1 rfl 4⟩ (fun hHeld => ?_)
    clear hK K
    try simp only [List.getElem_toArray, List.getElem_cons_zero, List.getElem_cons_succ, Act.put, List.setIfInBounds_toArray, List.set_cons_zero, List.set_cons_succ]
    refine wpAnyH_take (i := 10) (v := ?_) rfl (by kernel_rfl) (by kernel_rfl) (by kernel_rfl) (fun _ _ _ h => h) (Or.inl ⟨by rfl, ?hy7⟩) (by assumption) ?rest7
    case hy7 =>
      intro w hSw
      (try dsimp only at hSw)
      go_simp
      all_goals with_reducible rfl
    try simp only [List.getElem_toArray, List.getElem_cons_zero, List.getElem_cons_succ, Act.put, List.setIfInBounds_toArray, List.set_cons_zero, List.set_cons_succ]
    refine wpAnyH_take (i := 11) (v := ?_) rfl (by kernel_rfl) (by kernel_rfl) (by kernel_rfl) (fun _ _ _ h => h) (Or.inl ⟨by rfl, ?hy8⟩) (by assumption) ?rest8
    case hy8 =>
      intro w hSw
      (try dsimp only at hSw)
      go_simp
      all_goals with_reducible rfl
    try simp only [List.getElem_toArray, List.getElem_cons_zero, List.getElem_cons_succ, Act.put, List.setIfInBounds_toArray, List.set_cons_zero, List.set_cons_succ]
    refine wpAnyH_take (i := 12) (v := ?_) rfl (by kernel_rfl) (by kernel_rfl) (by kernel_rfl) (fun _ _ _ h => h) (Or.inl ⟨by rfl, ?hy9⟩) (by assumption) ?rest9
    case hy9 =>
      intro w hSw
      (try dsimp only at hSw)
      go_simp
      all_goals with_reducible rfl
    try simp only [List.getElem_toArray, List.getElem_cons_zero, List.getElem_cons_succ, Act.put, List.setIfInBounds_toArray, List.set_cons_zero, List.set_cons_succ]
    refine wpAnyH_take (i := 13) (v := ?_) rfl (by kernel_rfl) (by kernel_rfl) (by kernel_rfl) (fun _ _ _ h => h) (Or.inl ⟨by rfl, ?hy10⟩) (by assumption) ?rest10
    case hy10 =>
      intro w hSw
      (try dsimp only at hSw)
      go_simp
      all_goals with_reducible rfl
    try simp only [List.getElem_toArray, List.getElem_cons_zero, List.getElem_cons_succ, Act.put, List.setIfInBounds_toArray, List.set_cons_zero, List.set_cons_succ]
    refine wpAnyH_take (i := 15) (v := ?_) rfl (by kernel_rfl) (by kernel_rfl) (by kernel_rfl) (fun _ _ _ h => h) (Or.inl ⟨by rfl, ?hy11⟩) (by assumption) ?rest11
    case hy11 =>
      intro w hSw
      (try dsimp only at hSw)
      go_simp
      all_goals with_reducible rfl
    try simp only [List.getElem_toArray, List.getElem_cons_zero, List.getElem_cons_succ, Act.put, List.setIfInBounds_toArray, List.set_cons_zero, List.set_cons_succ]
    refine wpAnyH_take (i := 16) (v := ?_) rfl (by kernel_rfl) (by kernel_rfl) (by kernel_rfl) (fun _ _ _ h => h) (Or.inl ⟨by rfl, ?hy12⟩) (by assumption) ?rest12
    case hy12 =>
      intro w hSw
      (try dsimp only at hSw)
      go_simp
      all_goals with_reducible rfl
    try simp only [List.getElem_toArray, List.getElem_cons_zero, List.getElem_cons_succ, Act.put, List.setIfInBounds_toArray, List.set_cons_zero, List.set_cons_succ]
    refine wpAnyH_ready (rs := [14]) (by kernel_rfl) (by simp) ?_
    refine AllReadyH.cons rfl (fun K hK => ?_) AllReadyH.nil
    go_simp
    with_reducible refine (HPA.out w11 hM11).mono ?_
    rintro e w12 ⟨rfl, hb12⟩
    have hM12 := hM11.after hb12
    refine hK.out _ _ ⟨hM12.cell 0 rfl 0, hM12.cell 0 rfl 1, hM12.cell 0 rfl 2, hM12.cell 0 rfl 3, hM12.cell 0 rfl 4, hM12.cell 1 rfl 0, hM12.cell 1 rfl 1, hM12.cell 1 rfl 2, hM12.cell 1 rfl 3, hM12.cell 1 rfl 4⟩ (fun hHeld => ?_)
    clear hK K
    try simp only [List.getElem_toArray, List.getElem_cons_zero, List.getElem_cons_succ, Act.put, List.setIfInBounds_toArray, List.set_cons_zero, List.set_cons_succ]
    refine wpAnyH_take (i := 17) (v := ?_) rfl (by kernel_rfl) (by kernel_rfl) (by kernel_rfl) (fun _ _ _ h => h) (Or.inl ⟨by rfl, ?hy13⟩) (by assumption) ?rest13
    case hy13 =>
      intro w hSw
      (try dsimp only at hSw)
      go_simp
      all_goals with_reducible rfl
    try simp only [List.getElem_toArray, List.getElem_cons_zero, List.getElem_cons_succ, Act.put, List.setIfInBounds_toArray, List.set_cons_zero, List.set_cons_succ]
    refine wpAnyH_take (i := 18) (v := undef) rfl (by kernel_rfl) (by kernel_rfl) (by kernel_rfl) (fun _ _ _ h => h) (Or.inr ⟨by rfl, rfl⟩) (by assumption) ?_
    try simp only [List.getElem_toArray, List.getElem_cons_zero, List.getElem_cons_succ, Act.put, List.setIfInBounds_toArray, List.set_cons_zero, List.set_cons_succ]
    refine wpAnyH_ready (rs := [19]) (by kernel_rfl) (by simp) ?_
    refine AllReadyH.cons rfl (fun K hK => ?_) AllReadyH.nil
    go_simp
    refine hK.out _ _ ⟨hM12.cell 0 rfl 0, hM12.cell 0 rfl 1, hM12.cell 0 rfl 2, hM12.cell 0 rfl 3, hM12.cell 0 rfl 4, hM12.cell 1 rfl 0, hM12.cell 1 rfl 1, hM12.cell 1 rfl 2, hM12.cell 1 rfl 3, hM12.cell 1 rfl 4⟩ (fun hHeld => ?_)
    clear hK K
    try simp only [List.getElem_toArray, List.getElem_cons_zero, List.getElem_cons_succ, Act.put, List.setIfInBounds_toArray, List.set_cons_zero, List.set_cons_succ]
    refine wpAnyH_take (i := 20) (v := ?_) rfl (by kernel_rfl) (by kernel_rfl) (by kernel_rfl) (fun _ _ _ h => h) (Or.inl ⟨by rfl, ?hy14⟩) (by assumption) ?rest14
    case hy14 =>
      intro w hSw
      (try dsimp only at hSw)
      go_simp
      all_goals with_reducible rfl
    try simp only [List.getElem_toArray, List.getElem_cons_zero, List.getElem_cons_succ, Act.put, List.setIfInBounds_toArray, List.set_cons_zero, List.set_cons_succ]
    refine wpAnyH_take (i := 21) (v := ?_) rfl (by kernel_rfl) (by kernel_rfl) (by kernel_rfl) (fun _ _ _ h => h) (Or.inl ⟨by rfl, ?hy15⟩) (by assumption) ?rest15
    case hy15 =>
      intro w hSw
      (try dsimp only at hSw)
      go_simp
      all_goals with_reducible rfl
    try simp only [List.getElem_toArray, List.getElem_cons_zero, List.getElem_cons_succ, Act.put, List.setIfInBounds_toArray, List.set_cons_zero, List.set_cons_succ]
    refine wpAnyH_take (i := 22) (v := ?_) rfl (by kernel_rfl) (by kernel_rfl) (by kernel_rfl) (fun _ _ _ h => h) (Or.inl ⟨by rfl, ?hy16⟩) (by assumption) ?rest16
    case hy16 =>
      intro w hSw
      (try dsimp only at hSw)
      go_simp
      all_goals with_reducible rfl
    try simp only [List.getElem_toArray, List.getElem_cons_zero, List.getElem_cons_succ, Act.put, List.setIfInBounds_toArray, List.set_cons_zero, List.set_cons_succ]
    refine wpAnyH_take (i := 23) (v := ?_) rfl (by kernel_rfl) (by kernel_rfl) (by kernel_rfl) (fun _ _ _ h => h) (Or.inl ⟨by rfl, ?hy17⟩) (by assumption) ?rest17
    case hy17 =>
      intro w hSw
      (try dsimp only at hSw)
      go_simp
      all_goals with_reducible rfl
    try simp only [List.getElem_toArray, List.getElem_cons_zero, List.getElem_cons_succ, Act.put, List.setIfInBounds_toArray, List.set_cons_zero, List.set_cons_succ]
    refine wpAnyH_done (by kernel_rfl) ?_ _
    have HBz : Hid (Below w.heap.size w w12) := hM12.below
    clear hM8 hM9 hM10 hM11 hM12 hb8 hb9 hb10 hb11 hb12
    go_wp2_with fail
    go_ret
    exact ⟨by simp, HBz.out⟩
end Go.Proofs.Ytlcgfeddkpoekaa
