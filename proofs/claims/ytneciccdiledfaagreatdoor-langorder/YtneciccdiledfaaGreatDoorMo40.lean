/-
  Settings as text: the program's writer: a tenant's first line.
  Settings as text: the program's reader: a tenant's line.
-/
import Derived.Test.YtneciccdiledfaaGreatDoorMo39
namespace Go.Proofs.YtneciccdiledfaaGreatDoor
open Go.RowKit
open La
open Ad
open Sm (IsBytes)
set_option linter.unusedVariables false
set_option linter.unusedSimpArgs false
set_option maxRecDepth 20000

set_option maxHeartbeats 8000000 in
theorem wten_any {w V : World} {g : Nat} {l : List UInt8} {K : List (Nat × Obj)} {t : Ten} {p s q : Value} (hV : Vs w) (h : Bu w V g l K) (hl : TLen t) (hc : TBy t) (hr : TRg t) (hlen : l.length + (spc (txtH t)).length ≤ 90000000) :
    Calls Tryz.prog 33 #[.pointer (some ⟨g, 0, none⟩), .agg (tc t p s q).toArray] V fun e V' => e = .returned (.tuple #[]) ∧ Bu w V' g (l ++ spc (txtH t)) K := by
  obtain ⟨g1, hg1⟩ : ∃ g1, V.heap.size = g1 := ⟨_, rfl⟩
  have HP : Hid (Bu w (V.alloc (.cells (tc t p s q).toArray 45 (0, 0))) g l ((g1, .cells (tc t p s q).toArray 45 (0, 0)) :: K)) := h.push _ hg1.symm
  have KS0 : ∀ X L', Bu w X g L' ((g1, .cells (tc t p s q).toArray 45 (0, 0)) :: K) → X.cell? ⟨g1, 0, none⟩ = some (.string t.name) ∧ X.cell? ⟨g1, 1, none⟩ = some (.int .u32 t.vni) ∧ X.rangeAt g1 2 (u8s t.key) ∧ X.cell? ⟨g1, 10, none⟩ = some (.int .u32 t.vtep) ∧ X.rangeAt g1 11 (u8s t.vmac) ∧ X.rangeAt g1 17 (u8s t.host) := by
    intro X L' hX
    obtain ⟨a1, a2, a3, a4, a5, a6, -⟩ := ten_box hl hX.mem (List.mem_cons_self ..)
    exact ⟨a1, a2, a3, a4, a5, a6⟩
  have C1 := fun (X : World) (hb : Below w.heap.size w X) => number32_any (hV.below hb) t.vni hr.vni.1 hr.vni.2
  have C2 : ∀ X : World, Calls Tryz.prog 61 #[.agg (u8s t.key).toArray] X fun e w' => e = .returned (.string ⟨(keyt t.key).toArray⟩) ∧ Below X.heap.size X w' := fun (X : World) => keyt_any X t.key hl.key hc.key
  have C3 := fun (X : World) (hb : Below w.heap.size w X) => iptx hV hb t.vtep hr.vtep
  have C4 : ∀ X : World, Calls Tryz.prog 60 #[.agg (u8s t.vmac).toArray] X fun e w' => e = .returned (.string ⟨(mact t.vmac).toArray⟩) ∧ Below X.heap.size X w' := fun (X : World) => mact_any X t.vmac hl.vmac hc.vmac
  have C5 : ∀ X : World, Calls Tryz.prog 60 #[.agg (u8s t.host).toArray] X fun e w' => e = .returned (.string ⟨(mact t.host).toArray⟩) ∧ Below X.heap.size X w' := fun (X : World) => mact_any X t.host hl.host hc.host
  have i2 : (Tryz.prog.info? 26).map (·.size) = some (u8s t.key).length := by rw [List.length_map, hl.key]; kernel_rfl
  have i4 : (Tryz.prog.info? 25).map (·.size) = some (u8s t.vmac).length := by rw [List.length_map, hl.vmac]; kernel_rfl
  have i5 : (Tryz.prog.info? 25).map (·.size) = some (u8s t.host).length := by rw [List.length_map, hl.host]; kernel_rfl
  have hT : ∀ s0 s1 s2 s3 s4 s5 : ByteArray, t.name = s0 → ⟨(La.dec t.vni).toArray⟩ = s1 → ⟨(keyt t.key).toArray⟩ = s2 → ⟨(ipx t.vtep).toArray⟩ = s3 → ⟨(mact t.vmac).toArray⟩ = s4 → ⟨(mact t.host).toArray⟩ = s5 → [(⟨#[116, 101, 110, 97, 110, 116]⟩ : ByteArray), s0, ⟨#[118, 110, 105]⟩, s1, ⟨#[107, 101, 121]⟩, s2, ⟨#[118, 116, 101, 112]⟩, s3, s4, ⟨#[104, 111, 115, 116]⟩, s5].map (·.data.toList) = txtH t := by
    rintro s0 s1 s2 s3 s4 s5 rfl rfl rfl rfl rfl rfl; rfl
  obtain ⟨s0, hs0⟩ : ∃ s : ByteArray, t.name = s := ⟨_, rfl⟩
  obtain ⟨s1, hs1⟩ : ∃ s : ByteArray, ⟨(La.dec t.vni).toArray⟩ = s := ⟨_, rfl⟩
  obtain ⟨s2, hs2⟩ : ∃ s : ByteArray, ⟨(keyt t.key).toArray⟩ = s := ⟨_, rfl⟩
  obtain ⟨s3, hs3⟩ : ∃ s : ByteArray, ⟨(ipx t.vtep).toArray⟩ = s := ⟨_, rfl⟩
  obtain ⟨s4, hs4⟩ : ∃ s : ByteArray, ⟨(mact t.vmac).toArray⟩ = s := ⟨_, rfl⟩
  obtain ⟨s5, hs5⟩ : ∃ s : ByteArray, ⟨(mact t.host).toArray⟩ = s := ⟨_, rfl⟩
  have hT2 := hT s0 s1 s2 s3 s4 s5 hs0 hs1 hs2 hs3 hs4 hs5
  simp only [hs0] at KS0
  simp only [hs1] at C1
  simp only [hs2] at C2
  simp only [hs3] at C3
  simp only [hs4] at C4
  simp only [hs5] at C5
  obtain ⟨T, hTT⟩ : ∃ T, spc (txtH t) = T := ⟨_, rfl⟩
  obtain ⟨K1, hK1⟩ : ∃ K1, ((g1, Obj.cells (tc t p s q).toArray 45 (0, 0)) :: K) = K1 := ⟨_, rfl⟩
  have CL : Hid (∀ X, Bu w X g l K1 → Calls Tryz.prog 58 #[.pointer (some ⟨g, 0, none⟩), .slice (some ⟨X.heap.size, 0, none⟩) 11 11] (X.alloc (.cells #[.string ⟨#[116, 101, 110, 97, 110, 116]⟩, .string s0, .string ⟨#[118, 110, 105]⟩, .string s1, .string ⟨#[107, 101, 121]⟩, .string s2, .string ⟨#[118, 116, 101, 112]⟩, .string s3, .string s4, .string ⟨#[104, 111, 115, 116]⟩, .string s5] 9)) fun e V' => e = .returned (.tuple #[]) ∧ Bu w V' g (l ++ T) K1) := by
    intro X hX
    have := wlit_any hX [⟨#[116, 101, 110, 97, 110, 116]⟩, s0, ⟨#[118, 110, 105]⟩, s1, ⟨#[107, 101, 121]⟩, s2, ⟨#[118, 116, 101, 112]⟩, s3, s4, ⟨#[104, 111, 115, 116]⟩, s5] 11 rfl (by decide) (by rw [hT2]; exact hlen)
    rw [hT2, hTT] at this
    exact this
  rw [hTT]
  rw [hK1] at KS0 HP
  have HDr : Hid (∀ X L', Bu w X g L' K1 → Bu w X g L' K) := fun X L' hX => by rw [← hK1] at hX; exact hX.drop1
  clear hT hT2 hs0 hs1 hs2 hs3 hs4 hs5 hTT hK1 h hlen hc hr hl
  obtain ⟨A, hA⟩ : ∃ A, (tc t p s q).toArray = A := ⟨_, rfl⟩
  rw [hA] at HP ⊢
  clear hA
  generalize t.vni = n1 at *
  generalize t.vtep = n3 at *
  generalize u8s t.key = m2 at *
  generalize u8s t.vmac = m4 at *
  generalize u8s t.host = m5 at *
  have KS : Hid (∀ X L', Bu w X g L' K1 → X.cell? ⟨g1, 0, none⟩ = some (.string s0) ∧ X.cell? ⟨g1, 1, none⟩ = some (.int .u32 n1) ∧ X.rangeAt g1 2 m2 ∧ X.cell? ⟨g1, 10, none⟩ = some (.int .u32 n3) ∧ X.rangeAt g1 11 m4 ∧ X.rangeAt g1 17 m5) := KS0
  clear KS0
  go_enter Tryz.func33, Tryz.ntmps33
  go_upto_region 1 with fail
  refine wp_letter (fun X => Bu w X g l K1) (by exact HP.out) ?_
  intro V0 hR
  try simp only [hg1]
  clear HP hg1
  have HB0 : Hid (Bu w V0.drew g l K1) := hR.after ((Below.refl _ _).drew)
  clear hR
  refine wp_region_held_drew (S := fun X => X.cell? ⟨g1, 0, none⟩ = some (.string s0) ∧ X.cell? ⟨g1, 1, none⟩ = some (.int .u32 n1) ∧ X.rangeAt g1 2 m2 ∧ X.cell? ⟨g1, 10, none⟩ = some (.int .u32 n3) ∧ X.rangeAt g1 11 m4 ∧ X.rangeAt g1 17 m5) (by kernel_rfl) (KS.out _ _ HB0.out) (fun hHeld => ?_)
  refine wpAnyH_take (i := 0) (v := ?_) rfl (by kernel_rfl) (by kernel_rfl) (by kernel_rfl) (fun _ _ _ h => h) (Or.inl ⟨by rfl, ?qy0⟩) (by assumption) ?qr0
  case qy0 =>
    intro w hSw
    (try dsimp only at hSw)
    go_simp
    all_goals with_reducible rfl
  try simp only [List.getElem_toArray, List.getElem_cons_zero, List.getElem_cons_succ, Act.put, List.setIfInBounds_toArray, List.set_cons_zero, List.set_cons_succ]
  refine wpAnyH_take (i := 1) (v := ?_) rfl (by kernel_rfl) (by kernel_rfl) (by kernel_rfl) (fun _ _ _ h => h) (Or.inl ⟨by rfl, ?qy1⟩) (by assumption) ?qr1
  case qy1 =>
    intro w hSw
    (try dsimp only at hSw)
    go_simp
    all_goals with_reducible rfl
  try simp only [List.getElem_toArray, List.getElem_cons_zero, List.getElem_cons_succ, Act.put, List.setIfInBounds_toArray, List.set_cons_zero, List.set_cons_succ]
  refine wpAnyH_take (i := 2) (v := ?_) rfl (by kernel_rfl) (by kernel_rfl) (by kernel_rfl) (fun _ _ _ h => h) (Or.inl ⟨by rfl, ?qy2⟩) (by assumption) ?qr2
  case qy2 =>
    intro w hSw
    (try dsimp only at hSw)
    go_simp
    all_goals with_reducible rfl
  try simp only [List.getElem_toArray, List.getElem_cons_zero, List.getElem_cons_succ, Act.put, List.setIfInBounds_toArray, List.set_cons_zero, List.set_cons_succ]
  refine wpAnyH_take (i := 3) (v := ?_) rfl (by kernel_rfl) (by kernel_rfl) (by kernel_rfl) (fun _ _ _ h => h) (Or.inl ⟨by rfl, ?qy3⟩) (by assumption) ?qr3
  case qy3 =>
    intro w hSw
    (try dsimp only at hSw)
    go_simp
    all_goals with_reducible rfl
  try simp only [List.getElem_toArray, List.getElem_cons_zero, List.getElem_cons_succ, Act.put, List.setIfInBounds_toArray, List.set_cons_zero, List.set_cons_succ]
  refine wpAnyH_take (i := 4) (v := ?_) rfl (by kernel_rfl) (by kernel_rfl) (by kernel_rfl) (fun _ _ _ h => h) (Or.inl ⟨by rfl, ?qy4⟩) (by assumption) ?qr4
  case qy4 =>
    intro w hSw
    (try dsimp only at hSw)
    go_simp
    all_goals with_reducible rfl
  try simp only [List.getElem_toArray, List.getElem_cons_zero, List.getElem_cons_succ, Act.put, List.setIfInBounds_toArray, List.set_cons_zero, List.set_cons_succ]
  refine wpAnyH_take (i := 6) (v := ?_) rfl (by kernel_rfl) (by kernel_rfl) (by kernel_rfl) (fun _ _ _ h => h) (Or.inl ⟨by rfl, ?qy6⟩) (by assumption) ?qr6
  case qy6 =>
    intro w hSw
    (try dsimp only at hSw)
    go_simp
    all_goals with_reducible rfl
  try simp only [List.getElem_toArray, List.getElem_cons_zero, List.getElem_cons_succ, Act.put, List.setIfInBounds_toArray, List.set_cons_zero, List.set_cons_succ]
  refine wpAnyH_take (i := 7) (v := _) rfl (by kernel_rfl) (by kernel_rfl) (by kernel_rfl) (fun _ _ _ h => h) (yieldsIf_load_mid (by rfl) _ _ rfl _ _ rfl _ _ ?qs7 Tryz.underlying26 rfl i2) (by assumption) ?qr7
  case qs7 =>
    intro w hSw
    (try dsimp only at hSw)
    go_split_ands
    assumption
  try simp only [List.getElem_toArray, List.getElem_cons_zero, List.getElem_cons_succ, Act.put, List.setIfInBounds_toArray, List.set_cons_zero, List.set_cons_succ]
  refine wpAnyH_take (i := 9) (v := ?_) rfl (by kernel_rfl) (by kernel_rfl) (by kernel_rfl) (fun _ _ _ h => h) (Or.inl ⟨by rfl, ?qy9⟩) (by assumption) ?qr9
  case qy9 =>
    intro w hSw
    (try dsimp only at hSw)
    go_simp
    all_goals with_reducible rfl
  try simp only [List.getElem_toArray, List.getElem_cons_zero, List.getElem_cons_succ, Act.put, List.setIfInBounds_toArray, List.set_cons_zero, List.set_cons_succ]
  refine wpAnyH_take (i := 10) (v := ?_) rfl (by kernel_rfl) (by kernel_rfl) (by kernel_rfl) (fun _ _ _ h => h) (Or.inl ⟨by rfl, ?qy10⟩) (by assumption) ?qr10
  case qy10 =>
    intro w hSw
    (try dsimp only at hSw)
    go_simp
    all_goals with_reducible rfl
  try simp only [List.getElem_toArray, List.getElem_cons_zero, List.getElem_cons_succ, Act.put, List.setIfInBounds_toArray, List.set_cons_zero, List.set_cons_succ]
  refine wpAnyH_take (i := 12) (v := ?_) rfl (by kernel_rfl) (by kernel_rfl) (by kernel_rfl) (fun _ _ _ h => h) (Or.inl ⟨by rfl, ?qy12⟩) (by assumption) ?qr12
  case qy12 =>
    intro w hSw
    (try dsimp only at hSw)
    go_simp
    all_goals with_reducible rfl
  try simp only [List.getElem_toArray, List.getElem_cons_zero, List.getElem_cons_succ, Act.put, List.setIfInBounds_toArray, List.set_cons_zero, List.set_cons_succ]
  refine wpAnyH_take (i := 13) (v := _) rfl (by kernel_rfl) (by kernel_rfl) (by kernel_rfl) (fun _ _ _ h => h) (yieldsIf_load_mid (by rfl) _ _ rfl _ _ rfl _ _ ?qs13 Tryz.underlying25 rfl i4) (by assumption) ?qr13
  case qs13 =>
    intro w hSw
    (try dsimp only at hSw)
    go_split_ands
    assumption
  try simp only [List.getElem_toArray, List.getElem_cons_zero, List.getElem_cons_succ, Act.put, List.setIfInBounds_toArray, List.set_cons_zero, List.set_cons_succ]
  refine wpAnyH_take (i := 15) (v := ?_) rfl (by kernel_rfl) (by kernel_rfl) (by kernel_rfl) (fun _ _ _ h => h) (Or.inl ⟨by rfl, ?qy15⟩) (by assumption) ?qr15
  case qy15 =>
    intro w hSw
    (try dsimp only at hSw)
    go_simp
    all_goals with_reducible rfl
  try simp only [List.getElem_toArray, List.getElem_cons_zero, List.getElem_cons_succ, Act.put, List.setIfInBounds_toArray, List.set_cons_zero, List.set_cons_succ]
  refine wpAnyH_take (i := 16) (v := _) rfl (by kernel_rfl) (by kernel_rfl) (by kernel_rfl) (fun _ _ _ h => h) (yieldsIf_load_mid (by rfl) _ _ rfl _ _ rfl _ _ ?qs16 Tryz.underlying25 rfl i5) (by assumption) ?qr16
  case qs16 =>
    intro w hSw
    (try dsimp only at hSw)
    go_split_ands
    assumption
  try simp only [List.getElem_toArray, List.getElem_cons_zero, List.getElem_cons_succ, Act.put, List.setIfInBounds_toArray, List.set_cons_zero, List.set_cons_succ]
  refine wpAnyH_ready (rs := [5]) (by kernel_rfl) (by simp) ?_
  refine AllReadyH.cons rfl (fun K hK => ?_) AllReadyH.nil
  go_simp
  with_reducible refine (C1 _ HB0.out.mem.below).mono ?_
  rintro e W1 ⟨rfl, hb1⟩
  try go_wp2_with fail
  refine hK.out _ _ (KS.out _ _ (HB0.out.after hb1)) (fun hHeld => ?_)
  clear hK K
  try simp only [List.getElem_toArray, List.getElem_cons_zero, List.getElem_cons_succ, Act.put, List.setIfInBounds_toArray, List.set_cons_zero, List.set_cons_succ]
  refine wpAnyH_ready (rs := [8]) (by kernel_rfl) (by simp) ?_
  refine AllReadyH.cons rfl (fun K hK => ?_) AllReadyH.nil
  go_simp
  with_reducible refine (C2 _).mono ?_
  rintro e W2 ⟨rfl, hb2⟩
  try go_wp2_with fail
  refine hK.out _ _ (KS.out _ _ ((HB0.out.after hb1).after hb2)) (fun hHeld => ?_)
  clear hK K
  try simp only [List.getElem_toArray, List.getElem_cons_zero, List.getElem_cons_succ, Act.put, List.setIfInBounds_toArray, List.set_cons_zero, List.set_cons_succ]
  refine wpAnyH_ready (rs := [11]) (by kernel_rfl) (by simp) ?_
  refine AllReadyH.cons rfl (fun K hK => ?_) AllReadyH.nil
  go_simp
  with_reducible refine (C3 _ ((HB0.out.after hb1).after hb2).mem.below).mono ?_
  rintro e W3 ⟨rfl, hb3⟩
  try go_wp2_with fail
  refine hK.out _ _ (KS.out _ _ (((HB0.out.after hb1).after hb2).after hb3)) (fun hHeld => ?_)
  clear hK K
  try simp only [List.getElem_toArray, List.getElem_cons_zero, List.getElem_cons_succ, Act.put, List.setIfInBounds_toArray, List.set_cons_zero, List.set_cons_succ]
  refine wpAnyH_ready (rs := [14]) (by kernel_rfl) (by simp) ?_
  refine AllReadyH.cons rfl (fun K hK => ?_) AllReadyH.nil
  go_simp
  with_reducible refine (C4 _).mono ?_
  rintro e W4 ⟨rfl, hb4⟩
  try go_wp2_with fail
  refine hK.out _ _ (KS.out _ _ ((((HB0.out.after hb1).after hb2).after hb3).after hb4)) (fun hHeld => ?_)
  clear hK K
  try simp only [List.getElem_toArray, List.getElem_cons_zero, List.getElem_cons_succ, Act.put, List.setIfInBounds_toArray, List.set_cons_zero, List.set_cons_succ]
  refine wpAnyH_ready (rs := [17]) (by kernel_rfl) (by simp) ?_
  refine AllReadyH.cons rfl (fun K hK => ?_) AllReadyH.nil
  go_simp
  with_reducible refine (C5 _).mono ?_
  rintro e W5 ⟨rfl, hb5⟩
  try go_wp2_with fail
  refine hK.out _ _ (KS.out _ _ (((((HB0.out.after hb1).after hb2).after hb3).after hb4).after hb5)) (fun hHeld => ?_)
  clear hK K
  try simp only [List.getElem_toArray, List.getElem_cons_zero, List.getElem_cons_succ, Act.put, List.setIfInBounds_toArray, List.set_cons_zero, List.set_cons_succ]
  refine wpAnyH_ready (rs := [18]) (by kernel_rfl) (by simp) ?_
  refine AllReadyH.cons rfl (fun K hK => ?_) AllReadyH.nil
  go_simp
  refine hK.out _ _ (KS.out _ _ ((((((HB0.out.after hb1).after hb2).after hb3).after hb4).after hb5).after ((Below.refl _ _).alloc (Nat.le_refl _) _))) (fun hHeld => ?_)
  clear hK K
  try simp only [List.getElem_toArray, List.getElem_cons_zero, List.getElem_cons_succ, Act.put, List.setIfInBounds_toArray, List.set_cons_zero, List.set_cons_succ]
  refine wpAnyH_ready (rs := [19]) (by kernel_rfl) (by simp) ?_
  refine AllReadyH.cons rfl (fun K hK => ?_) AllReadyH.nil
  go_simp
  with_reducible refine (CL.out _ (((((HB0.out.after hb1).after hb2).after hb3).after hb4).after hb5)).mono ?_
  rintro e W7 ⟨rfl, hB7⟩
  try go_wp2_with fail
  refine hK.out _ _ (KS.out _ _ hB7) (fun hHeld => ?_)
  clear hK K
  try simp only [List.getElem_toArray, List.getElem_cons_zero, List.getElem_cons_succ, Act.put, List.setIfInBounds_toArray, List.set_cons_zero, List.set_cons_succ]
  refine wpAnyH_done (by kernel_rfl) ?_ _
  have HB7 : Hid (Bu w W7 g (l ++ T) K) := HDr.out _ _ hB7
  clear hB7
  go_wp2_with fail
  go_end0
  exact ⟨rfl, HB7.out⟩
end Go.Proofs.YtneciccdiledfaaGreatDoor

namespace Go.Proofs.YtneciccdiledfaaGreatDoor
open Go.RowKit
open La
open Ad
set_option linter.unusedVariables false
set_option linter.unusedSimpArgs false
set_option maxRecDepth 20000
theorem tb9 {σ : Sg} {a : Nat} (h : (t9 σ).bad = some a) : (tnS σ).bad = some a := vnx_bad h
theorem tb8 {σ : Sg} {a : Nat} (h : (t8 σ).bad = some a) : (tnS σ).bad = some a := tb9 (must_bad h)
theorem tb7 {σ : Sg} {a : Nat} (h : (t7 σ).bad = some a) : (tnS σ).bad = some a := tb8 (vnx_bad h)
theorem tb6 {σ : Sg} {a : Nat} (h : (t6 σ).bad = some a) : (tnS σ).bad = some a := tb7 (vnx_bad h)
theorem tb5 {σ : Sg} {a : Nat} (h : (t5 σ).bad = some a) : (tnS σ).bad = some a := tb6 (must_bad h)
theorem tb4 {σ : Sg} {a : Nat} (h : (t4 σ).bad = some a) : (tnS σ).bad = some a := tb5 (vnx_bad h)
theorem tb3 {σ : Sg} {a : Nat} (h : (t3 σ).bad = some a) : (tnS σ).bad = some a := tb4 (must_bad h)
theorem tb2 {σ : Sg} {a : Nat} (h : (t2 σ).bad = some a) : (tnS σ).bad = some a := tb3 (vnx_bad h)
theorem tb1 {σ : Sg} {a : Nat} (h : (t1 σ).bad = some a) : (tnS σ).bad = some a := tb2 (must_bad h)
set_option maxHeartbeats 16000000 in
theorem ltenant_any {w V : World} {g : Nat} {post : List Value} {T : TypeId} {σ : Sg} {W K : List (Nat × Obj)} (hV : Vs w) (h : LnS w V g post T σ W K) :
    Calls Tryz.prog 82 #[.pointer (some ⟨g, 0, none⟩)] V (VP w (tnS σ) fun e V' => e = .returned (.agg (tc (tnT σ) nilV nilV nilV).toArray) ∧ LnS w V' g post T (tnS σ) W K) := by
  obtain ⟨g0, hg⟩ : ∃ g0, V.heap.size = g0 := ⟨_, rfl⟩
  have HR0 : Hid (LnS w (V.alloc (.cells tz 45 (0, 0))) g post T σ W ((g0, .cells tz 45 (0, 0)) :: K)) := h.push _ hg.symm
  obtain ⟨C0, hC0⟩ : ∃ c, tnT σ = c := ⟨_, rfl⟩
  rw [hC0]
  have HC0 : Hid (tnT σ = C0) := hC0
  have bC := build_T
  clear h hC0
  go_enter Tryz.func82, Tryz.ntmps82
  go_upto_region 1 with fail
  refine wp_letter (fun V => LnS w V g post T σ W ((g0, Obj.cells tz 45 (0, 0)) :: K)) (by exact HR0.out) ?_
  intro Va hR
  try simp only [hg]
  obtain ⟨gb, hgb⟩ : ∃ gb, Va.heap.size = gb := ⟨_, rfl⟩
  have hk1 : (Va.alloc (.cells tz 45)).heap[gb]? = some (.cells tz 45 (0, 0)) := (hR.push (.cells tz 45 (0, 0)) hgb.symm).mem.get 0 rfl
  have hR1 := hR.push (.cells tz 45 (0, 0)) hgb.symm
  have e1 : (Va.alloc (.cells tz 45)).setRow gb tz = Va.alloc (.cells tz 45) := by
    rw [← hgb]; exact World.setRow_alloc_new Va tz tz 45
  rw [← e1] at hR1
  have HR1 : Hid (LnS w ((Va.alloc (.cells tz 45)).setRow gb tz) g post T σ W ((gb, .cells (tc ten0 nilV nilV nilV).toArray 45 (0, 0)) :: (g0, .cells tz 45 (0, 0)) :: K)) := hR1
  clear HR0 hR hg hR1 e1
  go_upto_region 2 with (refine wpList_store_row rfl 45 (.tmp 3) (.tmp 4) (by with_reducible rfl) gb tz (by simp [Act.eval]; try exact hgb) (by simp [Act.eval]; rfl) 45 tz hk1 (by kernel_rfl) rfl (by kernel_rfl) ?_)
  refine wp_letter (fun V => LnS w V g post T σ W ((gb, Obj.cells (tc ten0 nilV nilV nilV).toArray 45 (0, 0)) :: (g0, Obj.cells tz 45 (0, 0)) :: K)) (by exact HR1.out) ?_
  intro V0b hR
  have HR : Hid (LnS w V0b g post T σ W ((gb, .cells (tc ten0 nilV nilV nilV).toArray 45 (0, 0)) :: (g0, .cells tz 45 (0, 0)) :: K)) := hR
  try simp only [hgb]
  clear HR1 hR hgb hk1
  obtain ⟨t0, ht0⟩ : ∃ t, ten0 = t := ⟨_, rfl⟩
  have HL0 : Hid (TLen t0) := by rw [← ht0]; exact ten0_len
  have HX0 : Hid (t0 = ⟨ByteArray.empty, 0, [0, 0, 0, 0, 0, 0, 0, 0], 0, [0, 0, 0, 0, 0, 0], [0, 0, 0, 0, 0, 0], [], 0, 0, 0, [], [], 0, 0, 0, 0⟩) := ht0.symm
  rw [show (tc ten0 nilV nilV nilV) = tc t0 nilV nilV nilV by rw [ht0]] at HR
  clear ht0
  obtain ⟨x1, hx1⟩ : ∃ x, (La.wd σ).1 = x := ⟨_, rfl⟩
  have HE1 : Hid ((La.wd σ).1 = x1) := hx1
  have C1 : Calls Tryz.prog 103 _ V0b (VP w (La.t1 σ) fun e V' => e = .returned (.string (La.wd σ).1) ∧ LnS w V' g post T (La.t1 σ) W ((gb, .cells (tc t0 nilV nilV nilV).toArray 45 (0, 0)) :: (g0, .cells tz 45 (0, 0)) :: K)) := value_name hV HR.out
  rw [hx1] at C1
  clear HR hx1
  go_wp2_with fail
  refine C1.mono ?_
  rintro e V1 (⟨-, rfl, hR⟩ | ⟨a, hb, g', rfl, hM⟩)
  rotate_left
  · exact ⟨rfl, Or.inr ⟨a, tb1 hb, g', rfl, hM⟩⟩
  obtain ⟨v0, cc1⟩ : ∃ v0, V1.cell? ⟨gb, 0, none⟩ = some v0 := Option.isSome_iff_exists.mp (hR.there (i := 0) rfl 0 1 (by rw [List.size_toArray, tc_len HL0.out]; omega) 0 (by omega)).1
  have fr1 : ∀ j, V1.frozen? ⟨gb, j, none⟩ = false := hR.freeK (i := 0) rfl
  have hR2 := hR.set (i := 0) rfl 0 (.string x1)
  rw [List.set_cons_zero, tc_put (t' := { t0 with name := x1 }) (p' := nilV) (s' := nilV) (q' := nilV) HL0.out (by rintro n vn a b c d f g x y vt a1 b1 c1 d1 f1 g1 a2 b2 c2 d2 f2 g2 po lo hi fi st tw se qu ra bu rfl; rfl)] at hR2
  have HN : Hid (LnS w (V1.setCell ⟨gb, 0, none⟩ (.string x1)) g post T (La.t1 σ) W ((gb, .cells (tc { t0 with name := x1 } nilV nilV nilV).toArray 45 (0, 0)) :: (g0, .cells tz 45 (0, 0)) :: K)) := hR2
  clear C1 hR hR2
  go_upto_region 3 with fail
  refine wp_letter (fun V => LnS w V g post T (La.t1 σ) W ((gb, Obj.cells (tc { t0 with name := x1 } nilV nilV nilV).toArray 45 (0, 0)) :: (g0, Obj.cells tz 45 (0, 0)) :: K)) (by exact HN.out) ?_
  intro V1b hR
  obtain ⟨t1, ht1⟩ : ∃ t, { t0 with name := x1 } = t := ⟨_, rfl⟩
  have HL1 : Hid (TLen t1) := by rw [← ht1]; exact ⟨HL0.out.key, HL0.out.vmac, HL0.out.host⟩
  have HX1 : Hid (t1 = ⟨x1, 0, [0, 0, 0, 0, 0, 0, 0, 0], 0, [0, 0, 0, 0, 0, 0], [0, 0, 0, 0, 0, 0], [], 0, 0, 0, [], [], 0, 0, 0, 0⟩) := by rw [← ht1, HX0.out]; exact rfl
  rw [ht1] at hR
  have HR : Hid (LnS w V1b g post T (La.t1 σ) W ((gb, .cells (tc t1 nilV nilV nilV).toArray 45 (0, 0)) :: (g0, .cells tz 45 (0, 0)) :: K)) := hR
  clear hR HN ht1 HL0 HX0 cc1 fr1
  have C2 : Calls Tryz.prog 72 #[.pointer (some ⟨g, 0, none⟩), .string ⟨#[118, 110, 105]⟩] V1b (VP w (La.t2 σ) fun e V' => e = .returned (.tuple #[]) ∧ LnS w V' g post T (La.t2 σ) W ((gb, .cells (tc t1 nilV nilV nilV).toArray 45 (0, 0)) :: (g0, .cells tz 45 (0, 0)) :: K)) := expect_any HR.out wVni
  go_wp2_with fail
  refine C2.mono ?_
  rintro e V2 (⟨-, rfl, hR⟩ | ⟨a, hb, g', rfl, hM⟩)
  rotate_left
  · exact ⟨rfl, Or.inr ⟨a, tb2 hb, g', rfl, hM⟩⟩
  have HR' : Hid (LnS w V2 g post T (La.t2 σ) W ((gb, .cells (tc t1 nilV nilV nilV).toArray 45 (0, 0)) :: (g0, .cells tz 45 (0, 0)) :: K)) := hR
  clear C2 hR HR
  have HR := HR'
  clear HR'
  obtain ⟨t2, HT2⟩ : ∃ t, Hid (t1 = t) := ⟨_, rfl⟩
  rw [HT2.out] at HR
  have HL2 : Hid (TLen t2) := by rw [← HT2.out]; exact HL1.out
  have HX2 : Hid (t2 = ⟨x1, 0, [0, 0, 0, 0, 0, 0, 0, 0], 0, [0, 0, 0, 0, 0, 0], [0, 0, 0, 0, 0, 0], [], 0, 0, 0, [], [], 0, 0, 0, 0⟩) := by rw [← HT2.out]; exact HX1.out
  clear HL1 HX1 HT2
  obtain ⟨x3, hx3⟩ : ∃ x, nv (val n24 (La.t2 σ)) = x := ⟨_, rfl⟩
  have HE3 : Hid (nv (val n24 (La.t2 σ)) = x3) := hx3
  have CU := upTo_ln HR.out 16777215
  go_wp2_with fail
  refine CU.mono ?_
  rintro e VU ⟨bu, rfl, hRU⟩
  have C3 : Calls Tryz.prog 73 _ VU (VP w (La.t3 σ) fun e V' => e = .returned (.int .u32 (nv (val n24 (La.t2 σ)))) ∧ LnS w V' g post T (La.t3 σ) W ((bu, .cells #[.int .u32 16777215] 23 (0, 0)) :: ((gb, .cells (tc t2 nilV nilV nilV).toArray 45 (0, 0)) :: (g0, .cells tz 45 (0, 0)) :: K))) := value_num hRU (m := 16777215) (by omega) (List.mem_cons_self ..)
  rw [hx3] at C3
  clear CU hRU HR hx3
  go_wp2_with fail
  refine C3.mono ?_
  rintro e V3 (⟨-, rfl, hRU⟩ | ⟨a, hb, g', rfl, hM⟩)
  rotate_left
  · exact ⟨rfl, Or.inr ⟨a, tb3 hb, g', rfl, hM⟩⟩
  have hR := hRU.drop1
  clear hRU
  obtain ⟨v0, cc3⟩ : ∃ v0, V3.cell? ⟨gb, 1, none⟩ = some v0 := Option.isSome_iff_exists.mp (hR.there (i := 0) rfl 1 1 (by rw [List.size_toArray, tc_len HL2.out]; omega) 0 (by omega)).1
  have fr3 : ∀ j, V3.frozen? ⟨gb, j, none⟩ = false := hR.freeK (i := 0) rfl
  have hR2 := hR.set (i := 0) rfl 1 (.int .u32 x3)
  rw [List.set_cons_zero, tc_put (t' := { t2 with vni := x3 }) (p' := nilV) (s' := nilV) (q' := nilV) HL2.out (by rintro n vn a b c d f g x y vt a1 b1 c1 d1 f1 g1 a2 b2 c2 d2 f2 g2 po lo hi fi st tw se qu ra bu rfl; rfl)] at hR2
  have HN : Hid (LnS w (V3.setCell ⟨gb, 1, none⟩ (.int .u32 x3)) g post T (La.t3 σ) W ((gb, .cells (tc { t2 with vni := x3 } nilV nilV nilV).toArray 45 (0, 0)) :: (g0, .cells tz 45 (0, 0)) :: K)) := hR2
  clear C3 hR hR2
  go_upto_region 5 with fail
  refine wp_letter (fun V => LnS w V g post T (La.t3 σ) W ((gb, Obj.cells (tc { t2 with vni := x3 } nilV nilV nilV).toArray 45 (0, 0)) :: (g0, Obj.cells tz 45 (0, 0)) :: K)) (by exact HN.out) ?_
  intro V3b hR
  obtain ⟨t3, ht3⟩ : ∃ t, { t2 with vni := x3 } = t := ⟨_, rfl⟩
  have HL3 : Hid (TLen t3) := by rw [← ht3]; exact ⟨HL2.out.key, HL2.out.vmac, HL2.out.host⟩
  have HX3 : Hid (t3 = ⟨x1, x3, [0, 0, 0, 0, 0, 0, 0, 0], 0, [0, 0, 0, 0, 0, 0], [0, 0, 0, 0, 0, 0], [], 0, 0, 0, [], [], 0, 0, 0, 0⟩) := by rw [← ht3, HX2.out]; exact rfl
  rw [ht3] at hR
  have HR : Hid (LnS w V3b g post T (La.t3 σ) W ((gb, .cells (tc t3 nilV nilV nilV).toArray 45 (0, 0)) :: (g0, .cells tz 45 (0, 0)) :: K)) := hR
  clear hR HN ht3 HL2 HX2 cc3 fr3
  have C4 : Calls Tryz.prog 72 #[.pointer (some ⟨g, 0, none⟩), .string ⟨#[107, 101, 121]⟩] V3b (VP w (La.t4 σ) fun e V' => e = .returned (.tuple #[]) ∧ LnS w V' g post T (La.t4 σ) W ((gb, .cells (tc t3 nilV nilV nilV).toArray 45 (0, 0)) :: (g0, .cells tz 45 (0, 0)) :: K)) := expect_any HR.out wKey
  go_wp2_with fail
  refine C4.mono ?_
  rintro e V4 (⟨-, rfl, hR⟩ | ⟨a, hb, g', rfl, hM⟩)
  rotate_left
  · exact ⟨rfl, Or.inr ⟨a, tb4 hb, g', rfl, hM⟩⟩
  have HR' : Hid (LnS w V4 g post T (La.t4 σ) W ((gb, .cells (tc t3 nilV nilV nilV).toArray 45 (0, 0)) :: (g0, .cells tz 45 (0, 0)) :: K)) := hR
  clear C4 hR HR
  have HR := HR'
  clear HR'
  obtain ⟨t4, HT4⟩ : ∃ t, Hid (t3 = t) := ⟨_, rfl⟩
  rw [HT4.out] at HR
  have HL4 : Hid (TLen t4) := by rw [← HT4.out]; exact HL3.out
  have HX4 : Hid (t4 = ⟨x1, x3, [0, 0, 0, 0, 0, 0, 0, 0], 0, [0, 0, 0, 0, 0, 0], [0, 0, 0, 0, 0, 0], [], 0, 0, 0, [], [], 0, 0, 0, 0⟩) := by rw [← HT4.out]; exact HX3.out
  clear HL3 HX3 HT4
  have l5 : (k8 (val key (La.t4 σ))).length = 8 := k8_len _
  obtain ⟨x5, hx5⟩ : ∃ x, k8 (val key (La.t4 σ)) = x := ⟨_, rfl⟩
  have HE5 : Hid (k8 (val key (La.t4 σ)) = x5) := hx5
  have C5 : Calls Tryz.prog 77 _ V4 (VP w (La.t5 σ) fun e V' => e = .returned (.agg (ab (k8 (val key (La.t4 σ))))) ∧ LnS w V' g post T (La.t5 σ) W ((gb, .cells (tc t4 nilV nilV nilV).toArray 45 (0, 0)) :: (g0, .cells tz 45 (0, 0)) :: K)) := value_key HR.out
  rw [hx5] at C5 l5
  obtain ⟨A5, hA5⟩ : ∃ A, ab x5 = A := ⟨_, rfl⟩
  rw [hA5] at C5
  have HA5 : Hid (ab x5 = A5) := hA5
  have hAL5 : A5.toList = x5.map (Value.int .u8) := by rw [← hA5]
  have HAL5 : Hid (A5.toList = x5.map (Value.int .u8)) := hAL5
  have sz5 : A5.size = 8 := by rw [← Array.length_toList, hAL5, List.length_map, l5]
  have on5 : A5.all (·.oneCell') = true := by rw [← hA5]; exact all_oneCell_toArray (ints_oneCell _ _)
  have ii5 : (Tryz.prog.info? 26).map (·.size) = some A5.size := by rw [sz5]; kernel_rfl
  have HLx5 : Hid (x5.length = 8) := l5
  clear hA5 hAL5 HR hx5 l5
  go_wp2_with fail
  refine C5.mono ?_
  rintro e V5 (⟨-, rfl, hR⟩ | ⟨a, hb, g', rfl, hM⟩)
  rotate_left
  · exact ⟨rfl, Or.inr ⟨a, tb5 hb, g', rfl, hM⟩⟩
  have th5 := hR.there (i := 0) rfl 2 A5.size (by rw [sz5, List.size_toArray, tc_len HL4.out]; omega)
  have hR2 := LnS.setCells A5.toList 2 hR (i := 0) rfl
  rw [List.set_cons_zero, HAL5.out, tc_key t4 _ _ _ _ HL4.out HLx5.out] at hR2
  have HN : Hid (LnS w (V5.setCells gb 2 A5.toList) g post T (La.t5 σ) W ((gb, .cells (tc { t4 with key := x5 } nilV nilV nilV).toArray 45 (0, 0)) :: (g0, .cells tz 45 (0, 0)) :: K)) := by rw [HAL5.out]; exact hR2
  clear C5 hR hR2
  go_upto_region 7 with (refine wpList_store_mid rfl 26 (.tmp 18) (.tmp 17) (by with_reducible rfl) gb 2 A5 (by first | rfl | simp [Act.eval]) (by first | rfl | simp [Act.eval]) th5 ii5 on5 ?_)
  refine wp_letter (fun V => LnS w V g post T (La.t5 σ) W ((gb, Obj.cells (tc { t4 with key := x5 } nilV nilV nilV).toArray 45 (0, 0)) :: (g0, Obj.cells tz 45 (0, 0)) :: K)) (by exact HN.out) ?_
  intro V5b hR
  obtain ⟨t5, ht5⟩ : ∃ t, { t4 with key := x5 } = t := ⟨_, rfl⟩
  have HL5 : Hid (TLen t5) := by rw [← ht5]; exact ⟨HLx5.out, HL4.out.vmac, HL4.out.host⟩
  have HX5 : Hid (t5 = ⟨x1, x3, x5, 0, [0, 0, 0, 0, 0, 0], [0, 0, 0, 0, 0, 0], [], 0, 0, 0, [], [], 0, 0, 0, 0⟩) := by rw [← ht5, HX4.out]; exact rfl
  rw [ht5] at hR
  have HR : Hid (LnS w V5b g post T (La.t5 σ) W ((gb, .cells (tc t5 nilV nilV nilV).toArray 45 (0, 0)) :: (g0, .cells tz 45 (0, 0)) :: K)) := hR
  clear hR HN ht5 HL4 HX4 th5 HA5 sz5 on5 ii5 HAL5 HLx5
  have C6 : Calls Tryz.prog 72 #[.pointer (some ⟨g, 0, none⟩), .string ⟨#[118, 116, 101, 112]⟩] V5b (VP w (La.t6 σ) fun e V' => e = .returned (.tuple #[]) ∧ LnS w V' g post T (La.t6 σ) W ((gb, .cells (tc t5 nilV nilV nilV).toArray 45 (0, 0)) :: (g0, .cells tz 45 (0, 0)) :: K)) := expect_any HR.out wVtep
  go_wp2_with fail
  refine C6.mono ?_
  rintro e V6 (⟨-, rfl, hR⟩ | ⟨a, hb, g', rfl, hM⟩)
  rotate_left
  · exact ⟨rfl, Or.inr ⟨a, tb6 hb, g', rfl, hM⟩⟩
  have HR' : Hid (LnS w V6 g post T (La.t6 σ) W ((gb, .cells (tc t5 nilV nilV nilV).toArray 45 (0, 0)) :: (g0, .cells tz 45 (0, 0)) :: K)) := hR
  clear C6 hR HR
  have HR := HR'
  clear HR'
  obtain ⟨t6, HT6⟩ : ∃ t, Hid (t5 = t) := ⟨_, rfl⟩
  rw [HT6.out] at HR
  have HL6 : Hid (TLen t6) := by rw [← HT6.out]; exact HL5.out
  have HX6 : Hid (t6 = ⟨x1, x3, x5, 0, [0, 0, 0, 0, 0, 0], [0, 0, 0, 0, 0, 0], [], 0, 0, 0, [], [], 0, 0, 0, 0⟩) := by rw [← HT6.out]; exact HX5.out
  clear HL5 HX5 HT6
  obtain ⟨x7, hx7⟩ : ∃ x, nv (val ip (La.t6 σ)) = x := ⟨_, rfl⟩
  have HE7 : Hid (nv (val ip (La.t6 σ)) = x7) := hx7
  have C7 : Calls Tryz.prog 73 _ V6 (VP w (La.t7 σ) fun e V' => e = .returned (.int .u32 (nv (val ip (La.t6 σ)))) ∧ LnS w V' g post T (La.t7 σ) W ((gb, .cells (tc t6 nilV nilV nilV).toArray 45 (0, 0)) :: (g0, .cells tz 45 (0, 0)) :: K)) := value_ip hV HR.out
  rw [hx7] at C7
  clear HR hx7
  go_wp2_with fail
  refine C7.mono ?_
  rintro e V7 (⟨-, rfl, hR⟩ | ⟨a, hb, g', rfl, hM⟩)
  rotate_left
  · exact ⟨rfl, Or.inr ⟨a, tb7 hb, g', rfl, hM⟩⟩
  obtain ⟨v0, cc7⟩ : ∃ v0, V7.cell? ⟨gb, 10, none⟩ = some v0 := Option.isSome_iff_exists.mp (hR.there (i := 0) rfl 10 1 (by rw [List.size_toArray, tc_len HL6.out]; omega) 0 (by omega)).1
  have fr7 : ∀ j, V7.frozen? ⟨gb, j, none⟩ = false := hR.freeK (i := 0) rfl
  have hR2 := hR.set (i := 0) rfl 10 (.int .u32 x7)
  rw [List.set_cons_zero, tc_put (t' := { t6 with vtep := x7 }) (p' := nilV) (s' := nilV) (q' := nilV) HL6.out (by rintro n vn a b c d f g x y vt a1 b1 c1 d1 f1 g1 a2 b2 c2 d2 f2 g2 po lo hi fi st tw se qu ra bu rfl; rfl)] at hR2
  have HN : Hid (LnS w (V7.setCell ⟨gb, 10, none⟩ (.int .u32 x7)) g post T (La.t7 σ) W ((gb, .cells (tc { t6 with vtep := x7 } nilV nilV nilV).toArray 45 (0, 0)) :: (g0, .cells tz 45 (0, 0)) :: K)) := hR2
  clear C7 hR hR2
  go_upto_region 9 with fail
  refine wp_letter (fun V => LnS w V g post T (La.t7 σ) W ((gb, Obj.cells (tc { t6 with vtep := x7 } nilV nilV nilV).toArray 45 (0, 0)) :: (g0, Obj.cells tz 45 (0, 0)) :: K)) (by exact HN.out) ?_
  intro V7b hR
  obtain ⟨t7, ht7⟩ : ∃ t, { t6 with vtep := x7 } = t := ⟨_, rfl⟩
  have HL7 : Hid (TLen t7) := by rw [← ht7]; exact ⟨HL6.out.key, HL6.out.vmac, HL6.out.host⟩
  have HX7 : Hid (t7 = ⟨x1, x3, x5, x7, [0, 0, 0, 0, 0, 0], [0, 0, 0, 0, 0, 0], [], 0, 0, 0, [], [], 0, 0, 0, 0⟩) := by rw [← ht7, HX6.out]; exact rfl
  rw [ht7] at hR
  have HR : Hid (LnS w V7b g post T (La.t7 σ) W ((gb, .cells (tc t7 nilV nilV nilV).toArray 45 (0, 0)) :: (g0, .cells tz 45 (0, 0)) :: K)) := hR
  clear hR HN ht7 HL6 HX6 cc7 fr7
  have l8 : (m6 (val mac (La.t7 σ))).length = 6 := m6_len _
  obtain ⟨x8, hx8⟩ : ∃ x, m6 (val mac (La.t7 σ)) = x := ⟨_, rfl⟩
  have HE8 : Hid (m6 (val mac (La.t7 σ)) = x8) := hx8
  have C8 : Calls Tryz.prog 75 _ V7b (VP w (La.t8 σ) fun e V' => e = .returned (.agg (ab (m6 (val mac (La.t7 σ))))) ∧ LnS w V' g post T (La.t8 σ) W ((gb, .cells (tc t7 nilV nilV nilV).toArray 45 (0, 0)) :: (g0, .cells tz 45 (0, 0)) :: K)) := value_mac hV HR.out
  rw [hx8] at C8 l8
  obtain ⟨A8, hA8⟩ : ∃ A, ab x8 = A := ⟨_, rfl⟩
  rw [hA8] at C8
  have HA8 : Hid (ab x8 = A8) := hA8
  have hAL8 : A8.toList = x8.map (Value.int .u8) := by rw [← hA8]
  have HAL8 : Hid (A8.toList = x8.map (Value.int .u8)) := hAL8
  have sz8 : A8.size = 6 := by rw [← Array.length_toList, hAL8, List.length_map, l8]
  have on8 : A8.all (·.oneCell') = true := by rw [← hA8]; exact all_oneCell_toArray (ints_oneCell _ _)
  have ii8 : (Tryz.prog.info? 25).map (·.size) = some A8.size := by rw [sz8]; kernel_rfl
  have HLx8 : Hid (x8.length = 6) := l8
  clear hA8 hAL8 HR hx8 l8
  go_wp2_with fail
  refine C8.mono ?_
  rintro e V8 (⟨-, rfl, hR⟩ | ⟨a, hb, g', rfl, hM⟩)
  rotate_left
  · exact ⟨rfl, Or.inr ⟨a, tb8 hb, g', rfl, hM⟩⟩
  have th8 := hR.there (i := 0) rfl 11 A8.size (by rw [sz8, List.size_toArray, tc_len HL7.out]; omega)
  have hR2 := LnS.setCells A8.toList 11 hR (i := 0) rfl
  rw [List.set_cons_zero, HAL8.out, tc_vmac t7 _ _ _ _ HL7.out HLx8.out] at hR2
  have HN : Hid (LnS w (V8.setCells gb 11 A8.toList) g post T (La.t8 σ) W ((gb, .cells (tc { t7 with vmac := x8 } nilV nilV nilV).toArray 45 (0, 0)) :: (g0, .cells tz 45 (0, 0)) :: K)) := by rw [HAL8.out]; exact hR2
  clear C8 hR hR2
  go_upto_region 10 with (refine wpList_store_mid rfl 25 (.tmp 26) (.tmp 25) (by with_reducible rfl) gb 11 A8 (by first | rfl | simp [Act.eval]) (by first | rfl | simp [Act.eval]) th8 ii8 on8 ?_)
  refine wp_letter (fun V => LnS w V g post T (La.t8 σ) W ((gb, Obj.cells (tc { t7 with vmac := x8 } nilV nilV nilV).toArray 45 (0, 0)) :: (g0, Obj.cells tz 45 (0, 0)) :: K)) (by exact HN.out) ?_
  intro V8b hR
  obtain ⟨t8, ht8⟩ : ∃ t, { t7 with vmac := x8 } = t := ⟨_, rfl⟩
  have HL8 : Hid (TLen t8) := by rw [← ht8]; exact ⟨HL7.out.key, HLx8.out, HL7.out.host⟩
  have HX8 : Hid (t8 = ⟨x1, x3, x5, x7, x8, [0, 0, 0, 0, 0, 0], [], 0, 0, 0, [], [], 0, 0, 0, 0⟩) := by rw [← ht8, HX7.out]; exact rfl
  rw [ht8] at hR
  have HR : Hid (LnS w V8b g post T (La.t8 σ) W ((gb, .cells (tc t8 nilV nilV nilV).toArray 45 (0, 0)) :: (g0, .cells tz 45 (0, 0)) :: K)) := hR
  clear hR HN ht8 HL7 HX7 th8 HA8 sz8 on8 ii8 HAL8 HLx8
  have C9 : Calls Tryz.prog 72 #[.pointer (some ⟨g, 0, none⟩), .string ⟨#[104, 111, 115, 116]⟩] V8b (VP w (La.t9 σ) fun e V' => e = .returned (.tuple #[]) ∧ LnS w V' g post T (La.t9 σ) W ((gb, .cells (tc t8 nilV nilV nilV).toArray 45 (0, 0)) :: (g0, .cells tz 45 (0, 0)) :: K)) := expect_any HR.out wHost
  go_wp2_with fail
  refine C9.mono ?_
  rintro e V9 (⟨-, rfl, hR⟩ | ⟨a, hb, g', rfl, hM⟩)
  rotate_left
  · exact ⟨rfl, Or.inr ⟨a, tb9 hb, g', rfl, hM⟩⟩
  have HR' : Hid (LnS w V9 g post T (La.t9 σ) W ((gb, .cells (tc t8 nilV nilV nilV).toArray 45 (0, 0)) :: (g0, .cells tz 45 (0, 0)) :: K)) := hR
  clear C9 hR HR
  have HR := HR'
  clear HR'
  obtain ⟨t9, HT9⟩ : ∃ t, Hid (t8 = t) := ⟨_, rfl⟩
  rw [HT9.out] at HR
  have HL9 : Hid (TLen t9) := by rw [← HT9.out]; exact HL8.out
  have HX9 : Hid (t9 = ⟨x1, x3, x5, x7, x8, [0, 0, 0, 0, 0, 0], [], 0, 0, 0, [], [], 0, 0, 0, 0⟩) := by rw [← HT9.out]; exact HX8.out
  clear HL8 HX8 HT9
  have l10 : (m6 (val mac (La.t9 σ))).length = 6 := m6_len _
  obtain ⟨x10, hx10⟩ : ∃ x, m6 (val mac (La.t9 σ)) = x := ⟨_, rfl⟩
  have HE10 : Hid (m6 (val mac (La.t9 σ)) = x10) := hx10
  have C10 : Calls Tryz.prog 75 _ V9 (VP w (tnS σ) fun e V' => e = .returned (.agg (ab (m6 (val mac (La.t9 σ))))) ∧ LnS w V' g post T (tnS σ) W ((gb, .cells (tc t9 nilV nilV nilV).toArray 45 (0, 0)) :: (g0, .cells tz 45 (0, 0)) :: K)) := value_mac hV HR.out
  rw [hx10] at C10 l10
  obtain ⟨A10, hA10⟩ : ∃ A, ab x10 = A := ⟨_, rfl⟩
  rw [hA10] at C10
  have HA10 : Hid (ab x10 = A10) := hA10
  have hAL10 : A10.toList = x10.map (Value.int .u8) := by rw [← hA10]
  have HAL10 : Hid (A10.toList = x10.map (Value.int .u8)) := hAL10
  have sz10 : A10.size = 6 := by rw [← Array.length_toList, hAL10, List.length_map, l10]
  have on10 : A10.all (·.oneCell') = true := by rw [← hA10]; exact all_oneCell_toArray (ints_oneCell _ _)
  have ii10 : (Tryz.prog.info? 25).map (·.size) = some A10.size := by rw [sz10]; kernel_rfl
  have HLx10 : Hid (x10.length = 6) := l10
  clear hA10 hAL10 HR hx10 l10
  go_wp2_with fail
  refine C10.mono ?_
  rintro e V10 (⟨-, rfl, hR⟩ | ⟨a, hb, g', rfl, hM⟩)
  rotate_left
  · exact ⟨rfl, Or.inr ⟨a, id hb, g', rfl, hM⟩⟩
  have th10 := hR.there (i := 0) rfl 17 A10.size (by rw [sz10, List.size_toArray, tc_len HL9.out]; omega)
  have hR2 := LnS.setCells A10.toList 17 hR (i := 0) rfl
  rw [List.set_cons_zero, HAL10.out, tc_host t9 _ _ _ _ HL9.out HLx10.out] at hR2
  have HN : Hid (LnS w (V10.setCells gb 17 A10.toList) g post T (tnS σ) W ((gb, .cells (tc { t9 with host := x10 } nilV nilV nilV).toArray 45 (0, 0)) :: (g0, .cells tz 45 (0, 0)) :: K)) := by rw [HAL10.out]; exact hR2
  clear C10 hR hR2
  go_upto_region 12 with (refine wpList_store_mid rfl 25 (.tmp 31) (.tmp 30) (by with_reducible rfl) gb 17 A10 (by first | rfl | simp [Act.eval]) (by first | rfl | simp [Act.eval]) th10 ii10 on10 ?_)
  refine wp_letter (fun V => LnS w V g post T (tnS σ) W ((gb, Obj.cells (tc { t9 with host := x10 } nilV nilV nilV).toArray 45 (0, 0)) :: (g0, Obj.cells tz 45 (0, 0)) :: K)) (by exact HN.out) ?_
  intro V10b hR
  obtain ⟨t10, ht10⟩ : ∃ t, { t9 with host := x10 } = t := ⟨_, rfl⟩
  have HL10 : Hid (TLen t10) := by rw [← ht10]; exact ⟨HL9.out.key, HL9.out.vmac, HLx10.out⟩
  have HX10 : Hid (t10 = ⟨x1, x3, x5, x7, x8, x10, [], 0, 0, 0, [], [], 0, 0, 0, 0⟩) := by rw [← ht10, HX9.out]; exact rfl
  rw [ht10] at hR
  have HR : Hid (LnS w V10b g post T (tnS σ) W ((gb, .cells (tc t10 nilV nilV nilV).toArray 45 (0, 0)) :: (g0, .cells tz 45 (0, 0)) :: K)) := hR
  clear hR HN ht10 HL9 HX9 th10 HA10 sz10 on10 ii10 HAL10 HLx10
  obtain ⟨A, hA⟩ : ∃ A, (tc t10 nilV nilV nilV).toArray = A := ⟨_, rfl⟩
  have hR := HR.out
  have hsz : A.size = 33 := by rw [← hA, List.size_toArray]; exact tc_len HL10.out _ _ _
  have hone : A.all (·.oneCell') = true := by rw [← hA]; exact tc_one3 _ rfl rfl rfl
  have i33 : (Tryz.prog.info? 45).map (·.size) = some A.size := by rw [hsz]; kernel_rfl
  have HF : Hid (A = (tc C0 nilV nilV nilV).toArray) := by
    have e : C0 = t10 := by
      rw [HX10.out, ← HC0.out]
      unfold tnT
      rw [HE1.out, HE3.out, HE5.out, HE7.out, HE8.out, HE10.out]
      rfl
    rw [← hA, e]; exact rfl
  rw [hA] at hR
  have HB : Hid ((tnS σ).bad = none) := hR.1
  have k1 : V10b.heap[gb]? = some (.cells A 45 (0, 0)) := hR.mem.get 0 rfl
  have k0 : V10b.heap[g0]? = some (.cells tz 45 (0, 0)) := hR.mem.get 1 rfl
  have HQ : Hid (LnS w (V10b.setRow g0 A) g post T (tnS σ) W K ∧ (V10b.setRow g0 A).heap[g0]? = some (.cells A 45 (0, 0))) := by
    obtain ⟨q1, q2, v, q3, q4⟩ := hR
    have h5 := q4.wrote 2 rfl (wrote_setRow V10b g0 _ A _ k0)
    exact ⟨⟨q1, q2, v, q3, h5.perm (List.Perm.swap _ _ _) |>.sub |>.perm (List.Perm.swap _ _ _) |>.sub⟩, h5.get 2 rfl⟩
  clear hR hA HR
  go_wp2_with (first | (refine wpList_load_row rfl 45 (.tmp 3) (by with_reducible rfl) gb (by first | rfl | simp [Act.eval]) 45 A (0, 0) _ k1 Tryz.underlying45 rfl i33 ?_) | (refine wpList_store_row rfl 45 (.tmp 2) (.tmp 32) (by with_reducible rfl) g0 A (by first | rfl | simp [Act.eval]) (by first | rfl | simp [Act.eval]) 45 tz k0 i33 (by rw [hsz]; rfl) hone ?_))
  refine bodyPost_ret (v := .agg A) ?_ rfl (Or.inl ⟨HB.out, by rw [HF.out], HQ.out.1⟩)
  exact results_cell_row (p := 2) (ty := 45) rfl _ _ g0 45 _ (0, 0) _ rfl HQ.out.2 Tryz.underlying45 rfl i33
end Go.Proofs.YtneciccdiledfaaGreatDoor

