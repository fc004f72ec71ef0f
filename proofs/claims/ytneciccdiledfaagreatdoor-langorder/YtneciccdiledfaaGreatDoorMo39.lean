/-
  Settings as text: the program's writer: the first line.
  Settings as text: the program's reader: the first line.
  Settings as text: what the document's Text calls, and sums of strings.
-/
import Derived.Test.YtneciccdiledfaaGreatDoorMo38
import Derived.Test.YtneciccdiledfaaGreatDoorMo31
import Derived.Test.YtneciccdiledfaaGreatDoorMo19
import Derived.Test.YtneciccdiledfaaGreatDoorMo29
namespace Go.Proofs.YtneciccdiledfaaGreatDoor
open Go.RowKit
open La
open Ad
open Sm (IsBytes)
set_option linter.unusedVariables false
set_option linter.unusedSimpArgs false
set_option maxRecDepth 20000

theorem iptx {w X : World} (hV : Vs w) (hb : Below w.heap.size w X) (n : Int) (h : 0 ≤ n ∧ n ≤ 4294967295) : Calls Tryz.prog 59 #[.int .u32 n] X fun e w' => e = .returned (.string ⟨(ipx n).toArray⟩) ∧ Below X.heap.size X w' := by
  have := iptext_any (hV.below hb) n.toNat (by omega)
  rw [toNat_eq h.1] at this
  exact this
set_option maxHeartbeats 8000000 in
theorem wgate_any {w V : World} {g : Nat} {l : List UInt8} {K : List (Nat × Obj)} {c : Cgf} {u : Value} (hV : Vs w) (h : Bu w V g l K) (hc : CIn c) (hr : CRg c) (hlen : l.length + (spc (txtG c)).length ≤ 90000000) :
    Calls Tryz.prog 32 #[.pointer (some ⟨g, 0, none⟩), .agg (cc c u).toArray] V fun e V' => e = .returned (.tuple #[]) ∧ Bu w V' g (l ++ spc (txtG c)) K := by
  obtain ⟨g1, hg1⟩ : ∃ g1, V.heap.size = g1 := ⟨_, rfl⟩
  have HP : Hid (Bu w (V.alloc (.cells (cc c u).toArray 29 (0, 0))) g l ((g1, .cells (cc c u).toArray 29 (0, 0)) :: K)) := h.push _ hg1.symm
  have KS0 : ∀ X L', Bu w X g L' ((g1, .cells (cc c u).toArray 29 (0, 0)) :: K) → X.cell? ⟨g1, 0, none⟩ = some (.int .u32 c.ip) ∧ X.rangeAt g1 1 (u8s c.mac) ∧ X.rangeAt g1 7 (u8s c.omac) ∧ X.rangeAt g1 13 (u8s c.nmac) ∧ X.rangeAt g1 19 (u8s c.key) ∧ X.cell? ⟨g1, 27, none⟩ = some (.int .u32 c.drain) := by
    intro X L' hX
    obtain ⟨a1, a2, a3, a4, a5, a6, -⟩ := cfg_box hc.len hX.mem (List.mem_cons_self ..)
    exact ⟨a1, a2, a3, a4, a5, a6⟩
  have C1 := fun (X : World) (hb : Below w.heap.size w X) => iptx hV hb c.ip hr.ip
  have C2 : ∀ X : World, Calls Tryz.prog 60 #[.agg (u8s c.mac).toArray] X fun e w' => e = .returned (.string ⟨(mact c.mac).toArray⟩) ∧ Below X.heap.size X w' := fun (X : World) => mact_any X c.mac hc.len.mac hc.mac
  have C3 : ∀ X : World, Calls Tryz.prog 60 #[.agg (u8s c.omac).toArray] X fun e w' => e = .returned (.string ⟨(mact c.omac).toArray⟩) ∧ Below X.heap.size X w' := fun (X : World) => mact_any X c.omac hc.len.omac hc.omac
  have C4 : ∀ X : World, Calls Tryz.prog 60 #[.agg (u8s c.nmac).toArray] X fun e w' => e = .returned (.string ⟨(mact c.nmac).toArray⟩) ∧ Below X.heap.size X w' := fun (X : World) => mact_any X c.nmac hc.len.nmac hc.nmac
  have C5 : ∀ X : World, Calls Tryz.prog 61 #[.agg (u8s c.key).toArray] X fun e w' => e = .returned (.string ⟨(keyt c.key).toArray⟩) ∧ Below X.heap.size X w' := fun (X : World) => keyt_any X c.key hc.len.key hc.key
  have C6 := fun (X : World) (hb : Below w.heap.size w X) => number32_any (hV.below hb) c.drain hr.drain.1 hr.drain.2
  have i2 : (Tryz.prog.info? 25).map (·.size) = some (u8s c.mac).length := by rw [List.length_map, hc.len.mac]; kernel_rfl
  have i3 : (Tryz.prog.info? 25).map (·.size) = some (u8s c.omac).length := by rw [List.length_map, hc.len.omac]; kernel_rfl
  have i4 : (Tryz.prog.info? 25).map (·.size) = some (u8s c.nmac).length := by rw [List.length_map, hc.len.nmac]; kernel_rfl
  have i5 : (Tryz.prog.info? 26).map (·.size) = some (u8s c.key).length := by rw [List.length_map, hc.len.key]; kernel_rfl
  have hT : ∀ s1 s2 s3 s4 s5 s6 : ByteArray, ⟨(ipx c.ip).toArray⟩ = s1 → ⟨(mact c.mac).toArray⟩ = s2 → ⟨(mact c.omac).toArray⟩ = s3 → ⟨(mact c.nmac).toArray⟩ = s4 → ⟨(keyt c.key).toArray⟩ = s5 → ⟨(La.dec c.drain).toArray⟩ = s6 → [(⟨#[103, 97, 116, 101, 119, 97, 121]⟩ : ByteArray), s1, s2, s3, s4, s5, ⟨#[100, 114, 97, 105, 110]⟩, s6].map (·.data.toList) = txtG c := by
    rintro s1 s2 s3 s4 s5 s6 rfl rfl rfl rfl rfl rfl; rfl
  obtain ⟨s1, hs1⟩ : ∃ s : ByteArray, ⟨(ipx c.ip).toArray⟩ = s := ⟨_, rfl⟩
  obtain ⟨s2, hs2⟩ : ∃ s : ByteArray, ⟨(mact c.mac).toArray⟩ = s := ⟨_, rfl⟩
  obtain ⟨s3, hs3⟩ : ∃ s : ByteArray, ⟨(mact c.omac).toArray⟩ = s := ⟨_, rfl⟩
  obtain ⟨s4, hs4⟩ : ∃ s : ByteArray, ⟨(mact c.nmac).toArray⟩ = s := ⟨_, rfl⟩
  obtain ⟨s5, hs5⟩ : ∃ s : ByteArray, ⟨(keyt c.key).toArray⟩ = s := ⟨_, rfl⟩
  obtain ⟨s6, hs6⟩ : ∃ s : ByteArray, ⟨(La.dec c.drain).toArray⟩ = s := ⟨_, rfl⟩
  have hT2 := hT s1 s2 s3 s4 s5 s6 hs1 hs2 hs3 hs4 hs5 hs6
  simp only [hs1] at C1
  simp only [hs2] at C2
  simp only [hs3] at C3
  simp only [hs4] at C4
  simp only [hs5] at C5
  simp only [hs6] at C6
  obtain ⟨T, hTT⟩ : ∃ T, spc (txtG c) = T := ⟨_, rfl⟩
  obtain ⟨K1, hK1⟩ : ∃ K1, ((g1, Obj.cells (cc c u).toArray 29 (0, 0)) :: K) = K1 := ⟨_, rfl⟩
  have CL : Hid (∀ X, Bu w X g l K1 → Calls Tryz.prog 58 #[.pointer (some ⟨g, 0, none⟩), .slice (some ⟨X.heap.size, 0, none⟩) 8 8] (X.alloc (.cells #[.string ⟨#[103, 97, 116, 101, 119, 97, 121]⟩, .string s1, .string s2, .string s3, .string s4, .string s5, .string ⟨#[100, 114, 97, 105, 110]⟩, .string s6] 9)) fun e V' => e = .returned (.tuple #[]) ∧ Bu w V' g (l ++ T) K1) := by
    intro X hX
    have := wlit_any hX [⟨#[103, 97, 116, 101, 119, 97, 121]⟩, s1, s2, s3, s4, s5, ⟨#[100, 114, 97, 105, 110]⟩, s6] 8 rfl (by decide) (by rw [hT2]; exact hlen)
    rw [hT2, hTT] at this
    exact this
  rw [hTT]
  rw [hK1] at KS0 HP
  have HDr : Hid (∀ X L', Bu w X g L' K1 → Bu w X g L' K) := fun X L' hX => by rw [← hK1] at hX; exact hX.drop1
  clear hT hT2 hs1 hs2 hs3 hs4 hs5 hs6 hTT hK1 h hlen hc hr
  obtain ⟨A, hA⟩ : ∃ A, (cc c u).toArray = A := ⟨_, rfl⟩
  rw [hA] at HP ⊢
  clear hA
  generalize c.ip = n1 at *
  generalize c.drain = n6 at *
  generalize u8s c.mac = m2 at *
  generalize u8s c.omac = m3 at *
  generalize u8s c.nmac = m4 at *
  generalize u8s c.key = m5 at *
  have KS : Hid (∀ X L', Bu w X g L' K1 → X.cell? ⟨g1, 0, none⟩ = some (.int .u32 n1) ∧ X.rangeAt g1 1 m2 ∧ X.rangeAt g1 7 m3 ∧ X.rangeAt g1 13 m4 ∧ X.rangeAt g1 19 m5 ∧ X.cell? ⟨g1, 27, none⟩ = some (.int .u32 n6)) := KS0
  clear KS0
  go_enter Tryz.func32, Tryz.ntmps32
  go_upto_region 1 with fail
  refine wp_letter (fun X => Bu w X g l K1) (by exact HP.out) ?_
  intro V0 hR
  try simp only [hg1]
  clear HP hg1
  have HB0 : Hid (Bu w V0.drew g l K1) := hR.after ((Below.refl _ _).drew)
  clear hR
  refine wp_region_held_drew (S := fun X => X.cell? ⟨g1, 0, none⟩ = some (.int .u32 n1) ∧ X.rangeAt g1 1 m2 ∧ X.rangeAt g1 7 m3 ∧ X.rangeAt g1 13 m4 ∧ X.rangeAt g1 19 m5 ∧ X.cell? ⟨g1, 27, none⟩ = some (.int .u32 n6)) (by kernel_rfl) (KS.out _ _ HB0.out) (fun hHeld => ?_)
  refine wpAnyH_take (i := 0) (v := ?_) rfl (by kernel_rfl) (by kernel_rfl) (by kernel_rfl) (fun _ _ _ h => h) (Or.inl ⟨by rfl, ?qy0⟩) (by assumption) ?qr0
  case qy0 =>
    intro w hSw
    (try dsimp only at hSw)
    go_simp
    all_goals with_reducible rfl
  try simp only [List.getElem_toArray, List.getElem_cons_zero, List.getElem_cons_succ, Act.put, List.setIfInBounds_toArray, List.set_cons_zero, List.set_cons_succ]
  refine wpAnyH_take (i := 1) (v := ?_) rfl (by kernel_rfl) (by kernel_rfl) (by kernel_rfl) (fun _ _ _ h => h) (Or.inl ⟨by rfl, ?qy1⟩) (by assumption) ?qr1
  case qy1 =>
    intro w hSw
    (try dsimp only at hSw)
    go_simp
    all_goals with_reducible rfl
  try simp only [List.getElem_toArray, List.getElem_cons_zero, List.getElem_cons_succ, Act.put, List.setIfInBounds_toArray, List.set_cons_zero, List.set_cons_succ]
  refine wpAnyH_take (i := 2) (v := ?_) rfl (by kernel_rfl) (by kernel_rfl) (by kernel_rfl) (fun _ _ _ h => h) (Or.inl ⟨by rfl, ?qy2⟩) (by assumption) ?qr2
  case qy2 =>
    intro w hSw
    (try dsimp only at hSw)
    go_simp
    all_goals with_reducible rfl
  try simp only [List.getElem_toArray, List.getElem_cons_zero, List.getElem_cons_succ, Act.put, List.setIfInBounds_toArray, List.set_cons_zero, List.set_cons_succ]
  refine wpAnyH_take (i := 4) (v := ?_) rfl (by kernel_rfl) (by kernel_rfl) (by kernel_rfl) (fun _ _ _ h => h) (Or.inl ⟨by rfl, ?qy4⟩) (by assumption) ?qr4
  case qy4 =>
    intro w hSw
    (try dsimp only at hSw)
    go_simp
    all_goals with_reducible rfl
  try simp only [List.getElem_toArray, List.getElem_cons_zero, List.getElem_cons_succ, Act.put, List.setIfInBounds_toArray, List.set_cons_zero, List.set_cons_succ]
  refine wpAnyH_take (i := 5) (v := _) rfl (by kernel_rfl) (by kernel_rfl) (by kernel_rfl) (fun _ _ _ h => h) (yieldsIf_load_mid (by rfl) _ _ rfl _ _ rfl _ _ ?qs5 Tryz.underlying25 rfl i2) (by assumption) ?qr5
  case qs5 =>
    intro w hSw
    (try dsimp only at hSw)
    go_split_ands
    assumption
  try simp only [List.getElem_toArray, List.getElem_cons_zero, List.getElem_cons_succ, Act.put, List.setIfInBounds_toArray, List.set_cons_zero, List.set_cons_succ]
  refine wpAnyH_take (i := 7) (v := ?_) rfl (by kernel_rfl) (by kernel_rfl) (by kernel_rfl) (fun _ _ _ h => h) (Or.inl ⟨by rfl, ?qy7⟩) (by assumption) ?qr7
  case qy7 =>
    intro w hSw
    (try dsimp only at hSw)
    go_simp
    all_goals with_reducible rfl
  try simp only [List.getElem_toArray, List.getElem_cons_zero, List.getElem_cons_succ, Act.put, List.setIfInBounds_toArray, List.set_cons_zero, List.set_cons_succ]
  refine wpAnyH_take (i := 8) (v := _) rfl (by kernel_rfl) (by kernel_rfl) (by kernel_rfl) (fun _ _ _ h => h) (yieldsIf_load_mid (by rfl) _ _ rfl _ _ rfl _ _ ?qs8 Tryz.underlying25 rfl i3) (by assumption) ?qr8
  case qs8 =>
    intro w hSw
    (try dsimp only at hSw)
    go_split_ands
    assumption
  try simp only [List.getElem_toArray, List.getElem_cons_zero, List.getElem_cons_succ, Act.put, List.setIfInBounds_toArray, List.set_cons_zero, List.set_cons_succ]
  refine wpAnyH_take (i := 10) (v := ?_) rfl (by kernel_rfl) (by kernel_rfl) (by kernel_rfl) (fun _ _ _ h => h) (Or.inl ⟨by rfl, ?qy10⟩) (by assumption) ?qr10
  case qy10 =>
    intro w hSw
    (try dsimp only at hSw)
    go_simp
    all_goals with_reducible rfl
  try simp only [List.getElem_toArray, List.getElem_cons_zero, List.getElem_cons_succ, Act.put, List.setIfInBounds_toArray, List.set_cons_zero, List.set_cons_succ]
  refine wpAnyH_take (i := 11) (v := _) rfl (by kernel_rfl) (by kernel_rfl) (by kernel_rfl) (fun _ _ _ h => h) (yieldsIf_load_mid (by rfl) _ _ rfl _ _ rfl _ _ ?qs11 Tryz.underlying25 rfl i4) (by assumption) ?qr11
  case qs11 =>
    intro w hSw
    (try dsimp only at hSw)
    go_split_ands
    assumption
  try simp only [List.getElem_toArray, List.getElem_cons_zero, List.getElem_cons_succ, Act.put, List.setIfInBounds_toArray, List.set_cons_zero, List.set_cons_succ]
  refine wpAnyH_take (i := 13) (v := ?_) rfl (by kernel_rfl) (by kernel_rfl) (by kernel_rfl) (fun _ _ _ h => h) (Or.inl ⟨by rfl, ?qy13⟩) (by assumption) ?qr13
  case qy13 =>
    intro w hSw
    (try dsimp only at hSw)
    go_simp
    all_goals with_reducible rfl
  try simp only [List.getElem_toArray, List.getElem_cons_zero, List.getElem_cons_succ, Act.put, List.setIfInBounds_toArray, List.set_cons_zero, List.set_cons_succ]
  refine wpAnyH_take (i := 14) (v := _) rfl (by kernel_rfl) (by kernel_rfl) (by kernel_rfl) (fun _ _ _ h => h) (yieldsIf_load_mid (by rfl) _ _ rfl _ _ rfl _ _ ?qs14 Tryz.underlying26 rfl i5) (by assumption) ?qr14
  case qs14 =>
    intro w hSw
    (try dsimp only at hSw)
    go_split_ands
    assumption
  try simp only [List.getElem_toArray, List.getElem_cons_zero, List.getElem_cons_succ, Act.put, List.setIfInBounds_toArray, List.set_cons_zero, List.set_cons_succ]
  refine wpAnyH_take (i := 16) (v := ?_) rfl (by kernel_rfl) (by kernel_rfl) (by kernel_rfl) (fun _ _ _ h => h) (Or.inl ⟨by rfl, ?qy16⟩) (by assumption) ?qr16
  case qy16 =>
    intro w hSw
    (try dsimp only at hSw)
    go_simp
    all_goals with_reducible rfl
  try simp only [List.getElem_toArray, List.getElem_cons_zero, List.getElem_cons_succ, Act.put, List.setIfInBounds_toArray, List.set_cons_zero, List.set_cons_succ]
  refine wpAnyH_take (i := 17) (v := ?_) rfl (by kernel_rfl) (by kernel_rfl) (by kernel_rfl) (fun _ _ _ h => h) (Or.inl ⟨by rfl, ?qy17⟩) (by assumption) ?qr17
  case qy17 =>
    intro w hSw
    (try dsimp only at hSw)
    go_simp
    all_goals with_reducible rfl
  try simp only [List.getElem_toArray, List.getElem_cons_zero, List.getElem_cons_succ, Act.put, List.setIfInBounds_toArray, List.set_cons_zero, List.set_cons_succ]
  refine wpAnyH_ready (rs := [3]) (by kernel_rfl) (by simp) ?_
  refine AllReadyH.cons rfl (fun K hK => ?_) AllReadyH.nil
  go_simp
  with_reducible refine (C1 _ HB0.out.mem.below).mono ?_
  rintro e W1 ⟨rfl, hb1⟩
  try go_wp2_with fail
  refine hK.out _ _ (KS.out _ _ (HB0.out.after hb1)) (fun hHeld => ?_)
  clear hK K
  try simp only [List.getElem_toArray, List.getElem_cons_zero, List.getElem_cons_succ, Act.put, List.setIfInBounds_toArray, List.set_cons_zero, List.set_cons_succ]
  refine wpAnyH_ready (rs := [6]) (by kernel_rfl) (by simp) ?_
  refine AllReadyH.cons rfl (fun K hK => ?_) AllReadyH.nil
  go_simp
  with_reducible refine (C2 _).mono ?_
  rintro e W2 ⟨rfl, hb2⟩
  try go_wp2_with fail
  refine hK.out _ _ (KS.out _ _ ((HB0.out.after hb1).after hb2)) (fun hHeld => ?_)
  clear hK K
  try simp only [List.getElem_toArray, List.getElem_cons_zero, List.getElem_cons_succ, Act.put, List.setIfInBounds_toArray, List.set_cons_zero, List.set_cons_succ]
  refine wpAnyH_ready (rs := [9]) (by kernel_rfl) (by simp) ?_
  refine AllReadyH.cons rfl (fun K hK => ?_) AllReadyH.nil
  go_simp
  with_reducible refine (C3 _).mono ?_
  rintro e W3 ⟨rfl, hb3⟩
  try go_wp2_with fail
  refine hK.out _ _ (KS.out _ _ (((HB0.out.after hb1).after hb2).after hb3)) (fun hHeld => ?_)
  clear hK K
  try simp only [List.getElem_toArray, List.getElem_cons_zero, List.getElem_cons_succ, Act.put, List.setIfInBounds_toArray, List.set_cons_zero, List.set_cons_succ]
  refine wpAnyH_ready (rs := [12]) (by kernel_rfl) (by simp) ?_
  refine AllReadyH.cons rfl (fun K hK => ?_) AllReadyH.nil
  go_simp
  with_reducible refine (C4 _).mono ?_
  rintro e W4 ⟨rfl, hb4⟩
  try go_wp2_with fail
  refine hK.out _ _ (KS.out _ _ ((((HB0.out.after hb1).after hb2).after hb3).after hb4)) (fun hHeld => ?_)
  clear hK K
  try simp only [List.getElem_toArray, List.getElem_cons_zero, List.getElem_cons_succ, Act.put, List.setIfInBounds_toArray, List.set_cons_zero, List.set_cons_succ]
  refine wpAnyH_ready (rs := [15]) (by kernel_rfl) (by simp) ?_
  refine AllReadyH.cons rfl (fun K hK => ?_) AllReadyH.nil
  go_simp
  with_reducible refine (C5 _).mono ?_
  rintro e W5 ⟨rfl, hb5⟩
  try go_wp2_with fail
  refine hK.out _ _ (KS.out _ _ (((((HB0.out.after hb1).after hb2).after hb3).after hb4).after hb5)) (fun hHeld => ?_)
  clear hK K
  try simp only [List.getElem_toArray, List.getElem_cons_zero, List.getElem_cons_succ, Act.put, List.setIfInBounds_toArray, List.set_cons_zero, List.set_cons_succ]
  refine wpAnyH_ready (rs := [18]) (by kernel_rfl) (by simp) ?_
  refine AllReadyH.cons rfl (fun K hK => ?_) AllReadyH.nil
  go_simp
  with_reducible refine (C6 _ (((((HB0.out.after hb1).after hb2).after hb3).after hb4).after hb5).mem.below).mono ?_
  rintro e W6 ⟨rfl, hb6⟩
  try go_wp2_with fail
  refine hK.out _ _ (KS.out _ _ ((((((HB0.out.after hb1).after hb2).after hb3).after hb4).after hb5).after hb6)) (fun hHeld => ?_)
  clear hK K
  try simp only [List.getElem_toArray, List.getElem_cons_zero, List.getElem_cons_succ, Act.put, List.setIfInBounds_toArray, List.set_cons_zero, List.set_cons_succ]
  refine wpAnyH_ready (rs := [19]) (by kernel_rfl) (by simp) ?_
  refine AllReadyH.cons rfl (fun K hK => ?_) AllReadyH.nil
  go_simp
  refine hK.out _ _ (KS.out _ _ (((((((HB0.out.after hb1).after hb2).after hb3).after hb4).after hb5).after hb6).after ((Below.refl _ _).alloc (Nat.le_refl _) _))) (fun hHeld => ?_)
  clear hK K
  try simp only [List.getElem_toArray, List.getElem_cons_zero, List.getElem_cons_succ, Act.put, List.setIfInBounds_toArray, List.set_cons_zero, List.set_cons_succ]
  refine wpAnyH_ready (rs := [20]) (by kernel_rfl) (by simp) ?_
  refine AllReadyH.cons rfl (fun K hK => ?_) AllReadyH.nil
  go_simp
  with_reducible refine (CL.out _ ((((((HB0.out.after hb1).after hb2).after hb3).after hb4).after hb5).after hb6)).mono ?_
  rintro e W7 ⟨rfl, hB7⟩
  try go_wp2_with fail
  refine hK.out _ _ (KS.out _ _ hB7) (fun hHeld => ?_)
  clear hK K
  try simp only [List.getElem_toArray, List.getElem_cons_zero, List.getElem_cons_succ, Act.put, List.setIfInBounds_toArray, List.set_cons_zero, List.set_cons_succ]
  refine wpAnyH_done (by kernel_rfl) ?_ _
  have HB7 : Hid (Bu w W7 g (l ++ T) K) := HDr.out _ _ hB7
  clear hB7
  go_wp2_with fail
  go_end0
  exact ⟨rfl, HB7.out⟩
end Go.Proofs.YtneciccdiledfaaGreatDoor

namespace Go.Proofs.YtneciccdiledfaaGreatDoor
open Go.RowKit
open La
open Ad
set_option linter.unusedVariables false
set_option linter.unusedSimpArgs false
set_option maxRecDepth 20000
theorem m6_len (σ : Sg) : (m6 (val mac σ)).length = 6 := by
  show ((mac (wt σ)).getD _).length = 6
  cases e : mac (wt σ) with
  | none => rfl
  | some l => exact (mac_back e).2.1
theorem k8_len (σ : Sg) : (k8 (val key σ)).length = 8 := by
  show ((key (wt σ)).getD _).length = 8
  cases e : key (wt σ) with
  | none => rfl
  | some l => exact key_len e
theorem upTo_ln {w V : World} {g : Nat} {post : List Value} {T : TypeId} {σ : Sg} {W K : List (Nat × Obj)} (h : LnS w V g post T σ W K) (m : Nat) : Calls Tryz.prog 79 #[.int .u32 (m : Int)] V fun e V' => ∃ b, e = .returned (.func (.func 102) #[] #[.pointer (some ⟨b, 0, none⟩)]) ∧ LnS w V' g post T σ W ((b, .cells #[.int .u32 m] 23 (0, 0)) :: K) := by
  refine (upTo_any h.mem m).mono ?_
  rintro e V' ⟨b, rfl, hb, rfl⟩
  exact ⟨b, rfl, h.push _ hb⟩
theorem gb8 {σ : Sg} {a : Nat} (h : (g8 σ).bad = some a) : (gwS σ).bad = some a := done_bad h
theorem gb7 {σ : Sg} {a : Nat} (h : (g7 σ).bad = some a) : (gwS σ).bad = some a := gb8 (vnx_bad h)
theorem gb6 {σ : Sg} {a : Nat} (h : (g6 σ).bad = some a) : (gwS σ).bad = some a := gb7 (must_bad h)
theorem gb5 {σ : Sg} {a : Nat} (h : (g5 σ).bad = some a) : (gwS σ).bad = some a := gb6 (vnx_bad h)
theorem gb4 {σ : Sg} {a : Nat} (h : (g4 σ).bad = some a) : (gwS σ).bad = some a := gb5 (vnx_bad h)
theorem gb3 {σ : Sg} {a : Nat} (h : (g3 σ).bad = some a) : (gwS σ).bad = some a := gb4 (vnx_bad h)
theorem gb2 {σ : Sg} {a : Nat} (h : (g2 σ).bad = some a) : (gwS σ).bad = some a := gb3 (vnx_bad h)
theorem gb1 {σ : Sg} {a : Nat} (h : (g1 σ).bad = some a) : (gwS σ).bad = some a := gb2 (vnx_bad h)
set_option maxHeartbeats 16000000 in
theorem gateway_any {w V : World} {g : Nat} {post : List Value} {T : TypeId} {σ : Sg} {W K : List (Nat × Obj)} (hV : Vs w) (h : LnS w V g post T σ W K) :
    Calls Tryz.prog 45 #[.pointer (some ⟨g, 0, none⟩)] V (VP w (gwS σ) fun e V' => e = .returned (.agg (cc (gwC σ) nilV).toArray) ∧ LnS w V' g post T (gwS σ) W K) := by
  obtain ⟨g0, hg⟩ : ∃ g0, V.heap.size = g0 := ⟨_, rfl⟩
  have HR0 : Hid (LnS w (V.alloc (.cells cz 29 (0, 0))) g post T σ W ((g0, .cells cz 29 (0, 0)) :: K)) := h.push _ hg.symm
  obtain ⟨C0, hC0⟩ : ∃ c, gwC σ = c := ⟨_, rfl⟩
  rw [hC0]
  have HC0 : Hid (gwC σ = C0) := hC0
  have bC := build_C
  clear h hC0
  go_enter Tryz.func45, Tryz.ntmps45
  go_upto_region 1 with fail
  refine wp_letter (fun V => LnS w V g post T σ W ((g0, Obj.cells cz 29 (0, 0)) :: K)) (by exact HR0.out) ?_
  intro Va hR
  try simp only [hg]
  obtain ⟨gb, hgb⟩ : ∃ gb, Va.heap.size = gb := ⟨_, rfl⟩
  have hk1 : (Va.alloc (.cells cz 29)).heap[gb]? = some (.cells cz 29 (0, 0)) := (hR.push (.cells cz 29 (0, 0)) hgb.symm).mem.get 0 rfl
  have hR1 := hR.push (.cells cz 29 (0, 0)) hgb.symm
  have e1 : (Va.alloc (.cells cz 29)).setRow gb cz = Va.alloc (.cells cz 29) := by
    rw [← hgb]; exact World.setRow_alloc_new Va cz cz 29
  rw [← e1] at hR1
  have HR1 : Hid (LnS w ((Va.alloc (.cells cz 29)).setRow gb cz) g post T σ W ((gb, .cells (cc cfg0 nilV).toArray 29 (0, 0)) :: (g0, .cells cz 29 (0, 0)) :: K)) := hR1
  clear HR0 hR hg hR1 e1
  go_upto_region 2 with (refine wpList_store_row rfl 29 (.tmp 3) (.tmp 4) (by with_reducible rfl) gb cz (by simp [Act.eval]; try exact hgb) (by simp [Act.eval]; rfl) 29 cz hk1 (by kernel_rfl) rfl (by kernel_rfl) ?_)
  refine wp_letter (fun V => LnS w V g post T σ W ((gb, Obj.cells (cc cfg0 nilV).toArray 29 (0, 0)) :: (g0, Obj.cells cz 29 (0, 0)) :: K)) (by exact HR1.out) ?_
  intro V0b hR
  have HR : Hid (LnS w V0b g post T σ W ((gb, .cells (cc cfg0 nilV).toArray 29 (0, 0)) :: (g0, .cells cz 29 (0, 0)) :: K)) := hR
  try simp only [hgb]
  clear HR1 hR hgb hk1
  obtain ⟨t0, ht0⟩ : ∃ t, cfg0 = t := ⟨_, rfl⟩
  have HL0 : Hid (CLen t0) := by rw [← ht0]; exact cfg0_len
  have HX0 : Hid (t0 = ⟨0, [0, 0, 0, 0, 0, 0], [0, 0, 0, 0, 0, 0], [0, 0, 0, 0, 0, 0], [0, 0, 0, 0, 0, 0, 0, 0], 0, []⟩) := ht0.symm
  rw [show (cc cfg0 nilV) = cc t0 nilV by rw [ht0]] at HR
  clear ht0
  have C1 : Calls Tryz.prog 72 #[.pointer (some ⟨g, 0, none⟩), .string ⟨#[103, 97, 116, 101, 119, 97, 121]⟩] V0b (VP w (g1 σ) fun e V' => e = .returned (.tuple #[]) ∧ LnS w V' g post T (g1 σ) W ((gb, .cells (cc t0 nilV).toArray 29 (0, 0)) :: (g0, .cells cz 29 (0, 0)) :: K)) := expect_any HR.out wGateway
  go_wp2_with fail
  refine C1.mono ?_
  rintro e V1 (⟨-, rfl, hR⟩ | ⟨a, hb, g', rfl, hM⟩)
  rotate_left
  · exact ⟨rfl, Or.inr ⟨a, gb1 hb, g', rfl, hM⟩⟩
  have HR' : Hid (LnS w V1 g post T (g1 σ) W ((gb, .cells (cc t0 nilV).toArray 29 (0, 0)) :: (g0, .cells cz 29 (0, 0)) :: K)) := hR
  clear C1 hR HR
  have HR := HR'
  clear HR'
  obtain ⟨t1, HT1⟩ : ∃ t, Hid (t0 = t) := ⟨_, rfl⟩
  rw [HT1.out] at HR
  have HL1 : Hid (CLen t1) := by rw [← HT1.out]; exact HL0.out
  have HX1 : Hid (t1 = ⟨0, [0, 0, 0, 0, 0, 0], [0, 0, 0, 0, 0, 0], [0, 0, 0, 0, 0, 0], [0, 0, 0, 0, 0, 0, 0, 0], 0, []⟩) := by rw [← HT1.out]; exact HX0.out
  clear HL0 HX0 HT1
  obtain ⟨x2, hx2⟩ : ∃ x, nv (val ip (g1 σ)) = x := ⟨_, rfl⟩
  have HE2 : Hid (nv (val ip (g1 σ)) = x2) := hx2
  have C2 : Calls Tryz.prog 73 _ V1 (VP w (g2 σ) fun e V' => e = .returned (.int .u32 (nv (val ip (g1 σ)))) ∧ LnS w V' g post T (g2 σ) W ((gb, .cells (cc t1 nilV).toArray 29 (0, 0)) :: (g0, .cells cz 29 (0, 0)) :: K)) := value_ip hV HR.out
  rw [hx2] at C2
  clear HR hx2
  go_wp2_with fail
  refine C2.mono ?_
  rintro e V2 (⟨-, rfl, hR⟩ | ⟨a, hb, g', rfl, hM⟩)
  rotate_left
  · exact ⟨rfl, Or.inr ⟨a, gb2 hb, g', rfl, hM⟩⟩
  obtain ⟨v0, cc2⟩ : ∃ v0, V2.cell? ⟨gb, 0, none⟩ = some v0 := Option.isSome_iff_exists.mp (hR.there (i := 0) rfl 0 1 (by rw [List.size_toArray, cc_len HL1.out]; omega) 0 (by omega)).1
  have fr2 : ∀ j, V2.frozen? ⟨gb, j, none⟩ = false := hR.freeK (i := 0) rfl
  have hR2 := hR.set (i := 0) rfl 0 (.int .u32 x2)
  rw [List.set_cons_zero, cc_ip t1 nilV x2] at hR2
  have HN : Hid (LnS w (V2.setCell ⟨gb, 0, none⟩ (.int .u32 x2)) g post T (g2 σ) W ((gb, .cells (cc { t1 with ip := x2 } nilV).toArray 29 (0, 0)) :: (g0, .cells cz 29 (0, 0)) :: K)) := hR2
  clear C2 hR hR2
  go_upto_region 4 with fail
  refine wp_letter (fun V => LnS w V g post T (g2 σ) W ((gb, Obj.cells (cc { t1 with ip := x2 } nilV).toArray 29 (0, 0)) :: (g0, Obj.cells cz 29 (0, 0)) :: K)) (by exact HN.out) ?_
  intro V2b hR
  obtain ⟨t2, ht2⟩ : ∃ t, { t1 with ip := x2 } = t := ⟨_, rfl⟩
  have HL2 : Hid (CLen t2) := by rw [← ht2]; exact ⟨HL1.out.mac, HL1.out.omac, HL1.out.nmac, HL1.out.key⟩
  have HX2 : Hid (t2 = ⟨x2, [0, 0, 0, 0, 0, 0], [0, 0, 0, 0, 0, 0], [0, 0, 0, 0, 0, 0], [0, 0, 0, 0, 0, 0, 0, 0], 0, []⟩) := by rw [← ht2, HX1.out]; exact rfl
  rw [ht2] at hR
  have HR : Hid (LnS w V2b g post T (g2 σ) W ((gb, .cells (cc t2 nilV).toArray 29 (0, 0)) :: (g0, .cells cz 29 (0, 0)) :: K)) := hR
  clear hR HN ht2 HL1 HX1 cc2 fr2
  have l3 : (m6 (val mac (g2 σ))).length = 6 := m6_len _
  obtain ⟨x3, hx3⟩ : ∃ x, m6 (val mac (g2 σ)) = x := ⟨_, rfl⟩
  have HE3 : Hid (m6 (val mac (g2 σ)) = x3) := hx3
  have C3 : Calls Tryz.prog 75 _ V2b (VP w (g3 σ) fun e V' => e = .returned (.agg (ab (m6 (val mac (g2 σ))))) ∧ LnS w V' g post T (g3 σ) W ((gb, .cells (cc t2 nilV).toArray 29 (0, 0)) :: (g0, .cells cz 29 (0, 0)) :: K)) := value_mac hV HR.out
  rw [hx3] at C3 l3
  obtain ⟨A3, hA3⟩ : ∃ A, ab x3 = A := ⟨_, rfl⟩
  rw [hA3] at C3
  have HA3 : Hid (ab x3 = A3) := hA3
  have hAL3 : A3.toList = x3.map (Value.int .u8) := by rw [← hA3]
  have HAL3 : Hid (A3.toList = x3.map (Value.int .u8)) := hAL3
  have sz3 : A3.size = 6 := by rw [← Array.length_toList, hAL3, List.length_map, l3]
  have on3 : A3.all (·.oneCell') = true := by rw [← hA3]; exact all_oneCell_toArray (ints_oneCell _ _)
  have ii3 : (Tryz.prog.info? 25).map (·.size) = some A3.size := by rw [sz3]; kernel_rfl
  have HLx3 : Hid (x3.length = 6) := l3
  clear hA3 hAL3 HR hx3 l3
  go_wp2_with fail
  refine C3.mono ?_
  rintro e V3 (⟨-, rfl, hR⟩ | ⟨a, hb, g', rfl, hM⟩)
  rotate_left
  · exact ⟨rfl, Or.inr ⟨a, gb3 hb, g', rfl, hM⟩⟩
  have th3 := hR.there (i := 0) rfl 1 A3.size (by rw [sz3, List.size_toArray, cc_len HL2.out]; omega)
  have hR2 := LnS.setCells A3.toList 1 hR (i := 0) rfl
  rw [List.set_cons_zero, HAL3.out, cc_mac t2 _ _ HL2.out HLx3.out] at hR2
  have HN : Hid (LnS w (V3.setCells gb 1 A3.toList) g post T (g3 σ) W ((gb, .cells (cc { t2 with mac := x3 } nilV).toArray 29 (0, 0)) :: (g0, .cells cz 29 (0, 0)) :: K)) := by rw [HAL3.out]; exact hR2
  clear C3 hR hR2
  go_upto_region 5 with (refine wpList_store_mid rfl 25 (.tmp 12) (.tmp 11) (by with_reducible rfl) gb 1 A3 (by first | rfl | simp [Act.eval]) (by first | rfl | simp [Act.eval]) th3 ii3 on3 ?_)
  refine wp_letter (fun V => LnS w V g post T (g3 σ) W ((gb, Obj.cells (cc { t2 with mac := x3 } nilV).toArray 29 (0, 0)) :: (g0, Obj.cells cz 29 (0, 0)) :: K)) (by exact HN.out) ?_
  intro V3b hR
  obtain ⟨t3, ht3⟩ : ∃ t, { t2 with mac := x3 } = t := ⟨_, rfl⟩
  have HL3 : Hid (CLen t3) := by rw [← ht3]; exact ⟨HLx3.out, HL2.out.omac, HL2.out.nmac, HL2.out.key⟩
  have HX3 : Hid (t3 = ⟨x2, x3, [0, 0, 0, 0, 0, 0], [0, 0, 0, 0, 0, 0], [0, 0, 0, 0, 0, 0, 0, 0], 0, []⟩) := by rw [← ht3, HX2.out]; exact rfl
  rw [ht3] at hR
  have HR : Hid (LnS w V3b g post T (g3 σ) W ((gb, .cells (cc t3 nilV).toArray 29 (0, 0)) :: (g0, .cells cz 29 (0, 0)) :: K)) := hR
  clear hR HN ht3 HL2 HX2 th3 HA3 sz3 on3 ii3 HAL3 HLx3
  have l4 : (m6 (val mac (g3 σ))).length = 6 := m6_len _
  obtain ⟨x4, hx4⟩ : ∃ x, m6 (val mac (g3 σ)) = x := ⟨_, rfl⟩
  have HE4 : Hid (m6 (val mac (g3 σ)) = x4) := hx4
  have C4 : Calls Tryz.prog 75 _ V3b (VP w (g4 σ) fun e V' => e = .returned (.agg (ab (m6 (val mac (g3 σ))))) ∧ LnS w V' g post T (g4 σ) W ((gb, .cells (cc t3 nilV).toArray 29 (0, 0)) :: (g0, .cells cz 29 (0, 0)) :: K)) := value_mac hV HR.out
  rw [hx4] at C4 l4
  obtain ⟨A4, hA4⟩ : ∃ A, ab x4 = A := ⟨_, rfl⟩
  rw [hA4] at C4
  have HA4 : Hid (ab x4 = A4) := hA4
  have hAL4 : A4.toList = x4.map (Value.int .u8) := by rw [← hA4]
  have HAL4 : Hid (A4.toList = x4.map (Value.int .u8)) := hAL4
  have sz4 : A4.size = 6 := by rw [← Array.length_toList, hAL4, List.length_map, l4]
  have on4 : A4.all (·.oneCell') = true := by rw [← hA4]; exact all_oneCell_toArray (ints_oneCell _ _)
  have ii4 : (Tryz.prog.info? 25).map (·.size) = some A4.size := by rw [sz4]; kernel_rfl
  have HLx4 : Hid (x4.length = 6) := l4
  clear hA4 hAL4 HR hx4 l4
  go_wp2_with fail
  refine C4.mono ?_
  rintro e V4 (⟨-, rfl, hR⟩ | ⟨a, hb, g', rfl, hM⟩)
  rotate_left
  · exact ⟨rfl, Or.inr ⟨a, gb4 hb, g', rfl, hM⟩⟩
  have th4 := hR.there (i := 0) rfl 7 A4.size (by rw [sz4, List.size_toArray, cc_len HL3.out]; omega)
  have hR2 := LnS.setCells A4.toList 7 hR (i := 0) rfl
  rw [List.set_cons_zero, HAL4.out, cc_omac t3 _ _ HL3.out HLx4.out] at hR2
  have HN : Hid (LnS w (V4.setCells gb 7 A4.toList) g post T (g4 σ) W ((gb, .cells (cc { t3 with omac := x4 } nilV).toArray 29 (0, 0)) :: (g0, .cells cz 29 (0, 0)) :: K)) := by rw [HAL4.out]; exact hR2
  clear C4 hR hR2
  go_upto_region 6 with (refine wpList_store_mid rfl 25 (.tmp 15) (.tmp 14) (by with_reducible rfl) gb 7 A4 (by first | rfl | simp [Act.eval]) (by first | rfl | simp [Act.eval]) th4 ii4 on4 ?_)
  refine wp_letter (fun V => LnS w V g post T (g4 σ) W ((gb, Obj.cells (cc { t3 with omac := x4 } nilV).toArray 29 (0, 0)) :: (g0, Obj.cells cz 29 (0, 0)) :: K)) (by exact HN.out) ?_
  intro V4b hR
  obtain ⟨t4, ht4⟩ : ∃ t, { t3 with omac := x4 } = t := ⟨_, rfl⟩
  have HL4 : Hid (CLen t4) := by rw [← ht4]; exact ⟨HL3.out.mac, HLx4.out, HL3.out.nmac, HL3.out.key⟩
  have HX4 : Hid (t4 = ⟨x2, x3, x4, [0, 0, 0, 0, 0, 0], [0, 0, 0, 0, 0, 0, 0, 0], 0, []⟩) := by rw [← ht4, HX3.out]; exact rfl
  rw [ht4] at hR
  have HR : Hid (LnS w V4b g post T (g4 σ) W ((gb, .cells (cc t4 nilV).toArray 29 (0, 0)) :: (g0, .cells cz 29 (0, 0)) :: K)) := hR
  clear hR HN ht4 HL3 HX3 th4 HA4 sz4 on4 ii4 HAL4 HLx4
  have l5 : (m6 (val mac (g4 σ))).length = 6 := m6_len _
  obtain ⟨x5, hx5⟩ : ∃ x, m6 (val mac (g4 σ)) = x := ⟨_, rfl⟩
  have HE5 : Hid (m6 (val mac (g4 σ)) = x5) := hx5
  have C5 : Calls Tryz.prog 75 _ V4b (VP w (g5 σ) fun e V' => e = .returned (.agg (ab (m6 (val mac (g4 σ))))) ∧ LnS w V' g post T (g5 σ) W ((gb, .cells (cc t4 nilV).toArray 29 (0, 0)) :: (g0, .cells cz 29 (0, 0)) :: K)) := value_mac hV HR.out
  rw [hx5] at C5 l5
  obtain ⟨A5, hA5⟩ : ∃ A, ab x5 = A := ⟨_, rfl⟩
  rw [hA5] at C5
  have HA5 : Hid (ab x5 = A5) := hA5
  have hAL5 : A5.toList = x5.map (Value.int .u8) := by rw [← hA5]
  have HAL5 : Hid (A5.toList = x5.map (Value.int .u8)) := hAL5
  have sz5 : A5.size = 6 := by rw [← Array.length_toList, hAL5, List.length_map, l5]
  have on5 : A5.all (·.oneCell') = true := by rw [← hA5]; exact all_oneCell_toArray (ints_oneCell _ _)
  have ii5 : (Tryz.prog.info? 25).map (·.size) = some A5.size := by rw [sz5]; kernel_rfl
  have HLx5 : Hid (x5.length = 6) := l5
  clear hA5 hAL5 HR hx5 l5
  go_wp2_with fail
  refine C5.mono ?_
  rintro e V5 (⟨-, rfl, hR⟩ | ⟨a, hb, g', rfl, hM⟩)
  rotate_left
  · exact ⟨rfl, Or.inr ⟨a, gb5 hb, g', rfl, hM⟩⟩
  have th5 := hR.there (i := 0) rfl 13 A5.size (by rw [sz5, List.size_toArray, cc_len HL4.out]; omega)
  have hR2 := LnS.setCells A5.toList 13 hR (i := 0) rfl
  rw [List.set_cons_zero, HAL5.out, cc_nmac t4 _ _ HL4.out HLx5.out] at hR2
  have HN : Hid (LnS w (V5.setCells gb 13 A5.toList) g post T (g5 σ) W ((gb, .cells (cc { t4 with nmac := x5 } nilV).toArray 29 (0, 0)) :: (g0, .cells cz 29 (0, 0)) :: K)) := by rw [HAL5.out]; exact hR2
  clear C5 hR hR2
  go_upto_region 7 with (refine wpList_store_mid rfl 25 (.tmp 18) (.tmp 17) (by with_reducible rfl) gb 13 A5 (by first | rfl | simp [Act.eval]) (by first | rfl | simp [Act.eval]) th5 ii5 on5 ?_)
  refine wp_letter (fun V => LnS w V g post T (g5 σ) W ((gb, Obj.cells (cc { t4 with nmac := x5 } nilV).toArray 29 (0, 0)) :: (g0, Obj.cells cz 29 (0, 0)) :: K)) (by exact HN.out) ?_
  intro V5b hR
  obtain ⟨t5, ht5⟩ : ∃ t, { t4 with nmac := x5 } = t := ⟨_, rfl⟩
  have HL5 : Hid (CLen t5) := by rw [← ht5]; exact ⟨HL4.out.mac, HL4.out.omac, HLx5.out, HL4.out.key⟩
  have HX5 : Hid (t5 = ⟨x2, x3, x4, x5, [0, 0, 0, 0, 0, 0, 0, 0], 0, []⟩) := by rw [← ht5, HX4.out]; exact rfl
  rw [ht5] at hR
  have HR : Hid (LnS w V5b g post T (g5 σ) W ((gb, .cells (cc t5 nilV).toArray 29 (0, 0)) :: (g0, .cells cz 29 (0, 0)) :: K)) := hR
  clear hR HN ht5 HL4 HX4 th5 HA5 sz5 on5 ii5 HAL5 HLx5
  have l6 : (k8 (val key (g5 σ))).length = 8 := k8_len _
  obtain ⟨x6, hx6⟩ : ∃ x, k8 (val key (g5 σ)) = x := ⟨_, rfl⟩
  have HE6 : Hid (k8 (val key (g5 σ)) = x6) := hx6
  have C6 : Calls Tryz.prog 77 _ V5b (VP w (g6 σ) fun e V' => e = .returned (.agg (ab (k8 (val key (g5 σ))))) ∧ LnS w V' g post T (g6 σ) W ((gb, .cells (cc t5 nilV).toArray 29 (0, 0)) :: (g0, .cells cz 29 (0, 0)) :: K)) := value_key HR.out
  rw [hx6] at C6 l6
  obtain ⟨A6, hA6⟩ : ∃ A, ab x6 = A := ⟨_, rfl⟩
  rw [hA6] at C6
  have HA6 : Hid (ab x6 = A6) := hA6
  have hAL6 : A6.toList = x6.map (Value.int .u8) := by rw [← hA6]
  have HAL6 : Hid (A6.toList = x6.map (Value.int .u8)) := hAL6
  have sz6 : A6.size = 8 := by rw [← Array.length_toList, hAL6, List.length_map, l6]
  have on6 : A6.all (·.oneCell') = true := by rw [← hA6]; exact all_oneCell_toArray (ints_oneCell _ _)
  have ii6 : (Tryz.prog.info? 26).map (·.size) = some A6.size := by rw [sz6]; kernel_rfl
  have HLx6 : Hid (x6.length = 8) := l6
  clear hA6 hAL6 HR hx6 l6
  go_wp2_with fail
  refine C6.mono ?_
  rintro e V6 (⟨-, rfl, hR⟩ | ⟨a, hb, g', rfl, hM⟩)
  rotate_left
  · exact ⟨rfl, Or.inr ⟨a, gb6 hb, g', rfl, hM⟩⟩
  have th6 := hR.there (i := 0) rfl 19 A6.size (by rw [sz6, List.size_toArray, cc_len HL5.out]; omega)
  have hR2 := LnS.setCells A6.toList 19 hR (i := 0) rfl
  rw [List.set_cons_zero, HAL6.out, cc_key t5 _ _ HL5.out HLx6.out] at hR2
  have HN : Hid (LnS w (V6.setCells gb 19 A6.toList) g post T (g6 σ) W ((gb, .cells (cc { t5 with key := x6 } nilV).toArray 29 (0, 0)) :: (g0, .cells cz 29 (0, 0)) :: K)) := by rw [HAL6.out]; exact hR2
  clear C6 hR hR2
  go_upto_region 8 with (refine wpList_store_mid rfl 26 (.tmp 21) (.tmp 20) (by with_reducible rfl) gb 19 A6 (by first | rfl | simp [Act.eval]) (by first | rfl | simp [Act.eval]) th6 ii6 on6 ?_)
  refine wp_letter (fun V => LnS w V g post T (g6 σ) W ((gb, Obj.cells (cc { t5 with key := x6 } nilV).toArray 29 (0, 0)) :: (g0, Obj.cells cz 29 (0, 0)) :: K)) (by exact HN.out) ?_
  intro V6b hR
  obtain ⟨t6, ht6⟩ : ∃ t, { t5 with key := x6 } = t := ⟨_, rfl⟩
  have HL6 : Hid (CLen t6) := by rw [← ht6]; exact ⟨HL5.out.mac, HL5.out.omac, HL5.out.nmac, HLx6.out⟩
  have HX6 : Hid (t6 = ⟨x2, x3, x4, x5, x6, 0, []⟩) := by rw [← ht6, HX5.out]; exact rfl
  rw [ht6] at hR
  have HR : Hid (LnS w V6b g post T (g6 σ) W ((gb, .cells (cc t6 nilV).toArray 29 (0, 0)) :: (g0, .cells cz 29 (0, 0)) :: K)) := hR
  clear hR HN ht6 HL5 HX5 th6 HA6 sz6 on6 ii6 HAL6 HLx6
  have C7 : Calls Tryz.prog 72 #[.pointer (some ⟨g, 0, none⟩), .string ⟨#[100, 114, 97, 105, 110]⟩] V6b (VP w (g7 σ) fun e V' => e = .returned (.tuple #[]) ∧ LnS w V' g post T (g7 σ) W ((gb, .cells (cc t6 nilV).toArray 29 (0, 0)) :: (g0, .cells cz 29 (0, 0)) :: K)) := expect_any HR.out wDrain
  go_wp2_with fail
  refine C7.mono ?_
  rintro e V7 (⟨-, rfl, hR⟩ | ⟨a, hb, g', rfl, hM⟩)
  rotate_left
  · exact ⟨rfl, Or.inr ⟨a, gb7 hb, g', rfl, hM⟩⟩
  have HR' : Hid (LnS w V7 g post T (g7 σ) W ((gb, .cells (cc t6 nilV).toArray 29 (0, 0)) :: (g0, .cells cz 29 (0, 0)) :: K)) := hR
  clear C7 hR HR
  have HR := HR'
  clear HR'
  obtain ⟨t7, HT7⟩ : ∃ t, Hid (t6 = t) := ⟨_, rfl⟩
  rw [HT7.out] at HR
  have HL7 : Hid (CLen t7) := by rw [← HT7.out]; exact HL6.out
  have HX7 : Hid (t7 = ⟨x2, x3, x4, x5, x6, 0, []⟩) := by rw [← HT7.out]; exact HX6.out
  clear HL6 HX6 HT7
  obtain ⟨x8, hx8⟩ : ∃ x, nv (val n32 (g7 σ)) = x := ⟨_, rfl⟩
  have HE8 : Hid (nv (val n32 (g7 σ)) = x8) := hx8
  have CU := upTo_ln HR.out 4294967295
  go_wp2_with fail
  refine CU.mono ?_
  rintro e VU ⟨bu, rfl, hRU⟩
  have C8 : Calls Tryz.prog 73 _ VU (VP w (g8 σ) fun e V' => e = .returned (.int .u32 (nv (val n32 (g7 σ)))) ∧ LnS w V' g post T (g8 σ) W ((bu, .cells #[.int .u32 4294967295] 23 (0, 0)) :: ((gb, .cells (cc t7 nilV).toArray 29 (0, 0)) :: (g0, .cells cz 29 (0, 0)) :: K))) := value_num hRU (m := 4294967295) (by omega) (List.mem_cons_self ..)
  rw [hx8] at C8
  clear CU hRU HR hx8
  go_wp2_with fail
  refine C8.mono ?_
  rintro e V8 (⟨-, rfl, hRU⟩ | ⟨a, hb, g', rfl, hM⟩)
  rotate_left
  · exact ⟨rfl, Or.inr ⟨a, gb8 hb, g', rfl, hM⟩⟩
  have hR := hRU.drop1
  clear hRU
  obtain ⟨v0, cc8⟩ : ∃ v0, V8.cell? ⟨gb, 27, none⟩ = some v0 := Option.isSome_iff_exists.mp (hR.there (i := 0) rfl 27 1 (by rw [List.size_toArray, cc_len HL7.out]; omega) 0 (by omega)).1
  have fr8 : ∀ j, V8.frozen? ⟨gb, j, none⟩ = false := hR.freeK (i := 0) rfl
  have hR2 := hR.set (i := 0) rfl 27 (.int .u32 x8)
  rw [List.set_cons_zero, cc_drain t7 nilV x8 HL7.out] at hR2
  have HN : Hid (LnS w (V8.setCell ⟨gb, 27, none⟩ (.int .u32 x8)) g post T (g8 σ) W ((gb, .cells (cc { t7 with drain := x8 } nilV).toArray 29 (0, 0)) :: (g0, .cells cz 29 (0, 0)) :: K)) := hR2
  clear C8 hR hR2
  go_upto_region 10 with fail
  refine wp_letter (fun V => LnS w V g post T (g8 σ) W ((gb, Obj.cells (cc { t7 with drain := x8 } nilV).toArray 29 (0, 0)) :: (g0, Obj.cells cz 29 (0, 0)) :: K)) (by exact HN.out) ?_
  intro V8b hR
  obtain ⟨t8, ht8⟩ : ∃ t, { t7 with drain := x8 } = t := ⟨_, rfl⟩
  have HL8 : Hid (CLen t8) := by rw [← ht8]; exact ⟨HL7.out.mac, HL7.out.omac, HL7.out.nmac, HL7.out.key⟩
  have HX8 : Hid (t8 = ⟨x2, x3, x4, x5, x6, x8, []⟩) := by rw [← ht8, HX7.out]; exact rfl
  rw [ht8] at hR
  have HR : Hid (LnS w V8b g post T (g8 σ) W ((gb, .cells (cc t8 nilV).toArray 29 (0, 0)) :: (g0, .cells cz 29 (0, 0)) :: K)) := hR
  clear hR HN ht8 HL7 HX7 cc8 fr8
  have CE : Calls Tryz.prog 80 #[.pointer (some ⟨g, 0, none⟩)] V8b (VP w (gwS σ) fun e V' => e = .returned (.tuple #[]) ∧ LnS w V' g post T (gwS σ) W ((gb, .cells (cc t8 nilV).toArray 29 (0, 0)) :: (g0, .cells cz 29 (0, 0)) :: K)) := mustEnd_any HR.out
  clear HR
  go_wp2_with fail
  refine CE.mono ?_
  rintro e V9 (⟨hb, rfl, hR⟩ | ⟨a, hb, g', rfl, hM⟩)
  rotate_left
  · exact ⟨rfl, Or.inr ⟨a, hb, g', rfl, hM⟩⟩
  have HB : Hid ((gwS σ).bad = none) := hb
  obtain ⟨A, hA⟩ : ∃ A, (cc t8 nilV).toArray = A := ⟨_, rfl⟩
  have hsz : A.size = 29 := by rw [← hA, List.size_toArray]; exact cc_len HL8.out _
  have hone : A.all (·.oneCell') = true := by rw [← hA]; exact cc_one _ rfl
  have i29 : (Tryz.prog.info? 29).map (·.size) = some A.size := by rw [hsz]; kernel_rfl
  have HF : Hid (A = (cc C0 nilV).toArray) := by
    have e : C0 = t8 := by
      rw [HX8.out, ← HC0.out]
      unfold gwC
      rw [HE2.out, HE3.out, HE4.out, HE5.out, HE6.out, HE8.out]
    rw [← hA, e]; exact rfl
  rw [hA] at hR
  have k1 : V9.heap[gb]? = some (.cells A 29 (0, 0)) := hR.mem.get 0 rfl
  have k0 : V9.heap[g0]? = some (.cells cz 29 (0, 0)) := hR.mem.get 1 rfl
  have HQ : Hid (LnS w (V9.setRow g0 A) g post T (gwS σ) W K ∧ (V9.setRow g0 A).heap[g0]? = some (.cells A 29 (0, 0))) := by
    obtain ⟨q1, q2, v, q3, q4⟩ := hR
    have h5 := q4.wrote 2 rfl (wrote_setRow V9 g0 _ A _ k0)
    exact ⟨⟨q1, q2, v, q3, h5.perm (List.Perm.swap _ _ _) |>.sub |>.perm (List.Perm.swap _ _ _) |>.sub⟩, h5.get 2 rfl⟩
  clear hR hA CE hb
  go_wp2_with (first | (refine wpList_load_row rfl 29 (.tmp 3) (by with_reducible rfl) gb (by first | rfl | simp [Act.eval]) 29 A (0, 0) _ k1 Tryz.underlying29 rfl i29 ?_) | (refine wpList_store_row rfl 29 (.tmp 2) (.tmp 30) (by with_reducible rfl) g0 A (by first | rfl | simp [Act.eval]) (by first | rfl | simp [Act.eval]) 29 cz k0 i29 (by rw [hsz]; rfl) hone ?_))
  refine bodyPost_ret (v := .agg A) ?_ rfl (Or.inl ⟨HB.out, by rw [HF.out], HQ.out.1⟩)
  exact results_cell_row (p := 2) (ty := 29) rfl _ _ g0 29 _ (0, 0) _ rfl HQ.out.2 Tryz.underlying29 rfl i29
end Go.Proofs.YtneciccdiledfaaGreatDoor

namespace Go.Proofs.YtneciccdiledfaaGreatDoor
open Go.RowKit
open La
open Ad
open Go.Lib (decDigits)
open Sm (IsBytes)
set_option linter.unusedVariables false
set_option linter.unusedSimpArgs false
set_option maxRecDepth 20000

theorem dec_len64 (n : Nat) (h : n < 100000000000000000000) : (decDigits n).length ≤ 20 := by
  have : ∀ k n, n < 10 ^ (k + 1) → (decDigits n).length ≤ k + 1 := by
    intro k
    induction k with
    | zero => intro n h; rw [dec_small (by omega)]; simp
    | succ k ih =>
      intro n h
      by_cases h10 : n < 10
      · rw [dec_small h10]; simp
      · rw [dec_big h10, List.length_append]
        have := ih (n / 10) (by rw [Nat.pow_succ] at h; omega)
        simp only [List.length_cons, List.length_nil]; omega
  exact this 19 n (by omega)
set_option maxHeartbeats 400000 in
theorem rdec64 : ∀ (n : Nat), n ≤ 18446744073709551615 → ∀ w, Calls Tryz.prog 39 #[.int .u64 (n : Int)] w fun e w' => e = .returned (.string ⟨(decDigits n).toArray⟩) ∧ w = w' := by
  intro n
  induction n using Nat.strongRecOn with
  | ind n ih =>
    intro hn w
    by_cases h10 : n < 10
    · exact rdec_any n (by omega) w
    · have hz : ¬ (n : Int) < 10 := by omega
      have c1 := ih (n / 10) (by omega) (by omega)
      have c2 := ih (n % 10) (by omega) (by omega)
      have l1 := dec_len64 (n / 10) (by omega)
      have l2 := dec_len64 (n % 10) (by omega)
      have hfin : (⟨(decDigits (n / 10)).toArray⟩ : ByteArray) ++ ⟨(decDigits (n % 10)).toArray⟩ = ⟨(decDigits n).toArray⟩ := by
        rw [ByteArray.mk_append_mk, dec_big h10, dec_small (n := n % 10) (by omega)]
      have s1 : (⟨(decDigits (n / 10)).toArray⟩ : ByteArray).size ≤ 20 := by rw [str_size]; exact l1
      have s2 : (⟨(decDigits (n % 10)).toArray⟩ : ByteArray).size ≤ 20 := by rw [str_size]; exact l2
      generalize (⟨(decDigits (n / 10)).toArray⟩ : ByteArray) = A at c1 hfin s1
      generalize (⟨(decDigits (n % 10)).toArray⟩ : ByteArray) = B at c2 hfin s2
      rw [← hfin]
      obtain ⟨Q, hQ⟩ : ∃ Q, n / 10 = Q := ⟨_, rfl⟩
      obtain ⟨M, hM⟩ : ∃ M, n % 10 = M := ⟨_, rfl⟩
      rw [hQ] at c1
      rw [hM] at c2
      rw [show ((Q : Nat) : Int) = (n : Int) / 10 by omega] at c1
      rw [show ((M : Nat) : Int) = (n : Int) % 10 by omega] at c2
      have hadd : ∀ W, (Op.stringOp .add A B).run Tryz.prog W = .ok (.string (A ++ B)) W := fun W => run_string_add_sum W A B (by omega)
      clear ih hfin h10 l1 l2 hQ hM
      go_enter Tryz.func39, Tryz.ntmps39
      go_wp2_with fail
      refine (c1 _).mono ?_
      rintro e w' ⟨rfl, rfl⟩
      go_wp2_with fail
      refine (c2 _).mono ?_
      rintro e w' ⟨rfl, rfl⟩
      go_wp2_with fail
      go_ret
      exact ⟨rfl, rfl⟩
theorem rdecI (n : Int) (h0 : 0 ≤ n) (h1 : n ≤ 18446744073709551615) (w : World) : Calls Tryz.prog 39 #[.int .u64 n] w fun e w' => e = .returned (.string ⟨(La.dec n).toArray⟩) ∧ w = w' := by
  have := rdec64 n.toNat (by omega) w
  rw [toNat_eq h0] at this
  exact this
theorem rdecS (n : Int) (h0 : 0 ≤ n) (h1 : n ≤ 9223372036854775807) (w : World) : Calls Tryz.prog 40 #[.int .i64 n] w fun e w' => e = .returned (.string ⟨(La.dec n).toArray⟩) ∧ w = w' := by
  have c := rdecI n h0 (by omega)
  have hz : ¬ n < 0 := by omega
  have e1 : IntKind.u64.wrap n = n := wrap64u (by omega) (by omega)
  generalize (⟨(La.dec n).toArray⟩ : ByteArray) = S at c ⊢
  go_enter Tryz.func40, Tryz.ntmps40
  go_wp2_with fail
  refine (c _).mono ?_
  rintro e w' ⟨rfl, rfl⟩
  go_wp2_with fail
  go_ret
  exact ⟨rfl, rfl⟩
theorem rip32 (n : Int) (h : 0 ≤ n ∧ n ≤ 4294967295) (w : World) : Calls Tryz.prog 36 #[.int .u32 n] w fun e w' => e = .returned (.string ⟨(ipx n).toArray⟩) ∧ w = w' := by
  have := rip_text n.toNat (by omega) w
  rw [toNat_eq h.1] at this
  exact this
theorem add_step (A B : ByteArray) (n m : Nat) (hA : A.size ≤ n) (hB : B.size ≤ m) (h : n + m ≤ 9000000000) :
    ∃ S : ByteArray, S.data.toList = A.data.toList ++ B.data.toList ∧ S.size ≤ n + m ∧ ∀ W, (Op.stringOp .add A B).run Tryz.prog W = .ok (.string S) W := by
  refine ⟨A ++ B, ?_, ?_, fun W => run_string_add_sum W A B (by omega)⟩
  · exact ByteArray.toList_data_append
  · rw [ByteArray.size_append]; omega
end Go.Proofs.YtneciccdiledfaaGreatDoor

