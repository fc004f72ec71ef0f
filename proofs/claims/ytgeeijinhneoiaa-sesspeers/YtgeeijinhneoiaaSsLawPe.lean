/-
  Sessions: SessPeers.
-/
import Derived.Test.YtgeeijinhneoiaaSsFace
namespace Go.Proofs.Ytgeeijinhneoiaa
open Go.RowKit
open Sm
open Po
open Wh
set_option linter.unusedVariables false
set_option linter.unusedSimpArgs false
set_option maxRecDepth 20000

namespace Ss
theorem peer_in {l : List Pn} {q : Pn} (h : ∀ x ∈ l, PIn x) (hq : PIn q) : ∀ x ∈ peer l q, PIn x := fun x hx => by
  have := List.mem_of_mem_drop hx
  rcases List.mem_append.1 this with hx | hx
  · exact h x (List.mem_filter.1 hx).1
  · rw [List.mem_singleton.1 hx]; exact hq
def acc (l : List Pn) (i : Nat) : List Pn := (l.take i).foldl peer []
theorem acc_next {l : List Pn} {i : Nat} (hi : i < l.length) : acc l (i + 1) = peer (acc l i) l[i] := by
  unfold acc
  rw [List.take_add_one, List.getElem?_eq_getElem hi, Option.toList_some, List.foldl_append]
  rfl
theorem acc_in {l : List Pn} (h : ∀ x ∈ l, PIn x) : ∀ i, (∀ x ∈ acc l i, PIn x) ∧ (acc l i).length ≤ 8
  | 0 => by simp [acc]
  | i + 1 => by
    by_cases hi : i < l.length
    · rw [acc_next hi]
      exact ⟨peer_in (acc_in h i).1 (h _ (List.getElem_mem hi)), peer_len _ _⟩
    · have e : acc l (i + 1) = acc l i := by
        unfold acc
        rw [List.take_of_length_le (by omega), List.take_of_length_le (by omega)]
      rw [e]
      exact acc_in h i
section
variable {PS : List Sn → Nat → List (Nat × Obj) → Prop}
set_option maxHeartbeats 8000000 in
theorem peers19_law (W : World) (hc : ∀ V, Below W.heap.size W V → SC V PS) (v : Value) (l : List Pn) (hl : PR W v l) (hli : ∀ x ∈ l, PIn x) (p q : Pn) (hp : PIn p) (hq : PIn q) (f : Int) (hf : -9223372036854775808 ≤ f ∧ f ≤ 9223372036854775807) :
    Calls Try.prog 6 #[v, .agg #[.int .u32 p.1, .int .u16 p.2], .agg #[.int .u32 q.1, .int .u16 q.2], .int .i64 f] W fun e W' => e = .returned (.bool true) ∧ Below W.heap.size W W' := by
  obtain ⟨la, lc, rfl, l1, l2, hx⟩ := pr_at hl
  obtain ⟨p1, p2⟩ := p
  obtain ⟨q1, q2⟩ := q
  simp only
  have HC0 : Hid (∀ V, Below W.heap.size W V → SC V PS) := hc
  have HC : Hid (SC W PS) := hc W (Below.refl _ _)
  have HP : Hid (PIn (p1, p2) ∧ PIn (q1, q2)) := ⟨hp, hq⟩
  have HF : Hid (-9223372036854775808 ≤ f ∧ f ≤ 9223372036854775807) := hf
  obtain ⟨n, hn⟩ : ∃ n, l.length = n := ⟨_, rfl⟩
  have HL : Hid (PR W (.slice la n lc) l ∧ (∀ x ∈ l, PIn x) ∧ l.length = n) := ⟨by rw [← hn]; exact hl, hli, hn⟩
  have HX : Hid (∀ i (hi : i < l.length), ∃ b off, la = some ⟨b, off, none⟩ ∧ ∀ V, Below W.heap.size W V → V.cell? ⟨b, off + i * 2, none⟩ = some (.int .u32 l[i].1) ∧ V.cell? ⟨b, off + i * 2 + 1, none⟩ = some (.int .u16 l[i].2)) := hx
  obtain ⟨g, hg⟩ : ∃ g, W.heap.size = g := ⟨_, rfl⟩
  have HM0 : Hid (Mem W ((W.alloc (.cells #[.int .u32 p1, .int .u16 p2] 34)).alloc (.cells #[.int .u32 q1, .int .u16 q2] 34)) [(g, .cells #[.int .u32 p1, .int .u16 p2] 34 (0, 0)), (g + 1, .cells #[.int .u32 q1, .int .u16 q2] 34 (0, 0))]) := ((Mem.nil W).push1 hg.symm).push2 (by rw [World.size_alloc, hg])
  rw [hn] at l1 ⊢
  clear hc hl hli hp hq hf hx hn
  go_enter Try.func6, Try.ntmps6
  go_upto_region 1 with fail
  refine wp_letter (fun X => Mem W X [(g, .cells #[.int .u32 p1, .int .u16 p2] 34 (0, 0)), (g + 1, .cells #[.int .u32 q1, .int .u16 q2] 34 (0, 0))]) (by exact HM0.out) ?_
  intro X hX
  try simp only [hg]
  have K1 := known19_any X (HC0.out X hX.below)
  have HM1 : Hid (Mem W X [(g, .cells #[.int .u32 p1, .int .u16 p2] 34 (0, 0)), (g + 1, .cells #[.int .u32 q1, .int .u16 q2] 34 (0, 0))]) := hX
  clear hX HM0 hg HC0
  go_wp2_with fail
  refine K1.mono ?_
  rintro e X1 ⟨rfl, hb1⟩
  have HM2 : Hid (Mem W X1 [(g, .cells #[.int .u32 p1, .int .u16 p2] 34 (0, 0)), (g + 1, .cells #[.int .u32 q1, .int .u16 q2] 34 (0, 0))]) := HM1.out.after hb1
  clear K1 hb1 HM1
  by_cases h40 : 40 < n
  · have k40 : (40 : Int) < n := by omega
    have HB : Hid (Below W.heap.size W X1) := HM2.out.below
    clear HM2 HC HL HX HF HP
    go_wp2_with fail
    go_ret
    exact ⟨rfl, HB.out⟩
  have k40 : ¬ (40 : Int) < n := by omega
  go_wp2_with fail
  go_loopw [9, 10, 11] (fun u9 u10 u11 w' => ∃ i : Nat, i ≤ n ∧ u11 = .int .i64 i ∧ Hid (Mem W w' [(g, .cells #[.int .u32 p1, .int .u16 p2] 34 (0, 0)), (g + 1, .cells #[.int .u32 q1, .int .u16 q2] 34 (0, 0))] ∧ PR w' u9 (acc l i) ∧ PR w' u10 (acc l i))) (fun u9 u10 u11 w' => n - (intOf u11).toNat)
  case atStart => exact ⟨0, Nat.zero_le _, rfl, HM2.out, pr_nil _, pr_nil _⟩
  case round =>
    obtain ⟨i, hi, rfl, HI⟩ := hrel
    clear HM2
    by_cases hlt : i < n
    · have j1 : (i : Int) < n := by omega
      have i1 : i < l.length := by rw [HL.out.2.2]; exact hlt
      obtain ⟨hM, ha, hb⟩ := HI.out
      obtain ⟨b, off, rfl, hV⟩ := HX.out i i1
      have hai := acc_in HL.out.2.1 i
      have hxi := HL.out.2.1 _ (List.getElem_mem i1)
      have C1 := HC.out.peer wr.drew hM.drew.below (ha.below (Below.refl _ _).drew (Nat.le_refl _)) hai.1 (by omega) l[i] hxi
      have HC2 : Hid (∀ V, Mem W V [(g, .cells #[.int .u32 p1, .int .u16 p2] 34 (0, 0)), (g + 1, .cells #[.int .u32 q1, .int .u16 q2] 34 (0, 0))] → PR V u10 (acc l i) → Calls Try.prog 32 #[u10, .agg #[.int .u32 l[i].1, .int .u16 l[i].2]] V fun e W' => ∃ v', e = .returned v' ∧ ∃ D, SlF 34 2 v' (peer (acc l i) l[i]).length (px (peer (acc l i) l[i])).flatten D ∧ Mem V W' D) := fun V hM' hb' => rpeer_any hb' (by omega) l[i]
      have hpb := hb
      have HS : Hid (∀ V, Below W.heap.size W V → (fun V : World => V.cell? ⟨b, off + i * 2, none⟩ = some (.int .u32 l[i].1) ∧ V.cell? ⟨b, off + i * 2 + 1, none⟩ = some (.int .u16 l[i].2)) V) := fun V hV' => hV V hV'
      have han := acc_next i1
      clear hV HX hxi hai HI hb
      rw [← han] at C1 HC2
      generalize l[i].1 = x1 at *
      generalize l[i].2 = x2 at *
      clear i1 han
      go_upto_region 9 with fail
      refine wp_region_held_drew (S := (fun V : World => V.cell? ⟨b, off + i * 2, none⟩ = some (.int .u32 x1) ∧ V.cell? ⟨b, off + i * 2 + 1, none⟩ = some (.int .u16 x2))) (by kernel_rfl) (HS.out _ hM.below.drew) (fun hHeld => ?_)
      refine wpAnyH_take (i := 0) (v := ?_) rfl (by kernel_rfl) (by kernel_rfl) (by kernel_rfl) (fun _ _ _ h => h) (Or.inl ⟨by rfl, ?z1⟩) (by assumption) ?_
      case z1 =>
       intro w hSw
       (try dsimp only at hSw)
       go_simp
       all_goals with_reducible rfl
      try simp only [List.getElem_toArray, List.getElem_cons_zero, List.getElem_cons_succ, Act.put, List.setIfInBounds_toArray, List.set_cons_zero, List.set_cons_succ]
      refine wpAnyH_take (i := 1) (v := ?_) rfl (by kernel_rfl) (by kernel_rfl) (by kernel_rfl) (fun _ _ _ h => h) (Or.inl ⟨by rfl, ?z2⟩) (by assumption) ?_
      case z2 =>
       intro w hSw
       (try dsimp only at hSw)
       go_simp
       all_goals with_reducible rfl
      try simp only [List.getElem_toArray, List.getElem_cons_zero, List.getElem_cons_succ, Act.put, List.setIfInBounds_toArray, List.set_cons_zero, List.set_cons_succ]
      refine wpAnyH_take (i := 2) (v := ?_) rfl (by kernel_rfl) (by kernel_rfl) (by kernel_rfl) (fun _ _ _ h => h) (Or.inl ⟨by rfl, ?z3⟩) (by assumption) ?_
      case z3 =>
       intro w hSw
       (try dsimp only at hSw)
       go_simp
       all_goals with_reducible rfl
      try simp only [List.getElem_toArray, List.getElem_cons_zero, List.getElem_cons_succ, Act.put, List.setIfInBounds_toArray, List.set_cons_zero, List.set_cons_succ]
      refine wpAnyH_take (i := 3) (v := ?_) rfl (by kernel_rfl) (by kernel_rfl) (by kernel_rfl) (fun _ _ _ h => h) (Or.inl ⟨by rfl, ?z4⟩) (by assumption) ?_
      case z4 =>
       intro w hSw
       (try dsimp only at hSw)
       go_simp
       all_goals with_reducible rfl
      try simp only [List.getElem_toArray, List.getElem_cons_zero, List.getElem_cons_succ, Act.put, List.setIfInBounds_toArray, List.set_cons_zero, List.set_cons_succ]
      refine wpAnyH_take (i := 4) (v := ?_) rfl (by kernel_rfl) (by kernel_rfl) (by kernel_rfl) (fun _ _ _ h => h) (Or.inl ⟨by rfl, ?z5⟩) (by assumption) ?_
      case z5 =>
       intro w hSw
       (try dsimp only at hSw)
       go_simp
       all_goals with_reducible rfl
      try simp only [List.getElem_toArray, List.getElem_cons_zero, List.getElem_cons_succ, Act.put, List.setIfInBounds_toArray, List.set_cons_zero, List.set_cons_succ]
      refine wpAnyH_take (i := 6) (v := ?_) rfl (by kernel_rfl) (by kernel_rfl) (by kernel_rfl) (fun _ _ _ h => h) (Or.inl ⟨by rfl, ?z6⟩) (by assumption) ?_
      case z6 =>
       intro w hSw
       (try dsimp only at hSw)
       go_simp
       all_goals with_reducible rfl
      try simp only [List.getElem_toArray, List.getElem_cons_zero, List.getElem_cons_succ, Act.put, List.setIfInBounds_toArray, List.set_cons_zero, List.set_cons_succ]
      refine wpAnyH_take (i := 7) (v := ?_) rfl (by kernel_rfl) (by kernel_rfl) (by kernel_rfl) (fun _ _ _ h => h) (Or.inl ⟨by rfl, ?z7⟩) (by assumption) ?_
      case z7 =>
       intro w hSw
       (try dsimp only at hSw)
       go_simp
       all_goals with_reducible rfl
      try simp only [List.getElem_toArray, List.getElem_cons_zero, List.getElem_cons_succ, Act.put, List.setIfInBounds_toArray, List.set_cons_zero, List.set_cons_succ]
      refine wpAnyH_take (i := 8) (v := ?_) rfl (by kernel_rfl) (by kernel_rfl) (by kernel_rfl) (fun _ _ _ h => h) (Or.inl ⟨by rfl, ?z8⟩) (by assumption) ?_
      case z8 =>
       intro w hSw
       (try dsimp only at hSw)
       go_simp
       all_goals with_reducible rfl
      try simp only [List.getElem_toArray, List.getElem_cons_zero, List.getElem_cons_succ, Act.put, List.setIfInBounds_toArray, List.set_cons_zero, List.set_cons_succ]
      refine wpAnyH_take (i := 9) (v := ?_) rfl (by kernel_rfl) (by kernel_rfl) (by kernel_rfl) (fun _ _ _ h => h) (Or.inl ⟨by rfl, ?z9⟩) (by assumption) ?_
      case z9 =>
       intro w hSw
       (try dsimp only at hSw)
       go_simp
       all_goals with_reducible rfl
      try simp only [List.getElem_toArray, List.getElem_cons_zero, List.getElem_cons_succ, Act.put, List.setIfInBounds_toArray, List.set_cons_zero, List.set_cons_succ]
      refine wpAnyH_take (i := 10) (v := ?_) rfl (by kernel_rfl) (by kernel_rfl) (by kernel_rfl) (fun _ _ _ h => h) (Or.inl ⟨by rfl, ?z10⟩) (by assumption) ?_
      case z10 =>
       intro w hSw
       (try dsimp only at hSw)
       go_simp
       all_goals with_reducible rfl
      try simp only [List.getElem_toArray, List.getElem_cons_zero, List.getElem_cons_succ, Act.put, List.setIfInBounds_toArray, List.set_cons_zero, List.set_cons_succ]
      refine wpAnyH_ready (rs := [5]) (by kernel_rfl) (by simp) ?_
      refine AllReadyH.cons rfl (fun K hK => ?_) AllReadyH.nil
      go_simp
      with_reducible refine (C1).mono ?_
      rintro e V1 ⟨va, rfl, D1, hs1, m1⟩
      try go_wp2_with fail
      have C2 := HC2.out _ (hM.drew.after m1.below) (hpb.below ((Below.refl _ _).drew.trans m1.below) (Nat.le_refl _))
      refine hK.out _ _ (HS.out _ (hM.drew.after m1.below).below) (fun hHeld => ?_)
      clear hK K
      try simp only [List.getElem_toArray, List.getElem_cons_zero, List.getElem_cons_succ, Act.put, List.setIfInBounds_toArray, List.set_cons_zero, List.set_cons_succ]
      refine wpAnyH_ready (rs := [11]) (by kernel_rfl) (by simp) ?_
      refine AllReadyH.cons rfl (fun K hK => ?_) AllReadyH.nil
      go_simp
      with_reducible refine (C2).mono ?_
      rintro e V2 ⟨vb, rfl, D2, hs2, m2⟩
      try go_wp2_with fail
      refine hK.out _ _ (HS.out _ ((hM.drew.after m1.below).after m2.below).below) (fun hHeld => ?_)
      clear hK K
      try simp only [List.getElem_toArray, List.getElem_cons_zero, List.getElem_cons_succ, Act.put, List.setIfInBounds_toArray, List.set_cons_zero, List.set_cons_succ]
      refine wpAnyH_take (i := 12) (v := ?_) rfl (by kernel_rfl) (by kernel_rfl) (by kernel_rfl) (fun _ _ _ h => h) (Or.inl ⟨by rfl, ?z11⟩) (by assumption) ?_
      case z11 =>
       intro w hSw
       (try dsimp only at hSw)
       go_simp
       all_goals with_reducible rfl
      try simp only [List.getElem_toArray, List.getElem_cons_zero, List.getElem_cons_succ, Act.put, List.setIfInBounds_toArray, List.set_cons_zero, List.set_cons_succ]
      refine wpAnyH_take (i := 13) (v := ?_) rfl (by kernel_rfl) (by kernel_rfl) (by kernel_rfl) (fun _ _ _ h => h) (Or.inl ⟨by rfl, ?z12⟩) (by assumption) ?_
      case z12 =>
       intro w hSw
       (try dsimp only at hSw)
       go_simp
       all_goals with_reducible rfl
      try simp only [List.getElem_toArray, List.getElem_cons_zero, List.getElem_cons_succ, Act.put, List.setIfInBounds_toArray, List.set_cons_zero, List.set_cons_succ]
      refine wpAnyH_done (by kernel_rfl) ?_ _

      have HE : Hid (Mem W V2 [(g, .cells #[.int .u32 p1, .int .u16 p2] 34 (0, 0)), (g + 1, .cells #[.int .u32 q1, .int .u16 q2] 34 (0, 0))] ∧ PR V2 va (acc l (i + 1)) ∧ PR V2 vb (acc l (i + 1))) := ⟨(hM.drew.after m1.below).after m2.below, (show PR V1 va (acc l (i + 1)) from SlF.rw px_two (by rw [px_len]; exact hs1) (show Mem _ V1 (D1 ++ []) by rw [List.append_nil]; exact m1)).below m2.below (Nat.le_refl _), SlF.rw px_two (by rw [px_len]; exact hs2) (show Mem V1 V2 (D2 ++ []) by rw [List.append_nil]; exact m2)⟩
      clear HC2 C1 C2 HS hM ha hpb m1 m2 hs1 hs2
      go_wp2_with fail
      go_roundw
      case rel => exact ⟨i + 1, by omega, by go_num, HE.out⟩
      case measure => simp [intOf]; omega
    · have j1 : ¬ (i : Int) < n := by omega
      have hai := acc_in HL.out.2.1 i
      obtain ⟨hM, ha, hb⟩ := HI.out
      obtain ⟨A, hA⟩ : ∃ A, acc l i = A := ⟨_, rfl⟩
      rw [hA] at hai ha hb
      have HA : Hid ((∀ x ∈ A, PIn x) ∧ A.length ≤ 8) := hai
      have hAl : A.length ≤ 1000 := by have := hai.2; omega
      have hLl : l.length ≤ 1000 := by rw [HL.out.2.2]; omega
      have hM0 := hM.drew
      have ha0 := ha.below (Below.refl _ _).drew (Nat.le_refl _)
      have hb0 := hb.below (Below.refl _ _).drew (Nat.le_refl _)
      have hAA : decide (A = A) = true := by simp
      have hd1 := Int.tmod_add_mul_tdiv f 3
      have hrng : -3 < f.tmod 3 ∧ f.tmod 3 < 3 := by
        have h1 := Int.tmod_lt_of_pos f (b := 3) (by omega)
        have h2 := Int.tmod_lt_of_pos (-f) (b := 3) (by omega)
        rw [Int.neg_tmod] at h2
        omega
      have htm : IntKind.i64.wrap (f.tmod 3) = f.tmod 3 := by
        rw [IntKind.wrap_i64]
        omega
      have HF3 : -9223372036854775808 ≤ f.tmod 3 ∧ f.tmod 3 ≤ 9223372036854775807 := by omega
      clear hd1
      have HCp : Hid (∀ V, Mem W V [(g, .cells #[.int .u32 p1, .int .u16 p2] 34 (0, 0)), (g + 1, .cells #[.int .u32 q1, .int .u16 q2] 34 (0, 0))] → Calls Try.prog 31 #[.slice la n lc, .agg #[.int .u32 p1, .int .u16 p2]] V fun e W' => ∃ v', e = .returned v' ∧ ∃ D, SlF 34 2 v' (peer l (p1, p2)).length (px (peer l (p1, p2))).flatten D ∧ Mem V W' D) := fun V hV => HC.out.peer V hV.below (HL.out.1.below hV.below (Nat.le_refl _)) HL.out.2.1 hLl (p1, p2) HP.out.1
      have HCr : Hid (∀ V, Mem W V [(g, .cells #[.int .u32 p1, .int .u16 p2] 34 (0, 0)), (g + 1, .cells #[.int .u32 q1, .int .u16 q2] 34 (0, 0))] → Calls Try.prog 32 #[.slice la n lc, .agg #[.int .u32 p1, .int .u16 p2]] V fun e W' => ∃ v', e = .returned v' ∧ ∃ D, SlF 34 2 v' (peer l (p1, p2)).length (px (peer l (p1, p2))).flatten D ∧ Mem V W' D) := fun V hV => rpeer_any (HL.out.1.below hV.below (Nat.le_refl _)) hLl (p1, p2)
      have HCa : Hid (∀ V, Mem W V [(g, .cells #[.int .u32 p1, .int .u16 p2] 34 (0, 0)), (g + 1, .cells #[.int .u32 q1, .int .u16 q2] 34 (0, 0))] → PR V u9 A → Calls Try.prog 34 #[.int .i64 f, u9, .agg #[.int .u32 q1, .int .u16 q2]] V fun e W' => e = .returned (.bool (alw f A (q1, q2))) ∧ Below V.heap.size V W') := fun V hV ha => HC.out.allows V hV.below ha HA.out.1 hAl f (q1, q2) HF.out HP.out.2
      have HCb : Hid (∀ V, Mem W V [(g, .cells #[.int .u32 p1, .int .u16 p2] 34 (0, 0)), (g + 1, .cells #[.int .u32 q1, .int .u16 q2] 34 (0, 0))] → PR V u9 A → Calls Try.prog 35 #[.int .i64 f, u9, .agg #[.int .u32 q1, .int .u16 q2]] V fun e W' => e = .returned (.bool (alw f A (q1, q2))) ∧ Below V.heap.size V W') := fun V hV ha => rallows_any ha f (q1, q2)
      have HCc : Hid (∀ V, Mem W V [(g, .cells #[.int .u32 p1, .int .u16 p2] 34 (0, 0)), (g + 1, .cells #[.int .u32 q1, .int .u16 q2] 34 (0, 0))] → Calls Try.prog 34 #[.int .i64 (f.tmod 3), .slice la n lc, .agg #[.int .u32 q1, .int .u16 q2]] V fun e W' => e = .returned (.bool (alw (f.tmod 3) l (q1, q2))) ∧ Below V.heap.size V W') := fun V hV => HC.out.allows V hV.below (HL.out.1.below hV.below (Nat.le_refl _)) HL.out.2.1 hLl (f.tmod 3) (q1, q2) HF3 HP.out.2
      have HCd : Hid (∀ V, Mem W V [(g, .cells #[.int .u32 p1, .int .u16 p2] 34 (0, 0)), (g + 1, .cells #[.int .u32 q1, .int .u16 q2] 34 (0, 0))] → Calls Try.prog 35 #[.int .i64 (f.tmod 3), .slice la n lc, .agg #[.int .u32 q1, .int .u16 q2]] V fun e W' => e = .returned (.bool (alw (f.tmod 3) l (q1, q2))) ∧ Below V.heap.size V W') := fun V hV => rallows_any (HL.out.1.below hV.below (Nat.le_refl _)) (f.tmod 3) (q1, q2)
      have HS : Hid (∀ V, Mem W V [(g, .cells #[.int .u32 p1, .int .u16 p2] 34 (0, 0)), (g + 1, .cells #[.int .u32 q1, .int .u16 q2] 34 (0, 0))] → (fun V : World => (V.cell? ⟨g, 0, none⟩ = some (.int .u32 p1) ∧ V.cell? ⟨g, 1, none⟩ = some (.int .u16 p2)) ∧ V.cell? ⟨g + 1, 0, none⟩ = some (.int .u32 q1) ∧ V.cell? ⟨g + 1, 1, none⟩ = some (.int .u16 q2)) V) := fun V hV => ⟨⟨hV.cell 0 rfl 0, hV.cell 0 rfl 1⟩, hV.cell 1 rfl 0, hV.cell 1 rfl 1⟩
      clear HX HI hA hai hM ha hb
      go_upto_region 10 with fail
      refine wp_region_held_drew (S := (fun V : World => (V.cell? ⟨g, 0, none⟩ = some (.int .u32 p1) ∧ V.cell? ⟨g, 1, none⟩ = some (.int .u16 p2)) ∧ V.cell? ⟨g + 1, 0, none⟩ = some (.int .u32 q1) ∧ V.cell? ⟨g + 1, 1, none⟩ = some (.int .u16 q2))) (by kernel_rfl) (HS.out _ hM0) (fun hHeld => ?_)
      refine wpAnyH_take (i := 0) (v := ?_) rfl (by kernel_rfl) (by kernel_rfl) (by kernel_rfl) (fun _ _ _ h => h) (Or.inl ⟨by rfl, ?z13⟩) (by assumption) ?_
      case z13 =>
       intro w hSw
       (try dsimp only at hSw)
       go_simp
       all_goals with_reducible rfl
      try simp only [List.getElem_toArray, List.getElem_cons_zero, List.getElem_cons_succ, Act.put, List.setIfInBounds_toArray, List.set_cons_zero, List.set_cons_succ]
      refine wpAnyH_take (i := 1) (v := ?_) rfl (by kernel_rfl) (by kernel_rfl) (by kernel_rfl) (fun _ _ _ h => h) (Or.inl ⟨by rfl, ?z14⟩) (by assumption) ?_
      case z14 =>
       intro w hSw
       (try dsimp only at hSw)
       go_simp
       all_goals with_reducible rfl
      try simp only [List.getElem_toArray, List.getElem_cons_zero, List.getElem_cons_succ, Act.put, List.setIfInBounds_toArray, List.set_cons_zero, List.set_cons_succ]
      refine wpAnyH_ready (rs := [2]) (by kernel_rfl) (by simp) ?_
      refine AllReadyH.cons rfl (fun K hK => ?_) AllReadyH.nil
      go_simp
      with_reducible refine (points_any ha0 hb0).mono ?_
      rintro e V1 ⟨rfl, w1⟩
      try go_wp2_with fail
      refine hK.out _ _ (HS.out _ (hM0.after w1)) (fun hHeld => ?_)
      clear hK K
      try simp only [List.getElem_toArray, List.getElem_cons_zero, List.getElem_cons_succ, Act.put, List.setIfInBounds_toArray, List.set_cons_zero, List.set_cons_succ]
      have hM1 := hM0.after w1
      refine wpAnyH_take (i := 3) (v := ?_) rfl (by kernel_rfl) (by kernel_rfl) (by kernel_rfl) (fun _ _ _ h => h) (Or.inl ⟨by rfl, ?z15⟩) (by assumption) ?_
      case z15 =>
       intro w hSw
       (try dsimp only at hSw)
       go_simp
       all_goals with_reducible rfl
      try simp only [List.getElem_toArray, List.getElem_cons_zero, List.getElem_cons_succ, Act.put, List.setIfInBounds_toArray, List.set_cons_zero, List.set_cons_succ]
      refine wpAnyH_take (i := 4) (v := ?_) rfl (by kernel_rfl) (by kernel_rfl) (by kernel_rfl) (fun _ _ _ h => h) (Or.inl ⟨by rfl, ?z16⟩) (by assumption) ?_
      case z16 =>
       intro w hSw
       (try dsimp only at hSw)
       go_simp
       all_goals with_reducible rfl
      try simp only [List.getElem_toArray, List.getElem_cons_zero, List.getElem_cons_succ, Act.put, List.setIfInBounds_toArray, List.set_cons_zero, List.set_cons_succ]
      refine wpAnyH_take (i := 5) (v := ?_) rfl (by kernel_rfl) (by kernel_rfl) (by kernel_rfl) (fun _ _ _ h => h) (Or.inl ⟨by rfl, ?z17⟩) (by assumption) ?_
      case z17 =>
       intro w hSw
       (try dsimp only at hSw)
       go_simp
       all_goals with_reducible rfl
      try simp only [List.getElem_toArray, List.getElem_cons_zero, List.getElem_cons_succ, Act.put, List.setIfInBounds_toArray, List.set_cons_zero, List.set_cons_succ]
      refine wpAnyH_take (i := 7) (v := ?_) rfl (by kernel_rfl) (by kernel_rfl) (by kernel_rfl) (fun _ _ _ h => h) (Or.inl ⟨by rfl, ?z18⟩) (by assumption) ?_
      case z18 =>
       intro w hSw
       (try dsimp only at hSw)
       go_simp
       all_goals with_reducible rfl
      try simp only [List.getElem_toArray, List.getElem_cons_zero, List.getElem_cons_succ, Act.put, List.setIfInBounds_toArray, List.set_cons_zero, List.set_cons_succ]
      refine wpAnyH_take (i := 8) (v := ?_) rfl (by kernel_rfl) (by kernel_rfl) (by kernel_rfl) (fun _ _ _ h => h) (Or.inl ⟨by rfl, ?z19⟩) (by assumption) ?_
      case z19 =>
       intro w hSw
       (try dsimp only at hSw)
       go_simp
       all_goals with_reducible rfl
      try simp only [List.getElem_toArray, List.getElem_cons_zero, List.getElem_cons_succ, Act.put, List.setIfInBounds_toArray, List.set_cons_zero, List.set_cons_succ]
      refine wpAnyH_ready (rs := [6]) (by kernel_rfl) (by simp) ?_
      refine AllReadyH.cons rfl (fun K hK => ?_) AllReadyH.nil
      go_simp
      with_reducible refine (HCp.out V1 hM1).mono ?_
      rintro e V2 ⟨v2, rfl, D2, s2, m2⟩
      try go_wp2_with fail
      refine hK.out _ _ (HS.out _ (hM1.after m2.below)) (fun hHeld => ?_)
      clear hK K
      try simp only [List.getElem_toArray, List.getElem_cons_zero, List.getElem_cons_succ, Act.put, List.setIfInBounds_toArray, List.set_cons_zero, List.set_cons_succ]
      have hM2 := hM1.after m2.below
      have r2 : PR V2 v2 (peer l (p1, p2)) := SlF.rw px_two (by rw [px_len]; exact s2) (show Mem V1 V2 (D2 ++ []) by rw [List.append_nil]; exact m2)
      refine wpAnyH_ready (rs := [9]) (by kernel_rfl) (by simp) ?_
      refine AllReadyH.cons rfl (fun K hK => ?_) AllReadyH.nil
      go_simp
      with_reducible refine (HCr.out V2 hM2).mono ?_
      rintro e V3 ⟨v3, rfl, D3, s3, m3⟩
      try go_wp2_with fail
      refine hK.out _ _ (HS.out _ (hM2.after m3.below)) (fun hHeld => ?_)
      clear hK K
      try simp only [List.getElem_toArray, List.getElem_cons_zero, List.getElem_cons_succ, Act.put, List.setIfInBounds_toArray, List.set_cons_zero, List.set_cons_succ]
      have hM3 := hM2.after m3.below
      have r3 : PR V3 v3 (peer l (p1, p2)) := SlF.rw px_two (by rw [px_len]; exact s3) (show Mem V2 V3 (D3 ++ []) by rw [List.append_nil]; exact m3)
      refine wpAnyH_ready (rs := [10]) (by kernel_rfl) (by simp) ?_
      refine AllReadyH.cons rfl (fun K hK => ?_) AllReadyH.nil
      go_simp
      with_reducible refine (points_any (r2.below m3.below (Nat.le_refl _)) r3).mono ?_
      rintro e V4 ⟨rfl, w4⟩
      try go_wp2_with fail
      refine hK.out _ _ (HS.out _ (hM3.after w4)) (fun hHeld => ?_)
      clear hK K
      try simp only [List.getElem_toArray, List.getElem_cons_zero, List.getElem_cons_succ, Act.put, List.setIfInBounds_toArray, List.set_cons_zero, List.set_cons_succ]
      have hM4 := hM3.after w4
      have e4 : decide (peer l (p1, p2) = peer l (p1, p2)) = true := by simp
      try rw [e4]
      refine wpAnyH_take (i := 11) (v := ?_) rfl (by kernel_rfl) (by kernel_rfl) (by kernel_rfl) (fun _ _ _ h => h) (Or.inl ⟨by rfl, ?z20⟩) (by assumption) ?_
      case z20 =>
       intro w hSw
       (try dsimp only at hSw)
       go_simp
       all_goals with_reducible rfl
      try simp only [List.getElem_toArray, List.getElem_cons_zero, List.getElem_cons_succ, Act.put, List.setIfInBounds_toArray, List.set_cons_zero, List.set_cons_succ]
      refine wpAnyH_take (i := 12) (v := ?_) rfl (by kernel_rfl) (by kernel_rfl) (by kernel_rfl) (fun _ _ _ h => h) (Or.inl ⟨by rfl, ?z21⟩) (by assumption) ?_
      case z21 =>
       intro w hSw
       (try dsimp only at hSw)
       go_simp
       all_goals with_reducible rfl
      try simp only [List.getElem_toArray, List.getElem_cons_zero, List.getElem_cons_succ, Act.put, List.setIfInBounds_toArray, List.set_cons_zero, List.set_cons_succ]
      refine wpAnyH_take (i := 13) (v := ?_) rfl (by kernel_rfl) (by kernel_rfl) (by kernel_rfl) (fun _ _ _ h => h) (Or.inl ⟨by rfl, ?z22⟩) (by assumption) ?_
      case z22 =>
       intro w hSw
       (try dsimp only at hSw)
       go_simp
       all_goals with_reducible rfl
      try simp only [List.getElem_toArray, List.getElem_cons_zero, List.getElem_cons_succ, Act.put, List.setIfInBounds_toArray, List.set_cons_zero, List.set_cons_succ]
      refine wpAnyH_take (i := 14) (v := ?_) rfl (by kernel_rfl) (by kernel_rfl) (by kernel_rfl) (fun _ _ _ h => h) (Or.inl ⟨by rfl, ?z23⟩) (by assumption) ?_
      case z23 =>
       intro w hSw
       (try dsimp only at hSw)
       go_simp
       all_goals with_reducible rfl
      try simp only [List.getElem_toArray, List.getElem_cons_zero, List.getElem_cons_succ, Act.put, List.setIfInBounds_toArray, List.set_cons_zero, List.set_cons_succ]
      refine wpAnyH_take (i := 15) (v := ?_) rfl (by kernel_rfl) (by kernel_rfl) (by kernel_rfl) (fun _ _ _ h => h) (Or.inl ⟨by rfl, ?z24⟩) (by assumption) ?_
      case z24 =>
       intro w hSw
       (try dsimp only at hSw)
       go_simp
       all_goals with_reducible rfl
      try simp only [List.getElem_toArray, List.getElem_cons_zero, List.getElem_cons_succ, Act.put, List.setIfInBounds_toArray, List.set_cons_zero, List.set_cons_succ]
      refine wpAnyH_take (i := 17) (v := ?_) rfl (by kernel_rfl) (by kernel_rfl) (by kernel_rfl) (fun _ _ _ h => h) (Or.inl ⟨by rfl, ?z25⟩) (by assumption) ?_
      case z25 =>
       intro w hSw
       (try dsimp only at hSw)
       go_simp
       all_goals with_reducible rfl
      try simp only [List.getElem_toArray, List.getElem_cons_zero, List.getElem_cons_succ, Act.put, List.setIfInBounds_toArray, List.set_cons_zero, List.set_cons_succ]
      refine wpAnyH_take (i := 18) (v := ?_) rfl (by kernel_rfl) (by kernel_rfl) (by kernel_rfl) (fun _ _ _ h => h) (Or.inl ⟨by rfl, ?z26⟩) (by assumption) ?_
      case z26 =>
       intro w hSw
       (try dsimp only at hSw)
       go_simp
       all_goals with_reducible rfl
      try simp only [List.getElem_toArray, List.getElem_cons_zero, List.getElem_cons_succ, Act.put, List.setIfInBounds_toArray, List.set_cons_zero, List.set_cons_succ]
      refine wpAnyH_take (i := 19) (v := ?_) rfl (by kernel_rfl) (by kernel_rfl) (by kernel_rfl) (fun _ _ _ h => h) (Or.inl ⟨by rfl, ?z27⟩) (by assumption) ?_
      case z27 =>
       intro w hSw
       (try dsimp only at hSw)
       go_simp
       all_goals with_reducible rfl
      try simp only [List.getElem_toArray, List.getElem_cons_zero, List.getElem_cons_succ, Act.put, List.setIfInBounds_toArray, List.set_cons_zero, List.set_cons_succ]
      refine wpAnyH_ready (rs := [16]) (by kernel_rfl) (by simp) ?_
      refine AllReadyH.cons rfl (fun K hK => ?_) AllReadyH.nil
      have u4 := w1.trans ((m2.below.mono w1.size).trans ((m3.below.mono (Nat.le_trans w1.size m2.below.size)).trans (w4.mono (Nat.le_trans w1.size (Nat.le_trans m2.below.size m3.below.size)))))
      have ha4 := ha0.below u4 (Nat.le_refl _)
      go_simp
      with_reducible refine (HCa.out V4 hM4 ha4).mono ?_
      rintro e V5 ⟨rfl, w5⟩
      try go_wp2_with fail
      refine hK.out _ _ (HS.out _ (hM4.after w5)) (fun hHeld => ?_)
      clear hK K
      try simp only [List.getElem_toArray, List.getElem_cons_zero, List.getElem_cons_succ, Act.put, List.setIfInBounds_toArray, List.set_cons_zero, List.set_cons_succ]
      have hM5 := hM4.after w5
      have ha5 := ha4.below w5 (Nat.le_refl _)
      refine wpAnyH_ready (rs := [20]) (by kernel_rfl) (by simp) ?_
      refine AllReadyH.cons rfl (fun K hK => ?_) AllReadyH.nil
      go_simp
      with_reducible refine (HCb.out V5 hM5 ha5).mono ?_
      rintro e V6 ⟨rfl, w6⟩
      try go_wp2_with fail
      refine hK.out _ _ (HS.out _ (hM5.after w6)) (fun hHeld => ?_)
      clear hK K
      try simp only [List.getElem_toArray, List.getElem_cons_zero, List.getElem_cons_succ, Act.put, List.setIfInBounds_toArray, List.set_cons_zero, List.set_cons_succ]
      have hM6 := hM5.after w6
      have e6 : (alw f A (q1, q2) == alw f A (q1, q2)) = true := by simp
      refine wpAnyH_take (i := 21) (v := ?_) rfl (by kernel_rfl) (by kernel_rfl) (by kernel_rfl) (fun _ _ _ h => h) (Or.inl ⟨by rfl, ?z28⟩) (by assumption) ?_
      case z28 =>
       intro w hSw
       (try dsimp only at hSw)
       go_simp
       all_goals with_reducible rfl
      try simp only [List.getElem_toArray, List.getElem_cons_zero, List.getElem_cons_succ, Act.put, List.setIfInBounds_toArray, List.set_cons_zero, List.set_cons_succ]
      refine wpAnyH_take (i := 22) (v := ?_) rfl (by kernel_rfl) (by kernel_rfl) (by kernel_rfl) (fun _ _ _ h => h) (Or.inl ⟨by rfl, ?z29⟩) (by assumption) ?_
      case z29 =>
       intro w hSw
       (try dsimp only at hSw)
       go_simp
       all_goals with_reducible rfl
      try simp only [List.getElem_toArray, List.getElem_cons_zero, List.getElem_cons_succ, Act.put, List.setIfInBounds_toArray, List.set_cons_zero, List.set_cons_succ]
      refine wpAnyH_take (i := 23) (v := ?_) rfl (by kernel_rfl) (by kernel_rfl) (by kernel_rfl) (fun _ _ _ h => h) (Or.inl ⟨by rfl, ?z30⟩) (by assumption) ?_
      case z30 =>
       intro w hSw
       (try dsimp only at hSw)
       go_simp
       all_goals with_reducible rfl
      try simp only [List.getElem_toArray, List.getElem_cons_zero, List.getElem_cons_succ, Act.put, List.setIfInBounds_toArray, List.set_cons_zero, List.set_cons_succ]
      refine wpAnyH_take (i := 24) (v := ?_) rfl (by kernel_rfl) (by kernel_rfl) (by kernel_rfl) (fun _ _ _ h => h) (Or.inl ⟨by rfl, ?z31⟩) (by assumption) ?_
      case z31 =>
       intro w hSw
       (try dsimp only at hSw)
       go_simp
       all_goals with_reducible rfl
      try simp only [List.getElem_toArray, List.getElem_cons_zero, List.getElem_cons_succ, Act.put, List.setIfInBounds_toArray, List.set_cons_zero, List.set_cons_succ]
      refine wpAnyH_take (i := 25) (v := ?_) rfl (by kernel_rfl) (by kernel_rfl) (by kernel_rfl) (fun _ _ _ h => h) (Or.inl ⟨by rfl, ?z32⟩) (by assumption) ?_
      case z32 =>
       intro w hSw
       (try dsimp only at hSw)
       go_simp
       all_goals with_reducible rfl
      try simp only [List.getElem_toArray, List.getElem_cons_zero, List.getElem_cons_succ, Act.put, List.setIfInBounds_toArray, List.set_cons_zero, List.set_cons_succ]
      refine wpAnyH_take (i := 26) (v := ?_) rfl (by kernel_rfl) (by kernel_rfl) (by kernel_rfl) (fun _ _ _ h => h) (Or.inl ⟨by rfl, ?z33⟩) (by assumption) ?_
      case z33 =>
       intro w hSw
       (try dsimp only at hSw)
       go_simp
       all_goals with_reducible rfl
      try simp only [List.getElem_toArray, List.getElem_cons_zero, List.getElem_cons_succ, Act.put, List.setIfInBounds_toArray, List.set_cons_zero, List.set_cons_succ]
      refine wpAnyH_take (i := 27) (v := ?_) rfl (by kernel_rfl) (by kernel_rfl) (by kernel_rfl) (fun _ _ _ h => h) (Or.inl ⟨by rfl, ?z34⟩) (by assumption) ?_
      case z34 =>
       intro w hSw
       (try dsimp only at hSw)
       go_simp
       all_goals with_reducible rfl
      try simp only [List.getElem_toArray, List.getElem_cons_zero, List.getElem_cons_succ, Act.put, List.setIfInBounds_toArray, List.set_cons_zero, List.set_cons_succ]
      refine wpAnyH_take (i := 29) (v := ?_) rfl (by kernel_rfl) (by kernel_rfl) (by kernel_rfl) (fun _ _ _ h => h) (Or.inl ⟨by rfl, ?z35⟩) (by assumption) ?_
      case z35 =>
       intro w hSw
       (try dsimp only at hSw)
       go_simp
       all_goals with_reducible rfl
      try simp only [List.getElem_toArray, List.getElem_cons_zero, List.getElem_cons_succ, Act.put, List.setIfInBounds_toArray, List.set_cons_zero, List.set_cons_succ]
      refine wpAnyH_take (i := 30) (v := ?_) rfl (by kernel_rfl) (by kernel_rfl) (by kernel_rfl) (fun _ _ _ h => h) (Or.inl ⟨by rfl, ?z36⟩) (by assumption) ?_
      case z36 =>
       intro w hSw
       (try dsimp only at hSw)
       go_simp
       all_goals with_reducible rfl
      try simp only [List.getElem_toArray, List.getElem_cons_zero, List.getElem_cons_succ, Act.put, List.setIfInBounds_toArray, List.set_cons_zero, List.set_cons_succ]
      refine wpAnyH_take (i := 31) (v := ?_) rfl (by kernel_rfl) (by kernel_rfl) (by kernel_rfl) (fun _ _ _ h => h) (Or.inl ⟨by rfl, ?z37⟩) (by assumption) ?_
      case z37 =>
       intro w hSw
       (try dsimp only at hSw)
       go_simp
       all_goals with_reducible rfl
      try simp only [List.getElem_toArray, List.getElem_cons_zero, List.getElem_cons_succ, Act.put, List.setIfInBounds_toArray, List.set_cons_zero, List.set_cons_succ]
      refine wpAnyH_take (i := 32) (v := ?_) rfl (by kernel_rfl) (by kernel_rfl) (by kernel_rfl) (fun _ _ _ h => h) (Or.inl ⟨by rfl, ?z38⟩) (by assumption) ?_
      case z38 =>
       intro w hSw
       (try dsimp only at hSw)
       go_simp
       all_goals with_reducible rfl
      try simp only [List.getElem_toArray, List.getElem_cons_zero, List.getElem_cons_succ, Act.put, List.setIfInBounds_toArray, List.set_cons_zero, List.set_cons_succ]
      refine wpAnyH_ready (rs := [28]) (by kernel_rfl) (by simp) ?_
      refine AllReadyH.cons rfl (fun K hK => ?_) AllReadyH.nil
      go_simp
      with_reducible refine (HCc.out V6 hM6).mono ?_
      rintro e V7 ⟨rfl, w7⟩
      try go_wp2_with fail
      refine hK.out _ _ (HS.out _ (hM6.after w7)) (fun hHeld => ?_)
      clear hK K
      try simp only [List.getElem_toArray, List.getElem_cons_zero, List.getElem_cons_succ, Act.put, List.setIfInBounds_toArray, List.set_cons_zero, List.set_cons_succ]
      have hM7 := hM6.after w7
      refine wpAnyH_ready (rs := [33]) (by kernel_rfl) (by simp) ?_
      refine AllReadyH.cons rfl (fun K hK => ?_) AllReadyH.nil
      go_simp
      with_reducible refine (HCd.out V7 hM7).mono ?_
      rintro e V8 ⟨rfl, w8⟩
      try go_wp2_with fail
      refine hK.out _ _ (HS.out _ (hM7.after w8)) (fun hHeld => ?_)
      clear hK K
      try simp only [List.getElem_toArray, List.getElem_cons_zero, List.getElem_cons_succ, Act.put, List.setIfInBounds_toArray, List.set_cons_zero, List.set_cons_succ]
      have HB8 : Hid (Below W.heap.size W V8) := (hM7.after w8).below
      have e8 : (alw (f.tmod 3) l (q1, q2) == alw (f.tmod 3) l (q1, q2)) = true := by simp
      refine wpAnyH_take (i := 34) (v := ?_) rfl (by kernel_rfl) (by kernel_rfl) (by kernel_rfl) (fun _ _ _ h => h) (Or.inl ⟨by rfl, ?z39⟩) (by assumption) ?_
      case z39 =>
       intro w hSw
       (try dsimp only at hSw)
       go_simp
       all_goals with_reducible rfl
      try simp only [List.getElem_toArray, List.getElem_cons_zero, List.getElem_cons_succ, Act.put, List.setIfInBounds_toArray, List.set_cons_zero, List.set_cons_succ]
      refine wpAnyH_take (i := 35) (v := ?_) rfl (by kernel_rfl) (by kernel_rfl) (by kernel_rfl) (fun _ _ _ h => h) (Or.inl ⟨by rfl, ?z40⟩) (by assumption) ?_
      case z40 =>
       intro w hSw
       (try dsimp only at hSw)
       go_simp
       all_goals with_reducible rfl
      try simp only [List.getElem_toArray, List.getElem_cons_zero, List.getElem_cons_succ, Act.put, List.setIfInBounds_toArray, List.set_cons_zero, List.set_cons_succ]
      refine wpAnyH_take (i := 36) (v := ?_) rfl (by kernel_rfl) (by kernel_rfl) (by kernel_rfl) (fun _ _ _ h => h) (Or.inl ⟨by rfl, ?z41⟩) (by assumption) ?_
      case z41 =>
       intro w hSw
       (try dsimp only at hSw)
       go_simp
       all_goals with_reducible rfl
      try simp only [List.getElem_toArray, List.getElem_cons_zero, List.getElem_cons_succ, Act.put, List.setIfInBounds_toArray, List.set_cons_zero, List.set_cons_succ]
      refine wpAnyH_done (by kernel_rfl) ?_ _

      clear w1 m2 s2 hM0 hM1 hM2 hM3 hM4 hM5 hM6 hM7 r2 r3 m3 s3 w4 u4 ha4 ha5 w5 w6 w7 w8 ha0 hb0 HS HCp HCr HCa HCb HCc HCd e4 e6 e8
      go_wp2_with fail
      go_ret
      exact ⟨rfl, HB8.out⟩
end
end Ss
end Go.Proofs.Ytgeeijinhneoiaa
