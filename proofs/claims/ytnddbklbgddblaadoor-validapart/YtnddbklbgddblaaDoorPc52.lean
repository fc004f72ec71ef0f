/-
  Which settings may be: tenants of settings that may be stand apart (ValidApart).
-/
import Derived.Test.YtnddbklbgddblaaDoorPc51
import Derived.Test.YtnddbklbgddblaaDoorPc45
namespace Go.Proofs.YtnddbklbgddblaaDoor
open Go.RowKit
open Va
set_option linter.unusedVariables false
set_option linter.unusedSimpArgs false
set_option maxRecDepth 20000

namespace Va
theorem pfrom_all {c : Cgf} : ∀ n i, pfrom c i n = 0 → ∀ j, i ≤ j → j < i + n → pchk c j = 0
  | 0, i, _, j, h1, h2 => absurd h2 (by omega)
  | n + 1, i, h, j, h1, h2 => by
    rw [pfrom_succ] at h
    by_cases h0 : pchk c i = 0
    · rw [if_pos h0] at h
      by_cases hij : j = i
      · rw [hij]; exact h0
      · exact pfrom_all n (i + 1) h j (by omega) (by omega)
    · rw [if_neg h0] at h; exact absurd h h0
theorem chk_all {c : Cgf} (h : chk c = 0) : ∀ j, j < c.ten.length → pchk c j = 0 := by
  unfold chk at h
  by_cases h0 : fnz (grs c) = 0
  · rw [if_pos h0] at h
    exact fun j hj => pfrom_all _ 0 h j (Nat.zero_le _) (by omega)
  · rw [if_neg h0] at h; exact absurd h h0
theorem chk_apart {c : Cgf} (h : chk c = 0) {i k : Nat} (hi : i < c.ten.length) (hk : k < i) :
    ((c.ten.getD i ten0).vni == (c.ten.getD k ten0).vni) = false ∧ ((c.ten.getD i ten0).name.toList == (c.ten.getD k ten0).name.toList) = false ∧ ∀ x ∈ (c.ten.getD i ten0).pool ++ snd' (c.ten.getD i ten0).stat, owns (c.ten.getD k ten0) x = false := by
  have hall := chk_all h
  have hstep : ∀ j, 0 < j → j < c.ten.length → lss (c.ten.getD (j - 1) ten0).name (c.ten.getD j ten0).name = true := by
    intro j h0 hj
    have hp := hall j hj
    rw [pchk_eq hj, fnz_zero] at hp
    have := (ul_zero (by decide)).mp (hp (ul 90 (decide (j = 0) || lss (c.ten.getD (j - 1) ten0).name (c.ten.getD j ten0).name)) (by simp))
    rwa [decide_eq_false (by omega), Bool.false_or] at this
  have hchain : ∀ d k, k + d + 1 < c.ten.length → lss (c.ten.getD k ten0).name (c.ten.getD (k + d + 1) ten0).name = true := by
    intro d
    induction d with
    | zero => intro k hk; exact hstep (k + 1) (by omega) hk
    | succ d ih =>
      intro k hk
      exact less_trans (ih k (by omega)) (hstep (k + (d + 1) + 1) (by omega) hk)
  have hp := hall i hi
  rw [pchk_eq hi, fnz_zero] at hp
  have hv := (wn_zero (by decide)).mp (hp (wn 91 ((c.ten.take i).any (fun o => o.vni == (c.ten.getD i ten0).vni))) (by simp))
  have ho := (wn_zero (by decide)).mp (hp (wn 92 (ow1 (c.ten.getD i ten0) (fun x => x == c.ip || (c.ten.take i).any (fun o => owns o x)))) (by simp))
  have hkm : (c.ten.getD k ten0) ∈ c.ten.take i := by
    have hk' : k < c.ten.length := by omega
    have e : (c.ten.take i)[k]'(by simp; omega) = (c.ten.getD k ten0) := by simp [List.getD, List.getElem?_eq_getElem hk']
    rw [← e]; exact List.getElem_mem _
  refine ⟨?_, ?_, fun x hx => ?_⟩
  · rw [Bool.eq_false_iff]
    intro e
    rw [List.any_eq_true.mpr ⟨_, hkm, by rw [Bool.beq_comm]; exact e⟩] at hv
    cases hv
  · rw [Bool.eq_false_iff]
    intro e
    rw [beq_iff_eq] at e
    have := hchain (i - k - 1) k (by omega)
    rw [show k + (i - k - 1) + 1 = i by omega] at this
    unfold lss at this
    rw [e, less_irr] at this
    cases this
  · rw [Bool.eq_false_iff]
    intro e
    rw [ow1_iff.mpr ⟨x, hx, by rw [List.any_eq_true.mpr ⟨_, hkm, e⟩, Bool.or_true]⟩] at ho
    cases ho
end Va
set_option maxHeartbeats 16000000 in
theorem apart14_law {w : World} {v : Value} {c : Cgf} (hV : Vs w) (h : CV w v c) :
    Calls Tryd.prog 5 #[v] w fun e w' => e = .returned (.bool true) ∧ Below w.heap.size w w' := by
  obtain ⟨cl, ta, tp, rfl, hx⟩ := h.tb
  obtain ⟨g, hg⟩ : ∃ g, w.heap.size = g := ⟨_, rfl⟩
  have HM0 : Hid (Mem w (w.alloc (.cells cl.toArray 28)) [(g, .cells cl.toArray 28 (0, 0))]) := (Mem.nil w).push1 hg.symm
  obtain ⟨a', c', e, hle, hcb, hp⟩ := hx.ts.parts
  simp only [Value.slice.injEq] at e
  obtain ⟨rfl, -, rfl⟩ := e
  obtain ⟨A, hA⟩ : ∃ A, cl.toArray = A := ⟨_, rfl⟩
  have i29 : (Tryd.prog.info? 28).map (·.size) = some A.size := by rw [← hA]; exact i29_of hx.len
  have j29 : (Tryd.prog.info? 28).map (·.size) = some cl.length := by rw [hx.len]; kernel_rfl
  have HT : Hid (∀ X, Mem w X [(g, .cells A 28 (0, 0))] → X.heap[g]? = some (.cells A 28 (0, 0)) ∧ CV X (.agg cl.toArray) c ∧ X.rangeAt g 0 cl ∧ X.cell? ⟨g, 28, none⟩ = some (.slice ta c.ten.length tp) ∧ TSV X (.slice ta c.ten.length tp) c.ten ∧ Vs X) := by
    intro X hX
    have hk := hX.get 0 rfl
    have hk2 : X.heap[g]? = some (.cells cl.toArray 28 (0, 0)) := by rw [hA]; exact hk
    refine ⟨hk, (hx.later hX.below).cv, fun j u hj => ?_, cell_tl hk2 hx.ten, (hx.later hX.below).ts, hV.below hX.below⟩
    rw [Nat.zero_add]
    exact cell_tl hk2 hj
  have HP : Hid (∀ k, k < c.ten.length → ∃ b off x, ta = some ⟨b, off, none⟩ ∧ x.length = 33 ∧ ∀ X, Below w.heap.size w X → X.rangeAt b (off + k * 33) x ∧ TV X (.agg x.toArray) (c.ten.getD k ten0) ∧ X.cell? ⟨b, off + k * 33, none⟩ = some (.string (c.ten.getD k ten0).name) ∧ X.cell? ⟨b, off + k * 33 + 1, none⟩ = some (.int .u32 (c.ten.getD k ten0).vni)) := by
    intro k hk
    obtain ⟨b, off, x, h1, h2, h3, h4⟩ := hp k hk
    refine ⟨b, off, x, h1, h2, fun X hX => ?_⟩
    obtain ⟨r1, r2⟩ := h4 X hX
    obtain ⟨ol, _, _, _, _, _, _, ex, ho⟩ := r2.tb
    have ex2 : x = ol := by simpa using ex
    refine ⟨r1, r2, ?_, r1 1 _ (by rw [ex2]; exact ho.vni)⟩
    have := r1 0 _ (by rw [ex2]; exact ho.name)
    rwa [Nat.add_zero] at this
  have HLS : Hid (Lgts c.ten 20 → c.ten.length ≤ 20 ∧ ∀ t ∈ c.ten, TSm t) := by
    intro hL
    refine ⟨hL.1, fun t ht => ?_⟩
    obtain ⟨i, hi, e⟩ := List.mem_iff_getElem.mp ht
    have := hL.2 i hi
    rw [show c.ten.getD i ten0 = t by rw [← e]; simp [List.getD, List.getElem?_eq_getElem hi]] at this
    exact lgt_sm this
  have HAA : Hid (cl.toArray = A) := hA
  rw [hA] at HM0 ⊢
  clear hV h hx hA hp
  go_enter Tryd.func5, Tryd.ntmps5
  go_upto_region 1 with fail
  refine wp_letter (fun X => Mem w X [(g, .cells A 28 (0, 0))]) (by exact HM0.out) ?_
  intro V hM
  try simp only [hg]
  clear HM0 hg
  have C := known14_any (HT.out V hM).2.2.2.2.2
  have HM : Hid (Mem w V [(g, .cells A 28 (0, 0))]) := hM
  clear hM
  go_wp2_with fail
  refine C.mono ?_
  rintro _ V1 ⟨rfl, hb⟩
  have HM1 : Hid (Mem w V1 [(g, .cells A 28 (0, 0))]) := HM.out.after hb
  clear hb C HM
  obtain ⟨-, -, -, c28, hts, -⟩ := HT.out V1 HM1.out
  have C := lights_any hts 20 (by omega)
  clear hts
  by_cases hL : Lgts c.ten 20
  rotate_left
  · rw [decide_eq_false hL] at C
    clear HT HP HLS HAA hL
    generalize c.ten.length = N at *
    go_wp2_with fail
    refine C.mono ?_
    rintro _ V2 ⟨rfl, hb⟩
    have HB : Hid (Below w.heap.size w V2) := HM1.out.below.trans (hb.mono HM1.out.below.size)
    clear hb C HM1 c28
    go_wp2_with fail
    go_ret
    exact ⟨rfl, HB.out⟩
  rw [decide_eq_true hL] at C
  obtain ⟨hN, hsm⟩ := HLS.out hL
  have HSM : Hid (∀ t ∈ c.ten, TSm t) := hsm
  have HSI : Hid (∀ i, i < c.ten.length → TSm (c.ten.getD i ten0)) := fun i hi => hsm _ (by simp [List.getD, List.getElem?_eq_getElem hi])
  have HAP : Hid (chk c = 0 → ∀ i k, i < c.ten.length → k < i → ((c.ten.getD i ten0).vni == (c.ten.getD k ten0).vni) = false ∧ ((c.ten.getD i ten0).name.toList == (c.ten.getD k ten0).name.toList) = false ∧ ∀ x ∈ (c.ten.getD i ten0).pool ++ snd' (c.ten.getD i ten0).stat, owns (c.ten.getD k ten0) x = false) := fun h i k hi hk => chk_apart h hi hk
  have HCC : Hid (∀ X, Mem w X [(g, .cells A 28 (0, 0))] → Calls Tryd.prog 11 #[.agg cl.toArray] X fun e V => e = .returned (.int .i64 (chk c)) ∧ Below X.heap.size X V) := by
    intro X hX
    obtain ⟨-, q2, -, -, -, q6⟩ := HT.out X hX
    exact check_any q6 q2 (by omega) HSM.out
  clear hL HLS hsm HSM
  generalize c.ten.length = N at *
  go_wp2_with fail
  refine C.mono ?_
  rintro _ V2 ⟨rfl, hb⟩
  have HM2 : Hid (Mem w V2 [(g, .cells A 28 (0, 0))]) := HM1.out.after hb
  clear hb C HM1 c28
  have C := HCC.out V2 HM2.out
  rw [HAA.out] at C
  have k1 := (HT.out V2 HM2.out).1
  clear HCC HAA
  by_cases hE : chk c = 0
  rotate_left
  · obtain ⟨E, hEE⟩ : ∃ E, chk c = E := ⟨_, rfl⟩
    rw [hEE] at C hE
    have e1 : (E != 0) = true := by simp [hE]
    clear HT HP HSI HAP hEE
    go_wp2_with (first | (refine wpList_load_row rfl 28 (.tmp 1) (by with_reducible rfl) g (by first | rfl | simp [Act.eval]) 28 A (0, 0) _ k1 Tryd.underlying28 rfl i29 ?_) | (refine wpList_load_row_g (by rfl) 28 (.tmp 1) (by with_reducible rfl) g (by first | rfl | simp [Act.eval]) 28 A (0, 0) _ k1 Tryd.underlying28 i29 ?_) | fail)
    refine C.mono ?_
    rintro _ V3 ⟨rfl, hb⟩
    have HB : Hid (Below w.heap.size w V3) := HM2.out.below.trans (hb.mono HM2.out.below.size)
    clear hb C HM2 k1
    go_wp2_with fail
    go_ret
    exact ⟨rfl, HB.out⟩
  have hap := HAP.out hE
  rw [hE] at C
  have HA2 : Hid (∀ i k, i < N → k < i → ((c.ten.getD i ten0).vni == (c.ten.getD k ten0).vni) = false ∧ ((c.ten.getD i ten0).name.toList == (c.ten.getD k ten0).name.toList) = false ∧ ∀ x ∈ (c.ten.getD i ten0).pool ++ snd' (c.ten.getD i ten0).stat, owns (c.ten.getD k ten0) x = false) := hap
  clear hap HAP hE
  go_wp2_with (first | (refine wpList_load_row rfl 28 (.tmp 1) (by with_reducible rfl) g (by first | rfl | simp [Act.eval]) 28 A (0, 0) _ k1 Tryd.underlying28 rfl i29 ?_) | (refine wpList_load_row_g (by rfl) 28 (.tmp 1) (by with_reducible rfl) g (by first | rfl | simp [Act.eval]) 28 A (0, 0) _ k1 Tryd.underlying28 i29 ?_) | fail)
  refine C.mono ?_
  rintro _ V3 ⟨rfl, hb⟩
  have HM3 : Hid (Mem w V3 [(g, .cells A 28 (0, 0))]) := HM2.out.after hb
  clear hb C HM2 k1
  obtain ⟨-, -, -, c28, -, -⟩ := HT.out V3 HM3.out
  go_wp2_with fail
  go_loopw [3] (fun u3 w' => ∃ i : Nat, i ≤ N ∧ u3 = .int .i64 i ∧ Hid (Mem w w' [(g, .cells A 28 (0, 0))])) (fun u3 w' => N - (intOf u3).toNat)
  case atStart => exact ⟨0, Nat.zero_le _, rfl, HM3⟩
  case round =>
  obtain ⟨i, hi, rfl, HR⟩ := hrel
  clear c28
  obtain ⟨-, -, -, c28, -, -⟩ := HT.out wr HR.out
  by_cases hlt : i < N
  rotate_left
  · have h1 : ¬ ((i : Int) < N) := by omega
    have HB : Hid (Below w.heap.size w wr) := HR.out.below
    clear HT HP HSI HA2 HM3 HR
    go_wp2_with fail
    go_ret
    exact ⟨rfl, HB.out⟩
  have h1 : (i : Int) < N := by omega
  obtain ⟨b, off, x, rfl, hsz, hX⟩ := HP.out i hlt
  have hi33 : (Tryd.prog.info? 39).map (·.size) = some x.length := by rw [hsz]; kernel_rfl
  obtain ⟨hra, hTV, -, -⟩ := hX wr HR.out.below
  have C := rowned_any hTV (HSI.out i hlt)
  have HIX : Hid (∀ X, Below w.heap.size w X → X.cell? ⟨b, off + i * 33, none⟩ = some (.string (c.ten.getD i ten0).name) ∧ X.cell? ⟨b, off + i * 33 + 1, none⟩ = some (.int .u32 (c.ten.getD i ten0).vni)) := fun X hb => ⟨(hX X hb).2.2.1, (hX X hb).2.2.2⟩
  have HPP : Hid (∀ k, k < N → ∃ x', x'.length = 33 ∧ TSm (c.ten.getD k ten0) ∧ ∀ X, Below w.heap.size w X → X.rangeAt b (off + k * 33) x' ∧ TV X (.agg x'.toArray) (c.ten.getD k ten0) ∧ X.cell? ⟨b, off + k * 33, none⟩ = some (.string (c.ten.getD k ten0).name) ∧ X.cell? ⟨b, off + k * 33 + 1, none⟩ = some (.int .u32 (c.ten.getD k ten0).vni)) := by
    intro k hk
    obtain ⟨b', off', x', e, k1, k5⟩ := HP.out k hk
    cases e
    exact ⟨x', k1, HSI.out k hk, k5⟩
  obtain ⟨L, hL⟩ : ∃ L, (c.ten.getD i ten0).pool ++ snd' (c.ten.getD i ten0).stat = L := ⟨_, rfl⟩
  have HA3 : Hid (∀ k, k < i → ((c.ten.getD i ten0).vni == (c.ten.getD k ten0).vni) = false ∧ ((c.ten.getD i ten0).name.toList == (c.ten.getD k ten0).name.toList) = false ∧ ∀ x ∈ L, owns (c.ten.getD k ten0) x = false) := by rw [← hL]; exact fun k hk => HA2.out i k hlt hk
  have hLl : L.length ≤ 2000000 := by
    rw [← hL, List.length_append]; have := HSI.out i hlt; unfold TSm at this; simp only [snd', List.length_map]; omega
  have HMR : Hid (Mem w wr [(g, .cells A 28 (0, 0))]) := HR.out
  rw [hL] at C
  clear hX hTV hsz HP HSI HA2 HM3 HR hL
  go_wp2_with (refine wpList_load_mid rfl 39 (.tmp 28) (by with_reducible rfl) b (off + i * 33) (by simp [Act.eval]) x _ hra Tryd.underlying39 rfl hi33 ?_)
  refine C.mono ?_
  rintro _ V4 ⟨u, rfl, hrw, hb⟩
  have HM4 : Hid (Mem w V4 [(g, .cells A 28 (0, 0))]) := HMR.out.after hb
  obtain ⟨la, lc, rfl, hlc, hlb, hcell⟩ := rw_u hrw
  have HC : Hid (∀ j, j < L.length → ∃ b' off', la = some ⟨b', off', none⟩ ∧ ∀ X, Below V4.heap.size V4 X → X.cell? ⟨b', off' + j, none⟩ = some (.int .u32 (L.getD j 0))) := hcell
  have HLM : Hid (∀ j, j < L.length → L.getD j 0 ∈ L) := fun j hj => by simp [List.getD, List.getElem?_eq_getElem hj]
  clear hb C HMR hra hrw hcell c28
  generalize L.length = n at *
  have HI : Hid (Below V4.heap.size V4 V4 ∧ Mem w V4 [(g, .cells A 28 (0, 0))]) := ⟨Below.refl _ _, HM4.out⟩
  clear HM4
  go_wp2_with fail
  go_loopw [5] (fun u5 w' => ∃ k : Nat, k ≤ i ∧ u5 = .int .i64 k ∧ Hid (Below V4.heap.size V4 w' ∧ Mem w w' [(g, .cells A 28 (0, 0))])) (fun u5 w' => i - (intOf u5).toNat)
  case atStart => exact ⟨0, Nat.zero_le _, rfl, HI⟩
  case round =>
  obtain ⟨k, hk, rfl, HS⟩ := hrel
  by_cases hkl : k < i
  rotate_left
  · have h2 : ¬ ((k : Int) < i) := by omega
    have HF : Hid (Mem w wr [(g, .cells A 28 (0, 0))]) := HS.out.2
    clear HT HIX HPP HA3 HC HLM HI HS
    go_wp2_with fail
    go_roundw
    case rel => exact ⟨i + 1, by omega, by go_num, HF⟩
    case measure => simp [intOf]; omega
  have h2 : (k : Int) < i := by omega
  have h3 : (k : Int) < N := by omega
  obtain ⟨x', hsz', hsm', k5⟩ := HPP.out k (by omega)
  obtain ⟨a1, a2, a3⟩ := HA3.out k hkl
  obtain ⟨-, -, -, c28, -, -⟩ := HT.out wr HS.out.2
  obtain ⟨d0, d1⟩ := HIX.out wr HS.out.2.below
  obtain ⟨-, -, d2, d3⟩ := k5 wr HS.out.2.below
  have HOW : Hid (∀ x ∈ L, owns (c.ten.getD k ten0) x = false) := a3
  have HK5 : Hid (TSm (c.ten.getD k ten0) ∧ ∀ X, Below w.heap.size w X → X.rangeAt b (off + k * 33) x' ∧ TV X (.agg x'.toArray) (c.ten.getD k ten0)) := ⟨hsm', fun X hX => ⟨(k5 X hX).1, (k5 X hX).2.1⟩⟩
  have i33 : (Tryd.prog.info? 39).map (·.size) = some x'.length := by rw [hsz']; kernel_rfl
  have HMK : Hid (Below V4.heap.size V4 wr ∧ Mem w wr [(g, .cells A 28 (0, 0))]) := HS.out
  clear k5 a3 hsm' hsz' HA3 HIX HI HS
  obtain ⟨y1, hy1⟩ : ∃ y, (c.ten.getD i ten0).vni = y := ⟨_, rfl⟩
  obtain ⟨y2, hy2⟩ : ∃ y, (c.ten.getD k ten0).vni = y := ⟨_, rfl⟩
  obtain ⟨z1, hz1⟩ : ∃ y, (c.ten.getD i ten0).name = y := ⟨_, rfl⟩
  obtain ⟨z2, hz2⟩ : ∃ y, (c.ten.getD k ten0).name = y := ⟨_, rfl⟩
  rw [hy1] at d1 a1
  rw [hy2] at d3 a1
  rw [hz1] at d0 a2
  rw [hz2] at d2 a2
  clear hy1 hy2 hz1 hz2
  go_upto_region 12 with fail
  go_cut [63] from 31 to 79 (fun u63 X => u63 = .bool false ∧ Hid (Below V4.heap.size V4 X ∧ Mem w X [(g, .cells A 28 (0, 0))]))
  case first =>
    clear HT HPP HC HLM HOW HK5
    go_quiet (fail)
    go_wp2_with fail
    go_meet
    case rel => exact ⟨by simp [a2], Go.below_drewN HMK.out.1 _, HMK.out.2.drewN _⟩
  case rest =>
  obtain ⟨rfl, HMC⟩ := hcut
  clear HMK d0 d1 d2 d3 a1 a2 c28
  go_wp2_with fail
  go_loopw [6] (fun u6 w' => ∃ j : Nat, j ≤ n ∧ u6 = .int .i64 j ∧ Hid (Below V4.heap.size V4 w' ∧ Mem w w' [(g, .cells A 28 (0, 0))])) (fun u6 w' => n - (intOf u6).toNat)
  case atStart => exact ⟨0, Nat.zero_le _, rfl, HMC⟩
  case round =>
  obtain ⟨j, hj, rfl, HS⟩ := hrel
  by_cases hjl : j < n
  rotate_left
  · have h4 : ¬ ((j : Int) < n) := by omega
    have HF : Hid (Below V4.heap.size V4 wr ∧ Mem w wr [(g, .cells A 28 (0, 0))]) := HS.out
    clear HT HPP HC HLM HOW HK5 HMC HS
    go_wp2_with fail
    go_roundw
    case rel => exact ⟨k + 1, by omega, by go_num, HF⟩
    case measure => simp [intOf]; omega
  have h4 : (j : Int) < n := by omega
  obtain ⟨b2, off2, rfl, hd⟩ := HC.out j hjl
  obtain ⟨y, hy⟩ : ∃ y, L.getD j 0 = y := ⟨_, rfl⟩
  have hyL := HLM.out j hjl
  rw [hy] at hd hyL
  have HX : Hid (∀ X, Below wr.heap.size wr X → X.cell? ⟨g, 28, none⟩ = some (.slice (some ⟨b, off, none⟩) N tp) ∧ X.rangeAt b (off + k * 33) x' ∧ X.cell? ⟨b2, off2 + j, none⟩ = some (.int .u32 y)) := by
    intro X hX
    have hM := HS.out.2.after hX
    exact ⟨(HT.out X hM).2.2.2.1, (HK5.out.2 X hM.below).1, hd X (HS.out.1.trans (hX.mono HS.out.1.size))⟩
  have HCC : Hid (∀ X, Below wr.heap.size wr X → Calls Tryd.prog 18 #[.agg x'.toArray, .int .u32 y] X fun e w' => e = .returned (.bool false) ∧ Below wr.heap.size wr w') := by
    intro X hX
    have hM := HS.out.2.after hX
    have h := owns_any (HK5.out.2 X hM.below).2 HK5.out.1 y
    rw [HOW.out y hyL] at h
    exact h.mono (fun e w' hh => ⟨hh.1, hX.trans (hh.2.mono hX.size)⟩)
  have HMJ : Hid (Below V4.heap.size V4 wr ∧ Mem w wr [(g, .cells A 28 (0, 0))]) := HS.out
  clear hd hy hyL HT HPP HC HLM HOW HK5 HMC HS
  go_upto_region 17 with fail
  refine wp_region_held_drew (S := fun X => X.cell? ⟨g, 28, none⟩ = some (.slice (some ⟨b, off, none⟩) N tp) ∧ X.rangeAt b (off + k * 33) x' ∧ X.cell? ⟨b2, off2 + j, none⟩ = some (.int .u32 y)) (by kernel_rfl) (HX.out _ (Below.refl _ _).drew) (fun hHeld => ?_)
  refine wpAnyH_take (i := 0) (v := ?_) rfl (by kernel_rfl) (by kernel_rfl) (by kernel_rfl) (fun _ _ _ h => h) (Or.inl ⟨by rfl, ?qy0⟩) (by assumption) ?qr0
  case qy0 =>
    intro w hSw
    (try dsimp only at hSw)
    go_simp
    all_goals with_reducible rfl
  try simp only [List.getElem_toArray, List.getElem_cons_zero, List.getElem_cons_succ, Act.put, List.setIfInBounds_toArray, List.set_cons_zero, List.set_cons_succ]
  refine wpAnyH_take (i := 1) (v := ?_) rfl (by kernel_rfl) (by kernel_rfl) (by kernel_rfl) (fun _ _ _ h => h) (Or.inl ⟨by rfl, ?qy1⟩) (by assumption) ?qr1
  case qy1 =>
    intro w hSw
    (try dsimp only at hSw)
    go_simp
    all_goals with_reducible rfl
  try simp only [List.getElem_toArray, List.getElem_cons_zero, List.getElem_cons_succ, Act.put, List.setIfInBounds_toArray, List.set_cons_zero, List.set_cons_succ]
  refine wpAnyH_take (i := 2) (v := ?_) rfl (by kernel_rfl) (by kernel_rfl) (by kernel_rfl) (fun _ _ _ h => h) (Or.inl ⟨by rfl, ?qy2⟩) (by assumption) ?qr2
  case qy2 =>
    intro w hSw
    (try dsimp only at hSw)
    go_simp
    all_goals with_reducible rfl
  try simp only [List.getElem_toArray, List.getElem_cons_zero, List.getElem_cons_succ, Act.put, List.setIfInBounds_toArray, List.set_cons_zero, List.set_cons_succ]
  refine wpAnyH_take (i := 3) (v := ?_) rfl (by kernel_rfl) (by kernel_rfl) (by kernel_rfl) (fun _ _ _ h => h) (Or.inl ⟨by rfl, ?qy3⟩) (by assumption) ?qr3
  case qy3 =>
    intro w hSw
    (try dsimp only at hSw)
    go_simp
    all_goals with_reducible rfl
  try simp only [List.getElem_toArray, List.getElem_cons_zero, List.getElem_cons_succ, Act.put, List.setIfInBounds_toArray, List.set_cons_zero, List.set_cons_succ]
  refine wpAnyH_take (i := 4) (v := _) rfl (by kernel_rfl) (by kernel_rfl) (by kernel_rfl) (fun _ _ _ h => h) (yieldsIf_load_mid (by rfl) _ _ rfl _ _ rfl _ _ ?qs4 Tryd.underlying39 rfl i33) (by assumption) ?qr4
  case qs4 =>
    intro w hSw
    (try dsimp only at hSw)
    go_split_ands
    assumption
  try simp only [List.getElem_toArray, List.getElem_cons_zero, List.getElem_cons_succ, Act.put, List.setIfInBounds_toArray, List.set_cons_zero, List.set_cons_succ]
  refine wpAnyH_take (i := 5) (v := ?_) rfl (by kernel_rfl) (by kernel_rfl) (by kernel_rfl) (fun _ _ _ h => h) (Or.inl ⟨by rfl, ?qy5⟩) (by assumption) ?qr5
  case qy5 =>
    intro w hSw
    (try dsimp only at hSw)
    go_simp
    all_goals with_reducible rfl
  try simp only [List.getElem_toArray, List.getElem_cons_zero, List.getElem_cons_succ, Act.put, List.setIfInBounds_toArray, List.set_cons_zero, List.set_cons_succ]
  refine wpAnyH_take (i := 6) (v := ?_) rfl (by kernel_rfl) (by kernel_rfl) (by kernel_rfl) (fun _ _ _ h => h) (Or.inl ⟨by rfl, ?qy6⟩) (by assumption) ?qr6
  case qy6 =>
    intro w hSw
    (try dsimp only at hSw)
    go_simp
    all_goals with_reducible rfl
  try simp only [List.getElem_toArray, List.getElem_cons_zero, List.getElem_cons_succ, Act.put, List.setIfInBounds_toArray, List.set_cons_zero, List.set_cons_succ]
  refine wpAnyH_take (i := 7) (v := ?_) rfl (by kernel_rfl) (by kernel_rfl) (by kernel_rfl) (fun _ _ _ h => h) (Or.inl ⟨by rfl, ?qy7⟩) (by assumption) ?qr7
  case qy7 =>
    intro w hSw
    (try dsimp only at hSw)
    go_simp
    all_goals with_reducible rfl
  try simp only [List.getElem_toArray, List.getElem_cons_zero, List.getElem_cons_succ, Act.put, List.setIfInBounds_toArray, List.set_cons_zero, List.set_cons_succ]
  refine wpAnyH_take (i := 8) (v := ?_) rfl (by kernel_rfl) (by kernel_rfl) (by kernel_rfl) (fun _ _ _ h => h) (Or.inl ⟨by rfl, ?qy8⟩) (by assumption) ?qr8
  case qy8 =>
    intro w hSw
    (try dsimp only at hSw)
    go_simp
    all_goals with_reducible rfl
  try simp only [List.getElem_toArray, List.getElem_cons_zero, List.getElem_cons_succ, Act.put, List.setIfInBounds_toArray, List.set_cons_zero, List.set_cons_succ]
  refine wpAnyH_ready (rs := [9]) (by kernel_rfl) (by simp) ?_
  refine AllReadyH.cons rfl (fun K hK => ?_) AllReadyH.nil
  go_simp
  with_reducible refine (HCC.out _ (by first | exact Below.refl _ _ | exact (Below.refl _ _).drew)).mono ?_
  rintro _ X2 ⟨rfl, hb2⟩
  try go_wp2_with fail
  refine hK.out _ _ (HX.out X2 hb2) (fun hHeld => ?_)
  clear hK K
  try simp only [List.getElem_toArray, List.getElem_cons_zero, List.getElem_cons_succ, Act.put, List.setIfInBounds_toArray, List.set_cons_zero, List.set_cons_succ]
  refine wpAnyH_done (by kernel_rfl) ?_ _
  have HF : Hid (Below V4.heap.size V4 X2 ∧ Mem w X2 [(g, .cells A 28 (0, 0))]) := ⟨HMJ.out.1.trans (hb2.mono HMJ.out.1.size), HMJ.out.2.after hb2⟩
  clear HMJ hb2 HX HCC
  go_wp2_with fail
  go_roundw
  case rel => exact ⟨j + 1, by omega, by go_num, HF⟩
  case measure => simp [intOf]; omega
end Go.Proofs.YtnddbklbgddblaaDoor

