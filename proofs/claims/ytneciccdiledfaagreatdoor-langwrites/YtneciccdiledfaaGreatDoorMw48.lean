/-
  What the seven laid variables hold when a call begins, and a world in which they hold it.
  Settings as text: the walk of LangWrites: any settings have just the document's text.
-/
import Derived.Test.YtneciccdiledfaaGreatDoorMw47
import Derived.Test.YtneciccdiledfaaGreatDoorMw04
import Derived.LaidHandle
import Derived.LaidLaws
import Derived.OpenShut
import Derived.Test.YtneciccdiledfaaGreatDoorMw45
namespace Go.Proofs.YtneciccdiledfaaGreatDoor
open Go.ChangeShapes Go.WideShapes Go.RowKit
open La
set_option linter.unusedVariables false
set_option maxRecDepth 20000

abbrev laidD : List (String × DataW Unit) := [("math/bits.deBruijn32tab", Rows.laid_math_bits_deBruijn32tab), ("math/bits.deBruijn64tab", Rows.laid_math_bits_deBruijn64tab), ("internal/strconv.uint64pow10", Rows.laid_internal_strconv_uint64pow10), ("unicode/utf8.acceptRanges", Rows.laid_unicode_utf8_acceptRanges), ("lych/lang.filterWords", Rows.laid_lych_lang_filterWords), ("unicode/utf8.first", Rows.laid_unicode_utf8_first)]
abbrev laidB : List (String × DataW Unit) := [("math/bits.deBruijn32tab", Rows.laid_math_bits_deBruijn32tab), ("math/bits.deBruijn64tab", Rows.laid_math_bits_deBruijn64tab), ("internal/strconv.uint64pow10", Rows.laid_internal_strconv_uint64pow10), ("unicode/utf8.acceptRanges", Rows.laid_unicode_utf8_acceptRanges), ("errors.errorType", Rows.laid_errors_errorType), ("lych/lang.filterWords", Rows.laid_lych_lang_filterWords), ("unicode/utf8.first", Rows.laid_unicode_utf8_first)]
theorem lb_et : Tryz.prog.globalNamed "errors.errorType" = some 0 := by kernel_rfl
theorem lb_fw : Tryz.prog.globalNamed "lych/lang.filterWords" = some 1 := by kernel_rfl
theorem lb_fwType : (Tryz.prog.globals[1]?).map (·.type) = some 180 := by kernel_rfl
theorem lb_rt : (Tryz.prog.cutTypes.find? (·.1 == "internal/reflectlite.rtype")).map (·.2) = some 154 := by kernel_rfl
theorem lb_oneRow : ((List.range 252).filter fun t => Tryz.prog.rowNamed t [101, 114, 114, 111, 114]) = [31] := by kernel_rfl
theorem lb_size : Tryz.prog.types.size = 252 := by kernel_rfl
theorem lb_strs {W : World} {fuel : Nat} {cs : List Value} {p : List MemPlace} {enc : TypeId × Value → Unit} {base : Nat} {sp : Nat → Bool} {held : Bool} (h : DataW.trod enc Tryz.prog W base sp held fuel 180 cs = some (Rows.laid_lych_lang_filterWords, p)) : cs = [.string ⟨wAny.toArray⟩, .string ⟨wAddress.toArray⟩, .string ⟨wPort.toArray⟩] := by
  obtain ⟨xs, m, -, hx, hl, hn, hi⟩ := DataW.trod_array Tryz.underlying180 h
  have c1 : Tryz.prog.cellsOf 9 = 1 := by kernel_rfl
  rw [show Tryz.prog.cellsOf 180 = 3 by kernel_rfl] at hl
  rcases cs with _ | ⟨a, _ | ⟨b, _ | ⟨c, _ | ⟨d, cs⟩⟩⟩⟩ <;> simp at hl
  rcases xs with _ | ⟨x, _ | ⟨y, _ | ⟨z, _ | ⟨u, xs⟩⟩⟩⟩ <;> simp at hn
  have h0 := hi 0 (by omega)
  have h1 := hi 1 (by omega)
  have h2 := hi 2 (by omega)
  simp [c1] at h0 h1 h2
  obtain ⟨s0, e0, rfl, -⟩ := DataW.trod_string Tryz.underlying9 h0
  obtain ⟨s1, e1, rfl, -⟩ := DataW.trod_string Tryz.underlying9 h1
  obtain ⟨s2, e2, rfl, -⟩ := DataW.trod_string Tryz.underlying9 h2
  unfold Rows.laid_lych_lang_filterWords at hx
  simp at hx e0 e1 e2
  obtain ⟨⟨q0, q1, q2⟩, -⟩ := hx
  subst e0 e1 e2
  have f : ∀ (s : ByteArray) (l : List UInt8), s.data.toList = l → s = ⟨l.toArray⟩ := fun s l e => by rw [← e]
  rw [f s0 _ q0.symm, f s1 _ q1.symm, f s2 _ q2.symm]
  rfl
theorem laid_lw {W : World} (h : laidMetH Tryz.prog laidB W) (hs : W.ShapedOpen Tryz.prog) : Lw W := by
  have h' : laidMet Tryz.prog laidD W ∧ handlesMet Tryz.prog [("errors.errorType", Rows.laid_errors_errorType)] W := h
  refine ⟨⟨?_, ?_, ?_⟩, ?_, ?_⟩
  · exact cell_of_shapedOpen_int (t := 3) (zero := #[.int .i64 0]) hs (by decide +kernel) (by kernel_rfl) rfl (by kernel_rfl) (by kernel_rfl) Tryz.underlying3
  · obtain ⟨g, t, cs, fuel, p, hg, ht, hvar, hd⟩ := Lib.laidMet.reads h'.1 (n := "internal/strconv.uint64pow10") (d := Rows.laid_internal_strconv_uint64pow10) (by simp)
    obtain rfl := Option.some.inj ((show Tryz.prog.globalNamed "internal/strconv.uint64pow10" = some 4 by kernel_rfl).symm.trans hg)
    obtain rfl := Option.some.inj ((show (Tryz.prog.globals[4]?).map (·.type) = some 215 by kernel_rfl).symm.trans ht)
    rw [la_pow] at hd
    unfold Lib.TabIs
    rw [hvar, ← Lib.cells_of_tab (n := 20) (e := 94) Tryz.underlying215 Tryz.underlying94 (by kernel_rfl) (by kernel_rfl) hd]
  · have h3 := Lib.laidMet.reads h'.1 (n := "unicode/utf8.first") (d := Rows.laid_unicode_utf8_first) (by simp)
    have h4 := Lib.laidMet.reads h'.1 (n := "unicode/utf8.acceptRanges") (d := Rows.laid_unicode_utf8_acceptRanges) (by simp)
    rw [la_first] at h3
    rw [la_acc] at h4
    exact utf8Tabs_of_readsT (U8Types.of196 Tryz.lays196) la_extra h3 h4
  · obtain ⟨g, t, cs, fuel, p, hg, ht, hvar, hd⟩ := Lib.laidMet.reads h'.1 (n := "lych/lang.filterWords") (d := Rows.laid_lych_lang_filterWords) (by simp)
    obtain rfl := Option.some.inj (lb_fw.symm.trans hg)
    obtain rfl := Option.some.inj (lb_fwType.symm.trans ht)
    have hcs : cs = #[.string ⟨wAny.toArray⟩, .string ⟨wAddress.toArray⟩, .string ⟨wPort.toArray⟩] := Array.toList_inj.1 (lb_strs hd)
    subst hcs
    exact ⟨by simpa using World.var?_cell lb_fw hvar 0, by simpa using World.var?_cell lb_fw hvar 1, by simpa using World.var?_cell lb_fw hvar 2⟩
  · obtain ⟨name, u, ty, e1, e2, e3, e4, e5⟩ := h'.2 _ (List.mem_singleton.2 rfl)
    have en : name = [101, 114, 114, 111, 114] := (Option.some.inj e1).symm
    subst en
    obtain rfl := Option.some.inj (lb_rt.symm.trans e2)
    have hm : ty ∈ (List.range 252).filter fun t => Tryz.prog.rowNamed t [101, 114, 114, 111, 114] := List.mem_filter.2 ⟨List.mem_range.2 (by rw [← lb_size]; exact e3), e4⟩
    rw [lb_oneRow] at hm
    obtain rfl := List.mem_singleton.1 hm
    have hh : typeHandle Tryz.prog 31 = .pointer (some ⟨8, 31, none⟩) := by kernel_rfl
    rw [hh] at e5
    show W.cell? ⟨0, 0, none⟩ = _
    simpa using World.var?_cell lb_et e5 0
/-- A world in which the variables hold what the program's text lays. -/
noncomputable def laidWB (os : Os) : World :=
  { World.laidAll Tryz.prog os laidD with heap := (World.laidAll Tryz.prog os laidD).heap.modify 0 fun
      | .cells _ t frozen => .cells #[.iface 154 (.agg #[.pointer (some ⟨8, 31, none⟩)])] t frozen
      | o => o }
theorem laidWB_met (os : Os) (args : Array Value) : laidMetH Tryz.prog laidB ((laidWB os).forCall (fun _ _ => 0) ⟨#[], args, []⟩).memory :=
  laidMetH_of_parts (laidMet_of_run' 8 (by kernel_rfl) (by kernel_rfl)) (by kernel_rfl)
theorem laidWB_os (os : Os) : (laidWB os).os = os := World.laidAll_os Tryz.prog os laidD
end Go.Proofs.YtneciccdiledfaaGreatDoor

namespace Go.Proofs.YtneciccdiledfaaGreatDoor
open Go.RowKit
open La
open Ad
open Sm (IsBytes)
set_option linter.unusedVariables false
set_option linter.unusedSimpArgs false
set_option maxRecDepth 20000

theorem lgt_tw {t : Ten} (hl : TLen t) (hb : TBy t) (hr : TRg t) (hg : Lgt t) (h0 : 0 ≤ t.sess ∧ 0 ≤ t.queue) : TW t :=
  ⟨⟨hl, hb.key, hb.vmac, hb.host, by have := hg.1; omega, by have := hg.2.1; omega, by have := hg.2.2.1; omega, by have := hg.2.2.2; omega⟩, hr, h0, by have := hg.2.1; omega⟩
set_option maxHeartbeats 16000000 in
theorem writes13_law {w : World} (hw : Lw w) {v : Value} {c : Cgf} (hC : CV w v c) (hi : CIn c) (hr : CRg c) (hts : ∀ t ∈ c.ten, TBy t ∧ TRg t) :
    Calls Tryz.prog 4 #[v] w fun e w' => e = .returned (.bool true) ∧ Below w.heap.size w w' := by
  have HCV : Hid (∀ V, Below w.heap.size w V → CV V v c) := fun V hV => hC.at_ hV (Nat.le_refl _)
  obtain ⟨hcl, u, rfl, hT⟩ := hC
  have HTS : Hid (∀ V, Below w.heap.size w V → TSV V u c.ten) := fun V hV => hT.at_ hV (Nat.le_refl _)
  obtain ⟨g, hg⟩ : ∃ g, w.heap.size = g := ⟨_, rfl⟩
  have hM0 : Mem w (w.alloc (.cells (cc c u).toArray 29)) [(g, .cells (cc c u).toArray 29 (0, 0))] := (Mem.nil w).push1 hg.symm
  obtain ⟨K, hK⟩ : ∃ K, [(g, Obj.cells (cc c u).toArray 29 (0, 0))] = K := ⟨_, rfl⟩
  have KS0 : ∀ V, Mem w V K → V.rangeAt g 0 (cc c u) ∧ V.cell? ⟨g, 28, none⟩ = some u := by
    intro V hV
    rw [← hK] at hV
    exact ⟨fun j v hj => by rw [hV.cell 0 rfl, Nat.zero_add]; simpa using hj, (cfg_box hcl hV (List.mem_cons_self ..)).2.2.2.2.2.2⟩
  have HLN : ∀ t ∈ c.ten, TLen t := by
    obtain ⟨zs, hz, -, hq⟩ := hT
    intro t ht
    rw [← hz] at ht
    obtain ⟨z, hz2, rfl⟩ := List.mem_map.1 ht
    exact (hq z hz2).1
  obtain ⟨sa, sc, rfl, hlc, hcb, hx⟩ := hT.parts
  obtain ⟨N, hN⟩ : ∃ N, c.ten.length = N := ⟨_, rfl⟩
  have HE : Hid (∀ i, i < N → ∃ b off, sa = some ⟨b, off, none⟩ ∧ ∀ V, Below w.heap.size w V → V.cell? ⟨b, off + i * 33 + 29, none⟩ = some (.int .i64 (c.ten.getD i ten0).sess) ∧ V.cell? ⟨b, off + i * 33 + 30, none⟩ = some (.int .i64 (c.ten.getD i ten0).queue)) := by
    intro i hiN
    obtain ⟨b, off, x, e1, e2, e3, e4⟩ := hx i (by omega)
    refine ⟨b, off, e1, fun V hV => ?_⟩
    obtain ⟨hra, hl, p, s, q, e, -⟩ := e4 V hV
    have ex : x = tc (c.ten.getD i ten0) p s q := by simpa using e
    rw [ex] at hra
    exact ⟨hra 29 _ (tget hl (by rintro n vn a b c d f g x y vt a1 b1 c1 d1 f1 g1 a2 b2 c2 d2 f2 g2 po lo hi fi st tw se qu ra bu e; rw [e]; rfl)), hra 30 _ (tget hl (by rintro n vn a b c d f g x y vt a1 b1 c1 d1 f1 g1 a2 b2 c2 d2 f2 g2 po lo hi fi st tw se qu ra bu e; rw [e]; rfl))⟩
  have HFin : Hid (Lgts c.ten 20 → (∀ j, j < N → 0 ≤ (c.ten.getD j ten0).sess ∧ 0 ≤ (c.ten.getD j ten0).queue) → ∀ X, Mem w X K → (Calls Tryz.prog 15 #[.agg (cc c (.slice sa c.ten.length sc)).toArray] X fun e w' => e = .returned (.string ⟨(txt c).toArray⟩) ∧ Below X.heap.size X w') ∧ (Calls Tryz.prog 16 #[.agg (cc c (.slice sa c.ten.length sc)).toArray] X fun e w' => e = .returned (.string ⟨(txt c).toArray⟩) ∧ Below X.heap.size X w')) := by
    intro q1 hp X hX
    have hwX := hw.below hX.below
    have key : ∀ t ∈ c.ten, TW t ∧ Lgt t := fun t ht => by
      obtain ⟨i, hi, rfl⟩ := List.getElem_of_mem ht
      have h1 := q1.2 i hi
      have h2 := hp i (by omega)
      rw [List.getD_eq_getElem?_getD, List.getElem?_eq_getElem hi, Option.getD_some] at h1 h2
      exact ⟨lgt_tw (HLN _ ht) (hts _ ht).1 (hts _ ht).2 h1 h2, h1⟩
    have hlen := txt_light hi hr q1.1 key
    have h20 : c.ten.length ≤ 1000000 := by have := q1.1; omega
    exact ⟨text_any hwX.vs hwX.fw (HCV.out X hX.below) hi hr (fun t ht => (key t ht).1) h20 hlen, rtext_any (HCV.out X hX.below) hi hr (fun t ht => (key t ht).1) h20 hlen⟩
  rw [hN] at KS0 HFin hK hM0 HTS ⊢
  rw [hK] at hM0
  have HM0 : Hid (Mem w (w.alloc (.cells (cc c (.slice sa N sc)).toArray 29)) K) := hM0
  have i29 : (Tryz.prog.info? 29).map (·.size) = some (cc c (.slice sa N sc)).length := by rw [cc_len hcl]; kernel_rfl
  have HN : Hid (Lgts c.ten 20 → N ≤ 20) := fun h => by rw [← hN]; exact h.1
  clear hM0 hK hcl hT hx hlc hcb HLN hi hr hts HCV hN
  generalize cc c (.slice sa N sc) = cl at *
  generalize (⟨(txt c).toArray⟩ : ByteArray) = T at HFin
  have KS : Hid (∀ V, Mem w V K → V.rangeAt g 0 cl ∧ V.cell? ⟨g, 28, none⟩ = some (.slice sa N sc)) := KS0
  clear KS0
  have HLW : Hid (Lw w) := hw
  clear hw
  go_enter Tryz.func4, Tryz.ntmps4
  go_upto_region 1 with fail
  refine wp_letter (fun V => Mem w V K) HM0.out ?_
  intro V0 hM0
  try simp only [hg]
  clear HM0 hg
  have CK := known_any (HLW.out.below hM0.below)
  have HMA : Hid (Mem w V0 K) := hM0
  clear hM0
  go_wp2_with fail
  refine CK.mono ?_
  rintro e V1 ⟨rfl, hb1⟩
  have HM1 : Hid (Mem w V1 K) := HMA.out.after hb1
  clear HMA hb1 CK
  have c28 := (KS.out _ HM1.out).2
  have CL := lights_any (HTS.out _ HM1.out.below) 20 (by omega)
  clear HTS
  by_cases q1 : Lgts c.ten 20
  rotate_left
  · rw [decide_eq_false q1] at CL
    go_wp2_with fail
    refine CL.mono ?_
    rintro e V2 ⟨rfl, hb2⟩
    have HB : Hid (Below w.heap.size w V2) := (HM1.out.after hb2).below
    clear CL hb2
    go_wp2_with fail
    go_ret
    exact ⟨rfl, HB.out⟩
  rw [decide_eq_true q1] at CL
  go_wp2_with fail
  refine CL.mono ?_
  rintro e V2 ⟨rfl, hb2⟩
  have HM2 : Hid (Mem w V2 K) := HM1.out.after hb2
  have HN2 : Hid (N ≤ 20) := HN.out q1
  have HF2 : Hid ((∀ j, j < N → 0 ≤ (c.ten.getD j ten0).sess ∧ 0 ≤ (c.ten.getD j ten0).queue) → ∀ X, Mem w X K → (Calls Tryz.prog 15 #[.agg cl.toArray] X fun e w' => e = .returned (.string T) ∧ Below X.heap.size X w') ∧ (Calls Tryz.prog 16 #[.agg cl.toArray] X fun e w' => e = .returned (.string T) ∧ Below X.heap.size X w')) := HFin.out q1
  clear CL hb2 HM1 c28 HN HFin q1
  go_wp2_with fail
  go_loopw [3] (fun ii w' => ∃ i : Nat, i ≤ N ∧ ii = .int .i64 i ∧ Hid (Mem w w' K ∧ ∀ j, j < i → 0 ≤ (c.ten.getD j ten0).sess ∧ 0 ≤ (c.ten.getD j ten0).queue)) (fun ii _ => N - (intOf ii).toNat)
  case atStart => exact ⟨0, Nat.zero_le _, rfl, HM2.out, fun j hj => absurd hj (Nat.not_lt_zero j)⟩
  case round =>
    obtain ⟨i, hi, rfl, HX⟩ := hrel
    clear HM2
    have c28 := (KS.out _ HX.out.1).2
    by_cases hlt : i < N
    · have h1 : (i : Int) < N := by omega
      have e7 : IntKind.i64.wrap ((i : Int) + 1) = (i : Int) + 1 := by have := HN2.out; exact wrap64 (by omega) (by omega)
      obtain ⟨b, off, rfl, hce⟩ := HE.out i hlt
      obtain ⟨cs, cq⟩ := hce _ HX.out.1.below
      clear hce
      have HJ : Hid (0 ≤ (c.ten.getD i ten0).sess → 0 ≤ (c.ten.getD i ten0).queue → ∀ j, j < i + 1 → 0 ≤ (c.ten.getD j ten0).sess ∧ 0 ≤ (c.ten.getD j ten0).queue) := fun z1 z2 j hj => by
        rcases Nat.lt_or_ge j i with h | h
        · exact HX.out.2 j h
        · obtain rfl : j = i := by omega
          exact ⟨z1, z2⟩
      have HMX : Hid (Mem w _ K) := HX.out.1
      have HB : Hid (Below w.heap.size w _) := HX.out.1.below
      clear HX
      generalize (c.ten.getD i ten0).sess = se at cs HJ
      generalize (c.ten.getD i ten0).queue = qu at cq HJ
      by_cases hse : se < 0
      · go_wp2_with fail
        go_ret
        exact ⟨rfl, HB.out⟩
      · have hsd : decide (se < 0) = false := by simpa using hse
        by_cases hqu : qu < 0
        · go_wp2_with fail
          go_ret
          exact ⟨rfl, HB.out⟩
        · have hqd : decide (qu < 0) = false := by simpa using hqu
          have HJ2 : Hid (∀ j, j < i + 1 → 0 ≤ (c.ten.getD j ten0).sess ∧ 0 ≤ (c.ten.getD j ten0).queue) := HJ.out (by omega) (by omega)
          clear HJ
          go_wp2_with fail
          go_roundw
          case rel => exact ⟨i + 1, by omega, by go_num, HMX.out, HJ2.out⟩
          case measure => simp [intOf]; omega
    · obtain rfl : i = N := by omega
      have h1 : ¬ ((i : Int) < i) := by omega
      have HCT : Hid (∀ X, Mem w X K → Calls Tryz.prog 15 #[.agg cl.toArray] X fun e w' => e = .returned (.string T) ∧ Below X.heap.size X w') := fun X hX => (HF2.out HX.out.2 X hX).1
      have HCR : Hid (∀ X, Mem w X K → Calls Tryz.prog 16 #[.agg cl.toArray] X fun e w' => e = .returned (.string T) ∧ Below X.heap.size X w') := fun X hX => (HF2.out HX.out.2 X hX).2
      have HB0 : Hid (Mem w (World.drew _) K) := HX.out.1.after ((Below.refl _ _).drew)
      have KR : Hid (∀ X, Mem w X K → X.rangeAt g 0 cl) := fun X hX => (KS.out X hX).1
      clear HX HF2 HE hlt
      go_upto_region 10 with fail
      refine wp_region_held_drew (S := fun X => X.rangeAt g 0 cl) (by kernel_rfl) (KR.out _ HB0.out) (fun hHeld => ?_)
      refine wpAnyH_take (i := 0) (v := _) rfl (by kernel_rfl) (by kernel_rfl) (by kernel_rfl) (fun _ _ _ h => h) (yieldsIf_load_mid (by rfl) _ _ rfl _ _ rfl _ _ ?qs0 Tryz.underlying29 rfl i29) (by assumption) ?qr0
      case qs0 =>
        intro w hSw
        (try dsimp only at hSw)
        go_split_ands
        assumption
      try simp only [List.getElem_toArray, List.getElem_cons_zero, List.getElem_cons_succ, Act.put, List.setIfInBounds_toArray, List.set_cons_zero, List.set_cons_succ]
      refine wpAnyH_take (i := 2) (v := _) rfl (by kernel_rfl) (by kernel_rfl) (by kernel_rfl) (fun _ _ _ h => h) (yieldsIf_load_mid (by rfl) _ _ rfl _ _ rfl _ _ ?qs2 Tryz.underlying29 rfl i29) (by assumption) ?qr2
      case qs2 =>
        intro w hSw
        (try dsimp only at hSw)
        go_split_ands
        assumption
      try simp only [List.getElem_toArray, List.getElem_cons_zero, List.getElem_cons_succ, Act.put, List.setIfInBounds_toArray, List.set_cons_zero, List.set_cons_succ]
      refine wpAnyH_ready (rs := [1]) (by kernel_rfl) (by simp) ?_
      refine AllReadyH.cons rfl (fun K hK => ?_) AllReadyH.nil
      go_simp
      with_reducible refine (HCT.out _ HB0.out).mono ?_
      rintro e W1 ⟨rfl, hb1⟩
      try go_wp2_with fail
      refine hK.out _ _ (KR.out _ (HB0.out.after hb1)) (fun hHeld => ?_)
      clear hK K
      try simp only [List.getElem_toArray, List.getElem_cons_zero, List.getElem_cons_succ, Act.put, List.setIfInBounds_toArray, List.set_cons_zero, List.set_cons_succ]
      refine wpAnyH_ready (rs := [3]) (by kernel_rfl) (by simp) ?_
      refine AllReadyH.cons rfl (fun K hK => ?_) AllReadyH.nil
      go_simp
      with_reducible refine (HCR.out _ (HB0.out.after hb1)).mono ?_
      rintro e W2 ⟨rfl, hb2⟩
      try go_wp2_with fail
      refine hK.out _ _ (KR.out _ ((HB0.out.after hb1).after hb2)) (fun hHeld => ?_)
      clear hK K
      try simp only [List.getElem_toArray, List.getElem_cons_zero, List.getElem_cons_succ, Act.put, List.setIfInBounds_toArray, List.set_cons_zero, List.set_cons_succ]
      refine wpAnyH_take (i := 4) (v := ?_) rfl (by kernel_rfl) (by kernel_rfl) (by kernel_rfl) (fun _ _ _ h => h) (Or.inl ⟨by rfl, ?qy4⟩) (by assumption) ?qr4
      case qy4 =>
        intro w hSw
        (try dsimp only at hSw)
        go_simp
        all_goals with_reducible rfl
      try simp only [List.getElem_toArray, List.getElem_cons_zero, List.getElem_cons_succ, Act.put, List.setIfInBounds_toArray, List.set_cons_zero, List.set_cons_succ]
      refine wpAnyH_take (i := 5) (v := ?_) rfl (by kernel_rfl) (by kernel_rfl) (by kernel_rfl) (fun _ _ _ h => h) (Or.inl ⟨by rfl, ?qy5⟩) (by assumption) ?qr5
      case qy5 =>
        intro w hSw
        (try dsimp only at hSw)
        go_simp
        all_goals with_reducible rfl
      try simp only [List.getElem_toArray, List.getElem_cons_zero, List.getElem_cons_succ, Act.put, List.setIfInBounds_toArray, List.set_cons_zero, List.set_cons_succ]
      refine wpAnyH_done (by kernel_rfl) ?_ _
      have HB2 : Hid (Below w.heap.size w W2) := ((HB0.out.after hb1).after hb2).below
      clear hHeld hb1 hb2 HB0 HCT HCR
      go_wp2_with fail
      go_ret
      exact ⟨by simp, HB2.out⟩
end Go.Proofs.YtneciccdiledfaaGreatDoor

