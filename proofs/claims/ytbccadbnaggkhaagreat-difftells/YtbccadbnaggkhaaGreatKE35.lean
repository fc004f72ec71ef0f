/-
  What is changed: Find, the program's and the document's.
-/
import Derived.Test.YtbccadbnaggkhaaGreatKE34
namespace Go.Proofs.YtbccadbnaggkhaaGreat
open Go.RowKit
open Sm
open Cf
open Df
set_option linter.unusedVariables false
set_option linter.unusedSimpArgs false
set_option maxRecDepth 20000

namespace Df
theorem res_cell_tmp {fn : Func} {p q : Tmp} {ty : TypeId} (h : fn.results = #[.cell p ty, .tmp q]) (tmps : Array Value) (w : World) (g : Nat) (cs : Array Value)
    (hp : tmps.getD p undef = .pointer (some ⟨g, 0, none⟩)) (hl : (loadVar ty ⟨g, 0, none⟩).run Tryz.prog w = .ok (.agg cs) w) :
    (results fn tmps).run Tryz.prog w = .ok (.tuple #[.agg cs, tmps.getD q undef]) w := by
  have hp' : tmps[p]?.getD undef = .pointer (some ⟨g, 0, none⟩) := by simpa using hp
  simp [results, h, hp', asAddr, hl]
theorem load_ten {w : World} {g : Nat} {A : Array Value} (h : w.heap[g]? = some (.cells A 34 (0, 0))) (hs : A.size = 33) : (loadVar 34 ⟨g, 0, none⟩).run Tryz.prog w = .ok (.agg A) w := by
  have hi : (Tryz.prog.info? 34).map (·.size) = some A.size := by rw [hs]; kernel_rfl
  exact run_loadVar_row w g 34 34 A (0, 0) _ h Tryz.underlying34 rfl hi
/-- What Find finds. -/
def fnd (ts : List Ten) (n : List UInt8) : Ten := (look nk n ts).getD ten0
theorem look_at {α : Type} {f : α → List UInt8} {n : List UInt8} {l : List α} {i : Nat} (hi : i < l.length) (ha : ∀ j (hj : j < i), f (l[j]'(by omega)) ≠ n) (he : f l[i] = n) : look f n l = some l[i] := by
  induction l generalizing i with
  | nil => cases hi
  | cons x l ih =>
    cases i with
    | zero =>
      simp only [List.getElem_cons_zero] at he
      simp [look, List.find?_cons, he]
    | succ i =>
      have h0 := ha 0 (by omega)
      simp only [List.getElem_cons_zero] at h0
      have := ih (i := i) (by simpa using hi) (fun j hj => by have := ha (j + 1) (by omega); simpa using this) (by simpa using he)
      unfold look at this ⊢
      simp only [List.find?_cons, h0, decide_false]
      simpa using this
theorem name_eq (a b : ByteArray) : (a.toList == b.toList) = decide (a.data.toList = b.data.toList) := by
  rw [Lib.toList_data, Lib.toList_data]
  by_cases h : a.data.toList = b.data.toList
  · simp [h]
  · rw [decide_eq_false h]
    exact beq_eq_false_iff_ne.2 h
theorem name_ne {a b : ByteArray} (h : a.data.toList ≠ b.data.toList) : (a.toList == b.toList) = false := by rw [name_eq]; exact decide_eq_false h
theorem name_yes {a b : ByteArray} (h : a.data.toList = b.data.toList) : (a.toList == b.toList) = true := by rw [name_eq]; exact decide_eq_true h
set_option maxHeartbeats 8000000 in
theorem find_any {w : World} {v : Value} {zs : List Tv} (hz : ZV w v zs) (hzn : ∀ z ∈ zs, Nf z.1) (s : ByteArray) (hm : zs.length ≤ 1000) :
    Calls Tryz.prog 10 #[v, .string s] w fun e V => ∃ A, e = .returned (.tuple #[.agg A, .bool (look nk s.data.toList (zs.map Prod.fst)).isSome]) ∧ TV V (.agg A) (fnd (zs.map Prod.fst) s.data.toList) ∧ Below w.heap.size w V := by
  obtain ⟨sa, sc, rfl, hlc, hcb, hx⟩ := hz.parts
  have HX : Hid (∀ i (hi : i < zs.length), (∃ b off, sa = some ⟨b, off, none⟩ ∧ ∀ V, Below w.heap.size w V → V.rangeAt b (off + i * 33) (zc zs[i])) ∧ TLen zs[i].1 ∧ (zc zs[i]).toArray.all (·.oneCell') = true ∧ ∀ V, Below w.heap.size w V → Calls Tryz.prog 22 #[.agg (zc zs[i]).toArray] V fun e V' => ∃ z' C, e = .returned (tv z') ∧ z'.1 = zs[i].1 ∧ ZB z' C ∧ Mem V V' C) := by
    intro i hi
    have hm := List.getElem_mem hi
    exact ⟨hx i hi, (hz.each _ hm).1, zc_all (hz.each _ hm).2, fun V hV => copied_any (hz.each _ hm).1 (Rws.at_ (hz.each _ hm).2 hV) (hzn _ hm).2⟩
  have HS : Hid (∀ i (hi : i < zs.length), (∀ j (hj : j < i), fk (zs[j]'(by omega)) ≠ s.data.toList) → fk zs[i] = s.data.toList → (look nk s.data.toList (zs.map Prod.fst)).isSome = true ∧ fnd (zs.map Prod.fst) s.data.toList = zs[i].1) := by
    intro i hi h1 h2
    have := look_at (f := fk) hi h1 h2
    unfold fnd
    rw [look_fst, this]
    exact ⟨rfl, rfl⟩
  have HN : Hid ((∀ j (hj : j < zs.length), fk (zs[j]'(by omega)) ≠ s.data.toList) → (look nk s.data.toList (zs.map Prod.fst)).isSome = false ∧ fnd (zs.map Prod.fst) s.data.toList = ten0) := by
    intro h1
    have : look fk s.data.toList zs = none := look_none.2 fun x hx => by
      obtain ⟨j, hj, rfl⟩ := List.mem_iff_getElem.1 hx
      exact h1 j hj
    unfold fnd
    rw [look_fst, this]
    exact ⟨rfl, rfl⟩
  clear hx hz hzn
  generalize (look nk s.data.toList (zs.map Prod.fst)).isSome = OK at *
  generalize fnd (zs.map Prod.fst) s.data.toList = T at *
  obtain ⟨N, hN⟩ : ∃ N, zs.length = N := ⟨_, rfl⟩
  rw [hN] at hlc hm
  simp only [hN] at HX HS HN ⊢
  obtain ⟨g, hg⟩ : ∃ g, w.heap.size = g := ⟨_, rfl⟩
  have HM0 : Hid (Mem w (w.alloc (.cells tz 34)) [(g, .cells tz 34 (0, 0))]) := (Mem.nil w).push1 hg.symm
  go_enter Tryz.func10, Tryz.ntmps10
  go_upto_region 1 with fail
  refine wp_letter (fun X => Mem w X [(g, .cells tz 34 (0, 0))]) (by exact HM0.out) ?_
  intro V0 hM0
  try simp only [hg]
  have H0 : Hid (Mem w V0 [(g, .cells tz 34 (0, 0))]) := hM0
  clear HM0 hM0
  go_wp2_with fail
  go_loopw [10] (fun u10 w' => ∃ i : Nat, i ≤ N ∧ u10 = .int .i64 i ∧ Hid (Mem w w' [(g, .cells tz 34 (0, 0))] ∧ ∀ j (hj : j < i) (hj' : j < zs.length), fk (zs[j]'hj') ≠ s.data.toList)) (fun u10 w' => N - (intOf u10).toNat)
  case atStart => exact ⟨0, Nat.zero_le _, rfl, H0.out, fun j hj => absurd hj (by omega)⟩
  case round =>
    obtain ⟨i, hi, rfl, HR⟩ := hrel
    clear H0
    by_cases hlt : i < N
    · have h1 : (i : Int) < N := by omega
      obtain ⟨⟨b, off, rfl, hV⟩, hl, ho, hcp⟩ := HX.out i hlt
      have hra := hV _ HR.out.1.below
      have hSi := HS.out i hlt
      have HRN := HR.out.2
      clear hV HX HS HN
      have hj' : i < zs.length := by omega
      have HNX : Hid (fk (zs[i]'hj') ≠ s.data.toList → ∀ j (hj : j < i + 1) (hj' : j < zs.length), fk (zs[j]'hj') ≠ s.data.toList) := by
        intro hne j hj hj2
        rcases Nat.lt_or_ge j i with h | h
        · exact HRN j h hj2
        · obtain rfl : j = i := by omega
          exact hne
      have HYY : Hid (fk (zs[i]'hj') = s.data.toList → OK = true ∧ T = (zs[i]'hj').1) := fun he => hSi (fun j hj => HRN j hj _) he
      have HCP : Hid (∀ V, Below w.heap.size w V → Calls Tryz.prog 22 #[.agg (zc (zs[i]'hj')).toArray] V fun e V' => ∃ z' C, e = .returned (tv z') ∧ z'.1 = (zs[i]'hj').1 ∧ ZB z' C ∧ Mem V V' C) := hcp
      clear HRN hSi hcp
      generalize zs[i]'hj' = z at *
      have hi33 : (Tryz.prog.info? 34).map (·.size) = some (zc z).length := by rw [show (zc z).length = 33 from tc_len hl _ _ _]; kernel_rfl
      have hj33 : (Tryz.prog.info? 34).map (·.size) = some (zc z).toArray.size := by rw [zc_sz hl]; kernel_rfl
      have hs33 : tz.size = (zc z).toArray.size := by rw [zc_sz hl]; rfl
      obtain ⟨gt, hgt⟩ : ∃ g, wr.heap.size = g := ⟨_, rfl⟩
      have hk1 : (wr.alloc (.cells tz 34)).heap[gt]? = some (.cells tz 34 (0, 0)) := by rw [← hgt]; exact heap_alloc_new _ _
      have HF : Hid (Mem w ((wr.alloc (.cells tz 34)).setRow gt (zc z).toArray) [(g, .cells tz 34 (0, 0)), (gt, .cells (zc z).toArray 34 (0, 0))]) := by
        rw [← hgt, World.setRow_alloc_new]
        exact HR.out.1.push2 rfl
      clear HR
      go_upto_region 4 with (first | (refine wpList_load_mid rfl 34 (.tmp 12) (by with_reducible rfl) b (off + i * 33) (by simp [Act.eval]) (zc z) _ hra Tryz.underlying34 rfl hi33 ?_) | (refine wpList_store_row rfl 34 (.tmp 7) (.tmp 13) (by with_reducible rfl) gt (zc z).toArray (by simp [Act.eval]; try exact hgt) (by first | rfl | simp [Act.eval]) 34 tz hk1 hj33 hs33 ho ?_) | fail)
      refine wp_letter (fun X => Mem w X [(g, .cells tz 34 (0, 0)), (gt, .cells (zc z).toArray 34 (0, 0))]) (by exact HF.out) ?_
      intro V1 hM1
      try simp only [hgt]
      clear HF hk1 hra hi33 hs33 ho hgt
      have hc0 : V1.cell? ⟨gt, 0, none⟩ = some (.string z.1.name) := by rw [hM1.cell 1 rfl]; exact (tc_at hl _ _ _).1
      have hk := hM1.get 1 rfl
      have HM1 : Hid (Mem w V1 [(g, .cells tz 34 (0, 0)), (gt, .cells (zc z).toArray 34 (0, 0))]) := hM1
      clear hM1
      by_cases he : fk z = s.data.toList
      · have hq := name_yes (a := z.1.name) (b := s) he
        obtain ⟨rfl, rfl⟩ := HYY.out he
        have CC := HCP.out V1 HM1.out.below
        clear HYY HNX HCP he
        go_wp2_with (first | (refine wpList_load_row_g rfl 34 (.tmp 7) (by with_reducible rfl) gt (by first | rfl | simp [Act.eval]) 34 (zc z).toArray (0, 0) _ hk Tryz.underlying34 hj33 ?_) | fail)
        refine CC.mono ?_
        rintro e V2 ⟨z', C', rfl, k1, k2, k3⟩
        have hM2 := HM1.out.join k3
        have hg2 := hM2.get 0 rfl
        have hM3 := hM2.wrote 0 rfl (wrote_setRow V2 g _ (zc z').toArray _ hg2)
        have ho' : (zc z').toArray.all (·.oneCell') = true := by
          have := zb_one k2
          rw [Array.all_eq_true_iff_forall_mem]
          intro x hx
          exact this x (by simpa using hx)
        have hj3 : (Tryz.prog.info? 34).map (·.size) = some (zc z').toArray.size := by rw [zc_sz k2.1]; kernel_rfl
        have hs3 : tz.size = (zc z').toArray.size := by rw [zc_sz k2.1]; rfl
        have HQ : Hid ((V2.setRow g (zc z').toArray).heap[g]? = some (.cells (zc z').toArray 34 (0, 0)) ∧ TV (V2.setRow g (zc z').toArray) (.agg (zc z').toArray) z.1 ∧ Below w.heap.size w (V2.setRow g (zc z').toArray)) := by
          refine ⟨hM3.get 0 rfl, ?_, hM3.below⟩
          rw [← k1]
          have hC : ∀ x ∈ C', (V2.setRow g (zc z').toArray).heap[x.1]? = some x.2 := fun x hx => hM3.at_ x (by simp [hx])
          exact tv_tv k2.1 (zb_rws k2 hC).2
        have hz33 := zc_sz k2.1
        have etv : tv z' = .agg (zc z').toArray := rfl
        rw [etv]
        generalize (zc z').toArray = A' at *
        clear CC k1 k2 k3 hM2 hM3 HM1 hk hc0 hj33 hl etv
        go_wp2_with (first | (refine wpList_store_row rfl 34 (.tmp 4) (.tmp 19) (by with_reducible rfl) g A' (by first | rfl | simp [Act.eval]) (by first | rfl | simp [Act.eval]) 34 tz hg2 hj3 hs3 ho' ?_) | fail)
        refine bodyPost_ret (v := .tuple #[.agg A', .bool true]) ?_ rfl ⟨A', rfl, HQ.out.2.1, by first | exact HQ.out.2.2 | (have hq2 := HQ.out.2.2; rw [hg] at hq2; exact hq2)⟩
        exact res_cell_tmp (p := 4) (q := 5) (ty := 34) rfl _ _ g A' rfl (load_ten HQ.out.1 hz33)
      · have hq := name_ne (a := z.1.name) (b := s) he
        have HF : Hid (Mem w V1 [(g, .cells tz 34 (0, 0))] ∧ ∀ j (hj : j < i + 1) (hj' : j < zs.length), fk (zs[j]'hj') ≠ s.data.toList) := ⟨HM1.out.subl (by simp), HNX.out he⟩
        clear HYY HNX HCP he hk HM1
        go_wp2_with fail
        go_roundw
        case rel => exact ⟨i + 1, by omega, by go_num, HF⟩
        case measure => simp [intOf]; omega
    · have h1 : ¬ ((i : Int) < N) := by omega
      obtain rfl : i = N := by omega
      obtain ⟨rfl, rfl⟩ := HN.out fun j hj => HR.out.2 j hj _
      have hM := HR.out.1
      have hgz := hM.get 0 rfl
      have hM3 := hM.wrote 0 rfl (wrote_setRow wr g _ tz _ hgz)
      have hj3 : (Tryz.prog.info? 34).map (·.size) = some tz.size := by kernel_rfl
      have ho' : tz.all (·.oneCell') = true := by kernel_rfl
      have HQ : Hid ((wr.setRow g tz).heap[g]? = some (.cells tz 34 (0, 0)) ∧ TV (wr.setRow g tz) (.agg tz) ten0 ∧ Below w.heap.size w (wr.setRow g tz)) := by
        refine ⟨hM3.get 0 rfl, ⟨ten0_len, nilV, nilV, nilV, rfl, ⟨none, 0, rfl, Nat.le_refl _, by omega, fun _ => rfl, Or.inl rfl⟩, ⟨none, 0, rfl, Nat.le_refl _, by omega, fun _ => rfl, Or.inl rfl⟩, ⟨none, 0, rfl, Nat.le_refl _, by omega, fun _ => rfl, Or.inl rfl⟩⟩, hM3.below⟩
      have hbz : ∀ V : World, (Instr.build 34 #[]).run Tryz.prog V = .ok (.agg tz) V := fun V => by kernel_rfl
      have hb1 := hbz wr
      have htz : tz.size = tz.size := rfl
      have hsz : tz.size = 33 := rfl
      clear HX HS HN HR hM hM3 hbz
      generalize htt : tz = A' at *
      clear htt
      go_wp2_with (first | (refine wpList_bld rfl 34 _ (by with_reducible rfl) hb1 (by first | kernel_rfl | rfl | simp [Act.eval]) ?_) | (refine wpList_store_row rfl 34 (.tmp 4) (.tmp 21) (by with_reducible rfl) g A' (by first | rfl | simp [Act.eval]) (by first | rfl | simp [Act.eval]) 34 A' hgz hj3 htz ho' ?_) | fail)
      refine bodyPost_ret (v := .tuple #[.agg A', .bool false]) ?_ rfl ⟨A', rfl, HQ.out.2.1, by first | exact HQ.out.2.2 | (have hq2 := HQ.out.2.2; rw [hg] at hq2; exact hq2)⟩
      exact res_cell_tmp (p := 4) (q := 5) (ty := 34) rfl _ _ g A' rfl (load_ten HQ.out.1 hsz)
end Df
end Go.Proofs.YtbccadbnaggkhaaGreat

