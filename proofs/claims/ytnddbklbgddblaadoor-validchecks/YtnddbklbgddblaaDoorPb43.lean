/-
  Which settings may be: the document's own error of settings.
  The statements' seat of settings: its tenants.
  Settings as text: the program's reader: a tenant's other lines: filter, static, twice, none of these.
-/
import Derived.Test.YtnddbklbgddblaaDoorPb38
import Derived.Test.YtnddbklbgddblaaDoorPb39
import Derived.Test.YtnddbklbgddblaaDoorPb42
import Derived.Laws.Cover1
import Derived.Deep.CutRange
import Derived.Test.YtnddbklbgddblaaDoorPb20
import Derived.Deep.DeepCutAuto
import Derived.Deep.RegionWith
namespace Go.Proofs.YtnddbklbgddblaaDoor
open Go.RowKit
open Va
set_option linter.unusedVariables false
set_option linter.unusedSimpArgs false
set_option maxRecDepth 20000

namespace Va
theorem take_at {ts : List Ten} {i k : Nat} (hk : k < i) : (ts.take i).getD k ten0 = ts.getD k ten0 := by simp [List.getD, hk]
theorem any_take {ts : List Ten} {i : Nat} {f : Ten → Bool} (hi : i ≤ ts.length) : (ts.take i).any f = true ↔ ∃ k, k < i ∧ f (ts.getD k ten0) = true := by
  have hl : (ts.take i).length = i := by simp; omega
  rw [List.any_eq_true]
  constructor
  · rintro ⟨x, hx, hf⟩
    obtain ⟨k, hk, rfl⟩ := List.mem_iff_getElem.mp hx
    have hk' : k < i := by omega
    refine ⟨k, hk', ?_⟩
    have e : (ts.take i)[k] = ts.getD k ten0 := by simp [List.getD, List.getElem?_eq_getElem (show k < ts.length by omega)]
    rwa [← e]
  · rintro ⟨k, hk, hf⟩
    refine ⟨ts.getD k ten0, ?_, hf⟩
    have e : (ts.take i)[k]'(by omega) = ts.getD k ten0 := by simp [List.getD, List.getElem?_eq_getElem (show k < ts.length by omega)]
    rw [← e]
    exact List.getElem_mem _
theorem mem_at {l : List Int} {x : Int} : x ∈ l ↔ ∃ j, j < l.length ∧ l.getD j 0 = x := by
  constructor
  · intro h
    obtain ⟨j, hj, rfl⟩ := List.mem_iff_getElem.mp h
    exact ⟨j, hj, by simp [List.getD, List.getElem?_eq_getElem hj]⟩
  · rintro ⟨j, hj, rfl⟩
    simp [List.getD, List.getElem?_eq_getElem hj]
theorem rc_math {c : Cgf} {i : Nat} {R : Int} (hi : i < c.ten.length) (hp : pfrom c i (c.ten.length - i) = R) :
    (tchk (c.ten.getD i ten0) ≠ 0 → R = tchk (c.ten.getD i ten0)) ∧ (tchk (c.ten.getD i ten0) = 0 → ((decide (i = 0) || lss (c.ten.getD (i - 1) ten0).name (c.ten.getD i ten0).name) = false → R = 90) ∧ ((decide (i = 0) || lss (c.ten.getD (i - 1) ten0).name (c.ten.getD i ten0).name) = true →
      (∀ k, k < i → ((c.ten.getD k ten0).vni == (c.ten.getD i ten0).vni) = true → R = 91) ∧ ((∀ k, k < i → ((c.ten.getD k ten0).vni == (c.ten.getD i ten0).vni) = false) →
        (∀ j, j < ((c.ten.getD i ten0).pool ++ snd' (c.ten.getD i ten0).stat).length → (((c.ten.getD i ten0).pool ++ snd' (c.ten.getD i ten0).stat).getD j 0 == c.ip) = true → R = 92) ∧ (∀ j k, j < ((c.ten.getD i ten0).pool ++ snd' (c.ten.getD i ten0).stat).length → k < i → owns (c.ten.getD k ten0) (((c.ten.getD i ten0).pool ++ snd' (c.ten.getD i ten0).stat).getD j 0) = true → R = 92) ∧
        ((∀ j, j < ((c.ten.getD i ten0).pool ++ snd' (c.ten.getD i ten0).stat).length → (((c.ten.getD i ten0).pool ++ snd' (c.ten.getD i ten0).stat).getD j 0 == c.ip) = false ∧ ∀ k, k < i → owns (c.ten.getD k ten0) (((c.ten.getD i ten0).pool ++ snd' (c.ten.getD i ten0).stat).getD j 0) = false) → pfrom c (i + 1) (c.ten.length - (i + 1)) = R)))) := by
  have hl : (c.ten.take i).length = i := by simp; omega
  have e : c.ten.length - i = c.ten.length - (i + 1) + 1 := by omega
  rw [e, pfrom_succ] at hp
  have hpk : pchk c i = fnz [tchk (c.ten.getD i ten0), ul 90 (decide (i = 0) || lss (c.ten.getD (i - 1) ten0).name (c.ten.getD i ten0).name), wn 91 ((c.ten.take i).any (fun o => o.vni == (c.ten.getD i ten0).vni)), wn 92 (ow1 (c.ten.getD i ten0) (fun x => x == c.ip || (c.ten.take i).any (fun o => owns o x)))] := by
    unfold pchk Va.prs
    have e2 : (c.ten.take i).getD ((c.ten.take i).length - 1) ten0 = c.ten.getD (i - 1) ten0 ∨ i = 0 := by
      rw [hl]
      by_cases h : i = 0
      · exact Or.inr h
      · exact Or.inl (take_at (by omega))
    have e3 : ((c.ten.take i).length == 0) = decide (i = 0) := by rw [hl]; rfl
    rw [e3]
    rcases e2 with e2 | e2
    · rw [e2]
    · subst e2; simp
  refine ⟨fun h0 => ?_, fun h0 => ⟨fun h1 => ?_, fun h1 => ⟨fun k hk h2 => ?_, fun h2 => ?_⟩⟩⟩
  · rw [hpk, fnz_no h0, if_neg h0] at hp; exact hp.symm
  · rw [hpk, fnz_yes h0, h1, fnz_no (show ul 90 false ≠ 0 by decide), if_neg (show ul 90 false ≠ 0 by decide)] at hp; exact hp.symm
  · rw [hpk, fnz_yes h0, h1, fnz_yes (show ul 90 true = 0 from rfl), (any_take (by omega)).mpr ⟨k, hk, h2⟩, fnz_no (show wn 91 true ≠ 0 by decide), if_neg (show wn 91 true ≠ 0 by decide)] at hp; exact hp.symm
  · have h3 : (c.ten.take i).any (fun o => o.vni == (c.ten.getD i ten0).vni) = false := by
      rw [Bool.eq_false_iff]
      intro h
      obtain ⟨k, hk, hh⟩ := (any_take (by omega)).mp h
      rw [h2 k hk] at hh
      cases hh
    rw [hpk, fnz_yes h0, h1, fnz_yes (show ul 90 true = 0 from rfl), h3, fnz_yes (show wn 91 false = 0 from rfl)] at hp
    have key : ow1 (c.ten.getD i ten0) (fun x => x == c.ip || (c.ten.take i).any (fun o => owns o x)) = true → R = 92 := by
      intro h
      rw [h, fnz_no (show wn 92 true ≠ 0 by decide), if_neg (show wn 92 true ≠ 0 by decide)] at hp; exact hp.symm
    refine ⟨fun j hj h4 => key (ow1_iff.mpr ⟨_, mem_at.mpr ⟨j, hj, rfl⟩, by rw [h4, Bool.true_or]⟩), fun j k hj hk h4 => key (ow1_iff.mpr ⟨_, mem_at.mpr ⟨j, hj, rfl⟩, by rw [(any_take (by omega)).mpr ⟨k, hk, h4⟩, Bool.or_true]⟩), fun h4 => ?_⟩
    have h5 : ow1 (c.ten.getD i ten0) (fun x => x == c.ip || (c.ten.take i).any (fun o => owns o x)) = false := by
      rw [Bool.eq_false_iff]
      intro h
      obtain ⟨x, hx, hf⟩ := ow1_iff.mp h
      obtain ⟨j, hj, rfl⟩ := mem_at.mp hx
      rw [(h4 j hj).1, Bool.false_or] at hf
      obtain ⟨k, hk, hh⟩ := (any_take (by omega)).mp hf
      rw [(h4 j hj).2 k hk] at hh
      cases hh
    rw [h5, fnz_yes (show wn 92 false = 0 from rfl), fnz_nil, if_pos rfl] at hp
    exact hp
end Va
set_option maxHeartbeats 32000000 in
theorem rcheck_any {W : World} {v : Value} {c : Cgf} (hv : Vs W) (h : CV W v c) (hl : c.ten.length ≤ 1000000) (hm : ∀ t ∈ c.ten, TSm t) (h0 : ∀ t ∈ c.ten, 0 ≤ t.vni) :
    Calls Tryd.prog 12 #[v] W fun e V => e = .returned (.int .i64 (chk c)) ∧ Below W.heap.size W V := by
  obtain ⟨cl, ta, tp, rfl, hx⟩ := h.tb
  obtain ⟨g, hg⟩ : ∃ g, W.heap.size = g := ⟨_, rfl⟩
  have HM0 : Hid (Mem W (W.alloc (.cells cl.toArray 28)) [(g, .cells cl.toArray 28 (0, 0))]) := (Mem.nil W).push1 hg.symm
  obtain ⟨a', c', e, hle, hcb, hp⟩ := hx.ts.parts
  simp only [Value.slice.injEq] at e
  obtain ⟨rfl, -, rfl⟩ := e
  obtain ⟨A, hA⟩ : ∃ A, cl.toArray = A := ⟨_, rfl⟩
  have HT : Hid (∀ X, Below W.heap.size W X → X.heap[g]? = some (.cells A 28 (0, 0)) → X.cell? ⟨g, 0, none⟩ = some (.int .u32 c.ip) ∧ X.cell? ⟨g, 27, none⟩ = some (.int .u32 c.drain) ∧ X.cell? ⟨g, 28, none⟩ = some (.slice ta c.ten.length tp)) := by
    intro X hX hk
    rw [← hA] at hk
    exact ⟨cell_tl hk hx.ip, cell_tl hk hx.drain, cell_tl hk hx.ten⟩
  -- each tenant, where it lies
  have HP : Hid (∀ k, k < c.ten.length → ∃ b off x, ta = some ⟨b, off, none⟩ ∧ x.length = 33 ∧ x.toArray.all (·.oneCell') = true ∧ TSm (c.ten.getD k ten0) ∧ 0 ≤ (c.ten.getD k ten0).vni ∧ ∀ X, Below W.heap.size W X → X.rangeAt b (off + k * 33) x ∧ TV X (.agg x.toArray) (c.ten.getD k ten0) ∧ X.cell? ⟨b, off + k * 33, none⟩ = some (.string (c.ten.getD k ten0).name) ∧ X.cell? ⟨b, off + k * 33 + 1, none⟩ = some (.int .u32 (c.ten.getD k ten0).vni)) := by
    intro k hk
    obtain ⟨b, off, x, h1, h2, h3, h4⟩ := hp k hk
    have hmem : (c.ten.getD k ten0) ∈ c.ten := by simp [List.getD, List.getElem?_eq_getElem hk]
    refine ⟨b, off, x, h1, h2, h3, hm _ hmem, h0 _ hmem, fun X hX => ?_⟩
    obtain ⟨r1, r2⟩ := h4 X hX
    obtain ⟨ol, _, _, _, _, _, _, ex, ho⟩ := r2.tb
    have ex2 : x = ol := by simpa using ex
    refine ⟨r1, r2, ?_, ?_⟩
    · have := r1 0 _ (by rw [ex2]; exact ho.name)
      rwa [Nat.add_zero] at this
    · exact r1 1 _ (by rw [ex2]; exact ho.vni)
  obtain ⟨R, hR⟩ : ∃ R, chk c = R := ⟨_, rfl⟩
  rw [hR]
  have HG : Hid ((c.ip = 0 → R = 96) ∧ (1000 < c.drain → R = 96) ∧ ((16 : Int) < c.ten.length → R = 96) ∧ (c.ip ≠ 0 → c.drain ≤ 1000 → (c.ten.length : Int) ≤ 16 → pfrom c 0 (c.ten.length - 0) = R)) := by
    have hch : chk c = if fnz (grs c) = 0 then pfrom c 0 c.ten.length else fnz (grs c) := rfl
    have hgr : grs c = [ul 96 (c.ip != 0), ul 96 (decide (c.drain ≤ 1000)), ul 96 (decide ((c.ten.length : Int) ≤ 16))] := rfl
    have key : fnz (grs c) = 96 → R = 96 := fun h => by rw [← hR, hch, h]; rfl
    have two : ∀ b : Bool, ul 96 b = 0 ∨ ul 96 b = 96 := fun b => by cases b <;> simp [ul]
    refine ⟨fun h => key ?_, fun h => key ?_, fun h => key ?_, fun a1 a2 a3 => ?_⟩
    · rw [hgr, h]; rfl
    · rw [hgr, decide_eq_false (show ¬ c.drain ≤ 1000 by omega)]
      rcases two (c.ip != 0) with q | q <;> simp [fnz, q, ul]
    · rw [hgr, decide_eq_false (show ¬ (c.ten.length : Int) ≤ 16 by omega)]
      rcases two (c.ip != 0) with q | q <;> rcases two (decide (c.drain ≤ 1000)) with q2 | q2 <;> simp [fnz, q, q2] <;> simp [ul]
    · rw [← hR, hch, hgr, decide_eq_true a2, decide_eq_true a3, if_pos (by simp [fnz, ul, a1])]; rfl
  have HE : Hid (pfrom c c.ten.length (c.ten.length - c.ten.length) = R → R = 0) := by
    intro h; rw [← h, Nat.sub_self]; rfl
  have HQ : Hid (∀ i, i < c.ten.length → pfrom c i (c.ten.length - i) = R → (tchk (c.ten.getD i ten0) ≠ 0 → R = tchk (c.ten.getD i ten0)) ∧ (tchk (c.ten.getD i ten0) = 0 → ((decide (i = 0) || lss (c.ten.getD (i - 1) ten0).name (c.ten.getD i ten0).name) = false → R = 90) ∧ ((decide (i = 0) || lss (c.ten.getD (i - 1) ten0).name (c.ten.getD i ten0).name) = true →
      (∀ k, k < i → ((c.ten.getD k ten0).vni == (c.ten.getD i ten0).vni) = true → R = 91) ∧ ((∀ k, k < i → ((c.ten.getD k ten0).vni == (c.ten.getD i ten0).vni) = false) →
        (∀ j, j < ((c.ten.getD i ten0).pool ++ snd' (c.ten.getD i ten0).stat).length → (((c.ten.getD i ten0).pool ++ snd' (c.ten.getD i ten0).stat).getD j 0 == c.ip) = true → R = 92) ∧ (∀ j k, j < ((c.ten.getD i ten0).pool ++ snd' (c.ten.getD i ten0).stat).length → k < i → owns (c.ten.getD k ten0) (((c.ten.getD i ten0).pool ++ snd' (c.ten.getD i ten0).stat).getD j 0) = true → R = 92) ∧
        ((∀ j, j < ((c.ten.getD i ten0).pool ++ snd' (c.ten.getD i ten0).stat).length → (((c.ten.getD i ten0).pool ++ snd' (c.ten.getD i ten0).stat).getD j 0 == c.ip) = false ∧ ∀ k, k < i → owns (c.ten.getD k ten0) (((c.ten.getD i ten0).pool ++ snd' (c.ten.getD i ten0).stat).getD j 0) = false) → pfrom c (i + 1) (c.ten.length - (i + 1)) = R))))) := fun i hi h => rc_math hi h
  have HV : Hid (Vs W) := hv
  rw [hA] at HM0 ⊢
  clear hR hv h hm h0 hx hp hA
  obtain ⟨N, hN⟩ : ∃ N, c.ten.length = N := ⟨_, rfl⟩
  rw [hN] at HT HP HG HE HQ hl hle
  clear hN
  obtain ⟨ip, hip⟩ : ∃ x, c.ip = x := ⟨_, rfl⟩
  obtain ⟨dr, hdr⟩ : ∃ x, c.drain = x := ⟨_, rfl⟩
  rw [hip] at HT HG HQ
  rw [hdr] at HT HG
  clear hip hdr
  go_enter Tryd.func12, Tryd.ntmps12
  go_upto_region 1 with fail
  refine wp_letter (fun X => Mem W X [(g, .cells A 28 (0, 0))]) (by exact HM0.out) ?_
  intro V hM
  try simp only [hg]
  clear HM0 hg
  obtain ⟨c0, c27, c28⟩ := HT.out V hM.below (hM.get 0 rfl)
  have HM : Hid (Mem W V [(g, .cells A 28 (0, 0))]) := hM
  clear hM
  by_cases q1 : ip = 0
  · obtain rfl := HG.out.1 q1
    subst q1
    clear HT HP HG HE HQ HV
    go_wp2_with fail
    go_ret
    exact ⟨rfl, HM.out.below⟩
  have e1 : (ip == 0) = false := by simp [q1]
  by_cases q2 : 1000 < dr
  · obtain rfl := HG.out.2.1 q2
    have e2 : decide (1000 < dr) = true := decide_eq_true q2
    clear HT HP HG HE HQ HV q1
    go_wp2_with fail
    go_ret
    exact ⟨rfl, HM.out.below⟩
  have e2 : decide (1000 < dr) = false := decide_eq_false q2
  by_cases q3 : (16 : Int) < N
  · obtain rfl := HG.out.2.2.1 q3
    have e3 : decide ((16 : Int) < N) = true := decide_eq_true q3
    clear HT HP HG HE HQ HV q1
    go_wp2_with fail
    go_ret
    exact ⟨rfl, HM.out.below⟩
  have e3 : decide ((16 : Int) < N) = false := decide_eq_false q3
  have H0 : Hid (pfrom c 0 (N - 0) = R ∧ Mem W V [(g, .cells A 28 (0, 0))]) := ⟨HG.out.2.2.2 q1 (by omega) (by omega), HM.out⟩
  clear HG q1 q2 q3 HM
  go_wp2_with fail
  go_loopw [3] (fun u3 w' => ∃ i : Nat, i ≤ N ∧ u3 = .int .i64 i ∧ Hid (pfrom c i (N - i) = R ∧ Mem W w' [(g, .cells A 28 (0, 0))])) (fun u3 w' => N - (intOf u3).toNat)
  case atStart => exact ⟨0, Nat.zero_le _, rfl, H0⟩
  case round =>
  obtain ⟨i, hi, rfl, HR⟩ := hrel
  clear c0 c27 c28
  obtain ⟨c0, c27, c28⟩ := HT.out wr HR.out.2.below (HR.out.2.get 0 rfl)
  by_cases hlt : i < N
  rotate_left
  · have h1 : ¬ ((i : Int) < N) := by omega
    obtain rfl : i = N := by omega
    obtain rfl := HE.out HR.out.1
    have HB : Hid (Below W.heap.size W wr) := HR.out.2.below
    clear HT HP HE HQ HV HR H0
    go_wp2_with fail
    go_ret
    exact ⟨rfl, HB.out⟩
  have h1 : (i : Int) < N := by omega
  obtain ⟨b, off, x, rfl, hsz, hone, hsm, hvn, hX⟩ := HP.out i hlt
  have hq := HQ.out i hlt HR.out.1
  obtain ⟨hra, hTV, -, -⟩ := hX wr HR.out.2.below
  have hi33 : (Tryd.prog.info? 39).map (·.size) = some x.length := by rw [hsz]; kernel_rfl
  have hj33 : (Tryd.prog.info? 39).map (·.size) = some x.toArray.size := by rw [List.size_toArray, hsz]; kernel_rfl
  have hs33 : tz14.size = x.toArray.size := by rw [show x.toArray.size = 33 by rw [List.size_toArray]; exact hsz]; rfl
  obtain ⟨gt, hgt⟩ : ∃ g, wr.heap.size = g := ⟨_, rfl⟩
  have hk1 : (wr.alloc (.cells tz14 39)).heap[gt]? = some (.cells tz14 39 (0, 0)) := by rw [← hgt]; exact heap_alloc_new _ _
  have ew : (wr.alloc (.cells tz14 39)).setRow gt x.toArray = wr.alloc (.cells x.toArray 39) := by rw [← hgt]; exact World.setRow_alloc_new wr tz14 x.toArray 39
  have HF : Hid (Mem W ((wr.alloc (.cells tz14 39)).setRow gt x.toArray) [(gt, .cells x.toArray 39 (0, 0)), (g, .cells A 28 (0, 0))]) := by rw [ew]; exact HR.out.2.front _ hgt.symm
  -- what is known of worlds that hold the tenant's box
  have HB : Hid (∀ X, Mem W X [(gt, .cells x.toArray 39 (0, 0)), (g, .cells A 28 (0, 0))] → X.heap[gt]? = some (.cells x.toArray 39 (0, 0)) ∧ TV X (.agg x.toArray) (c.ten.getD i ten0) ∧ X.cell? ⟨gt, 0, none⟩ = some (.string (c.ten.getD i ten0).name) ∧ X.cell? ⟨gt, 1, none⟩ = some (.int .u32 (c.ten.getD i ten0).vni) ∧ X.cell? ⟨g, 0, none⟩ = some (.int .u32 ip) ∧ X.cell? ⟨g, 28, none⟩ = some (.slice (some ⟨b, off, none⟩) N tp) ∧ Vs X) := by
    intro X hM
    have r2 := (hX X hM.below).2.1
    obtain ⟨ol, _, _, _, _, _, _, ex, ho⟩ := r2.tb
    have ex2 : x = ol := by simpa using ex
    have hk := hM.get 0 rfl
    obtain ⟨d0, -, d28⟩ := HT.out X hM.below (hM.get 1 rfl)
    exact ⟨hk, r2, cell_tl hk (by rw [ex2]; exact ho.name), cell_tl hk (by rw [ex2]; exact ho.vni), d0, d28, HV.out.below hM.below⟩
  have HPP : Hid (∀ k, k < N → ∃ x', x'.length = 33 ∧ TSm (c.ten.getD k ten0) ∧ ∀ X, Below W.heap.size W X → X.rangeAt b (off + k * 33) x' ∧ TV X (.agg x'.toArray) (c.ten.getD k ten0) ∧ X.cell? ⟨b, off + k * 33, none⟩ = some (.string (c.ten.getD k ten0).name) ∧ X.cell? ⟨b, off + k * 33 + 1, none⟩ = some (.int .u32 (c.ten.getD k ten0).vni)) := by
    intro k hk
    obtain ⟨b', off', x', e, k1, k2, k3, k4, k5⟩ := HP.out k hk
    cases e
    exact ⟨x', k1, k3, k5⟩
  have HSM : Hid (TSm (c.ten.getD i ten0) ∧ 0 ≤ (c.ten.getD i ten0).vni) := ⟨hsm, hvn⟩
  have HQ0 : Hid (tchk (c.ten.getD i ten0) ≠ 0 → R = tchk (c.ten.getD i ten0)) := hq.1
  have HQ1 : Hid (tchk (c.ten.getD i ten0) = 0 → ((decide (i = 0) || lss (c.ten.getD (i - 1) ten0).name (c.ten.getD i ten0).name) = false → R = 90) ∧ ((decide (i = 0) || lss (c.ten.getD (i - 1) ten0).name (c.ten.getD i ten0).name) = true →
      (∀ k, k < i → ((c.ten.getD k ten0).vni == (c.ten.getD i ten0).vni) = true → R = 91) ∧ ((∀ k, k < i → ((c.ten.getD k ten0).vni == (c.ten.getD i ten0).vni) = false) →
        (∀ j, j < ((c.ten.getD i ten0).pool ++ snd' (c.ten.getD i ten0).stat).length → (((c.ten.getD i ten0).pool ++ snd' (c.ten.getD i ten0).stat).getD j 0 == ip) = true → R = 92) ∧ (∀ j k, j < ((c.ten.getD i ten0).pool ++ snd' (c.ten.getD i ten0).stat).length → k < i → owns (c.ten.getD k ten0) (((c.ten.getD i ten0).pool ++ snd' (c.ten.getD i ten0).stat).getD j 0) = true → R = 92) ∧
        ((∀ j, j < ((c.ten.getD i ten0).pool ++ snd' (c.ten.getD i ten0).stat).length → (((c.ten.getD i ten0).pool ++ snd' (c.ten.getD i ten0).stat).getD j 0 == ip) = false ∧ ∀ k, k < i → owns (c.ten.getD k ten0) (((c.ten.getD i ten0).pool ++ snd' (c.ten.getD i ten0).stat).getD j 0) = false) → pfrom c (i + 1) (N - (i + 1)) = R)))) := hq.2
  clear hX hsm hvn hTV hq ew HP HQ HV H0 HR HE HT c27
  go_upto_region 7 with (first | (refine wpList_load_mid rfl 39 (.tmp 34) (by with_reducible rfl) b (off + i * 33) (by simp [Act.eval]) x _ hra Tryd.underlying39 rfl hi33 ?_) | (refine wpList_store_row rfl 39 (.tmp 4) (.tmp 35) (by with_reducible rfl) gt x.toArray (by simp [Act.eval]; try exact hgt) (by first | rfl | simp [Act.eval]) 39 tz14 hk1 hj33 hs33 hone ?_) | fail)
  refine wp_letter (fun X => Mem W X [(gt, .cells x.toArray 39 (0, 0)), (g, .cells A 28 (0, 0))]) (by exact HF.out) ?_
  intro V1 hM1
  try simp only [hgt]
  clear HF hgt hk1 hra hi33 hs33 hone c0 c28
  obtain ⟨k1, hTV, n0, v0, -, -, hvs⟩ := HB.out V1 hM1
  have C := rtenant14_any hvs hTV HSM.out.1 HSM.out.2
  have HM1 : Hid (Mem W V1 [(gt, .cells x.toArray 39 (0, 0)), (g, .cells A 28 (0, 0))]) := hM1
  clear hM1 hTV hvs
  obtain ⟨E, hE⟩ : ∃ E, tchk (c.ten.getD i ten0) = E := ⟨_, rfl⟩
  rw [hE] at C HQ0 HQ1
  clear hE
  go_wp2_with (refine wpList_load_row rfl 39 (.tmp 4) (by with_reducible rfl) gt (by first | rfl | simp [Act.eval]) 39 x.toArray (0, 0) _ k1 Tryd.underlying39 rfl hj33 ?_)
  refine C.mono ?_
  rintro _ V2 ⟨rfl, hb⟩
  have HM2 : Hid (Mem W V2 [(gt, .cells x.toArray 39 (0, 0)), (g, .cells A 28 (0, 0))]) := HM1.out.after hb
  clear hb C HM1 k1 n0 v0
  by_cases qE : E = 0
  rotate_left
  · obtain rfl := HQ0.out qE
    have e4 : (R != 0) = true := by simp [qE]
    clear HQ0 HQ1 HB HPP HSM
    go_wp2_with fail
    go_ret
    exact ⟨rfl, HM2.out.below⟩
  have hq := HQ1.out qE
  have HQ2 : Hid ((decide (i = 0) || lss (c.ten.getD (i - 1) ten0).name (c.ten.getD i ten0).name) = false → R = 90) := hq.1
  have HQ3 : Hid ((decide (i = 0) || lss (c.ten.getD (i - 1) ten0).name (c.ten.getD i ten0).name) = true →
      (∀ k, k < i → ((c.ten.getD k ten0).vni == (c.ten.getD i ten0).vni) = true → R = 91) ∧ ((∀ k, k < i → ((c.ten.getD k ten0).vni == (c.ten.getD i ten0).vni) = false) →
        (∀ j, j < ((c.ten.getD i ten0).pool ++ snd' (c.ten.getD i ten0).stat).length → (((c.ten.getD i ten0).pool ++ snd' (c.ten.getD i ten0).stat).getD j 0 == ip) = true → R = 92) ∧ (∀ j k, j < ((c.ten.getD i ten0).pool ++ snd' (c.ten.getD i ten0).stat).length → k < i → owns (c.ten.getD k ten0) (((c.ten.getD i ten0).pool ++ snd' (c.ten.getD i ten0).stat).getD j 0) = true → R = 92) ∧
        ((∀ j, j < ((c.ten.getD i ten0).pool ++ snd' (c.ten.getD i ten0).stat).length → (((c.ten.getD i ten0).pool ++ snd' (c.ten.getD i ten0).stat).getD j 0 == ip) = false ∧ ∀ k, k < i → owns (c.ten.getD k ten0) (((c.ten.getD i ten0).pool ++ snd' (c.ten.getD i ten0).stat).getD j 0) = false) → pfrom c (i + 1) (N - (i + 1)) = R))) := hq.2
  clear hq HQ0 HQ1
  subst qE
  -- the name
  obtain ⟨-, -, n0, v0, d0, d28, -⟩ := HB.out V2 HM2.out
  obtain ⟨NBv, hNB⟩ : ∃ B, (decide (i = 0) || lss (c.ten.getD (i - 1) ten0).name (c.ten.getD i ten0).name) = B := ⟨_, rfl⟩
  rw [hNB] at HQ2 HQ3
  have HN0 : Hid (i = 0 → NBv = true) := fun h => by rw [← hNB, decide_eq_true h, Bool.true_or]
  have HN1 : Hid (0 < i → ∃ s1 s2 : ByteArray, (c.ten.getD i ten0).name = s1 ∧ V2.cell? ⟨b, off + (i - 1) * 33, none⟩ = some (.string s2) ∧ (Op.bytesLess s1.toList s2.toList || (s1.toList == s2.toList)) = !NBv) := by
    intro h
    obtain ⟨x', -, -, k5⟩ := HPP.out (i - 1) (by omega)
    refine ⟨_, _, rfl, (k5 V2 HM2.out.below).2.2.1, ?_⟩
    rw [less_tri, ← hNB, decide_eq_false (by omega), Bool.false_or]; rfl
  clear hNB
  go_upto_region 10 with fail
  go_cut [54] from 24 to 98 (fun u54 w' => u54 = .bool (!NBv) ∧ Hid (∃ q, w' = V2.drewN q))
  case first =>
    clear HQ2 HQ3 HB HPP HSM HM2
    by_cases qi : i = 0
    · obtain rfl := HN0.out qi
      subst qi
      clear HN0 HN1
      go_quiet (fail)
      go_wp2_with fail
      go_meet
      case rel => exact ⟨rfl, _, rfl⟩
    · obtain ⟨s1, s2, e4, d1, e5⟩ := HN1.out (by omega)
      rw [e4] at n0
      have e6 : decide (0 < (i : Int)) = true := decide_eq_true (by omega)
      have e7 : IntKind.i64.wrap ((i : Int) - 1) = ((i - 1 : Nat) : Int) := by rw [wrap64 (by omega) (by omega)]; omega
      have h2 : ((i - 1 : Nat) : Int) < N := by omega
      have hpos : 0 < (i : Int) := by omega
      have hposN : 0 < i := by omega
      have e8 : decide (0 < i) = true := decide_eq_true hposN
      clear HN0 HN1 e4
      generalize i - 1 = m at *
      have HE5 : Hid ((Op.bytesLess s1.toList s2.toList || (s1.toList == s2.toList)) = !NBv) := e5
      clear e5
      go_quiet (fail)
      go_wp2_with fail
      go_meet
      case rel => exact ⟨by rw [← HE5.out], _, rfl⟩
  case rest =>
  obtain ⟨rfl, HD⟩ := hcut
  have HM3 : Hid (Mem W wc [(gt, .cells x.toArray 39 (0, 0)), (g, .cells A 28 (0, 0))]) := by obtain ⟨q, hq⟩ := HD.out; rw [hq]; exact HM2.out.drewN q
  clear HD HN0 HN1 HM2 n0 v0 d0 d28
  cases NBv with
  | false =>
    obtain rfl := HQ2.out rfl
    clear HQ2 HQ3 HB HPP HSM
    go_wp2_with fail
    go_ret
    exact ⟨rfl, HM3.out.below⟩
  | true =>
  have hq := HQ3.out rfl
  have HQ4 : Hid (∀ k, k < i → ((c.ten.getD k ten0).vni == (c.ten.getD i ten0).vni) = true → R = 91) := hq.1
  have HQ5 : Hid ((∀ k, k < i → ((c.ten.getD k ten0).vni == (c.ten.getD i ten0).vni) = false) →
        (∀ j, j < ((c.ten.getD i ten0).pool ++ snd' (c.ten.getD i ten0).stat).length → (((c.ten.getD i ten0).pool ++ snd' (c.ten.getD i ten0).stat).getD j 0 == ip) = true → R = 92) ∧ (∀ j k, j < ((c.ten.getD i ten0).pool ++ snd' (c.ten.getD i ten0).stat).length → k < i → owns (c.ten.getD k ten0) (((c.ten.getD i ten0).pool ++ snd' (c.ten.getD i ten0).stat).getD j 0) = true → R = 92) ∧
        ((∀ j, j < ((c.ten.getD i ten0).pool ++ snd' (c.ten.getD i ten0).stat).length → (((c.ten.getD i ten0).pool ++ snd' (c.ten.getD i ten0).stat).getD j 0 == ip) = false ∧ ∀ k, k < i → owns (c.ten.getD k ten0) (((c.ten.getD i ten0).pool ++ snd' (c.ten.getD i ten0).stat).getD j 0) = false) → pfrom c (i + 1) (N - (i + 1)) = R)) := hq.2
  clear hq HQ2 HQ3
  have HI : Hid ((∀ k, k < 0 → ((c.ten.getD k ten0).vni == (c.ten.getD i ten0).vni) = false) ∧ Mem W wc [(gt, .cells x.toArray 39 (0, 0)), (g, .cells A 28 (0, 0))]) := ⟨fun k hk => absurd hk (by omega), HM3.out⟩
  clear HM3
  go_wp2_with fail
  go_loopw [6] (fun u6 w' => ∃ k : Nat, k ≤ i ∧ u6 = .int .i64 k ∧ Hid ((∀ j, j < k → ((c.ten.getD j ten0).vni == (c.ten.getD i ten0).vni) = false) ∧ Mem W w' [(gt, .cells x.toArray 39 (0, 0)), (g, .cells A 28 (0, 0))])) (fun u6 w' => i - (intOf u6).toNat)
  case atStart => exact ⟨0, Nat.zero_le _, rfl, HI⟩
  case round =>
  obtain ⟨k, hk, rfl, HS⟩ := hrel
  by_cases hkl : k < i
  · have h2 : (k : Int) < i := by omega
    have h3 : (k : Int) < N := by omega
    obtain ⟨-, -, -, v0, -, d28, -⟩ := HB.out wr HS.out.2
    obtain ⟨x', -, -, k5⟩ := HPP.out k (by omega)
    have d1 := (k5 wr HS.out.2.below).2.2.2
    have HY1 : Hid (((c.ten.getD k ten0).vni == (c.ten.getD i ten0).vni) = true → R = 91) := HQ4.out k hkl
    have HN1 : Hid (((c.ten.getD k ten0).vni == (c.ten.getD i ten0).vni) = false → ∀ j, j < k + 1 → ((c.ten.getD j ten0).vni == (c.ten.getD i ten0).vni) = false) := by
      intro hn j hj
      rcases Nat.lt_or_ge j k with h | h
      · exact HS.out.1 j h
      · obtain rfl : j = k := by omega
        exact hn
    have HM4 : Hid (Mem W wr [(gt, .cells x.toArray 39 (0, 0)), (g, .cells A 28 (0, 0))]) := HS.out.2
    clear k5 HB HPP HSM HQ4 HQ5 HI HS
    obtain ⟨y, hy⟩ : ∃ y, (c.ten.getD k ten0).vni = y := ⟨_, rfl⟩
    obtain ⟨z, hz⟩ : ∃ z, (c.ten.getD i ten0).vni = z := ⟨_, rfl⟩
    rw [hy] at d1 HY1 HN1
    rw [hz] at v0 HY1
    have HN2 : Hid ((y == z) = false → ∀ j, j < k + 1 → ((c.ten.getD j ten0).vni == (c.ten.getD i ten0).vni) = false) := by rw [hz] at HN1 ⊢; exact HN1
    clear hy hz HN1
    cases hyz : (y == z) with
    | true =>
      obtain rfl := HY1.out hyz
      clear HY1 HN2
      go_upto_region 15 with fail
      go_quiet (fail)
      go_wp2_with fail
      go_ret
      exact ⟨rfl, Go.below_drewN HM4.out.below _⟩
    | false =>
      have HF := HN2.out hyz
      have HF2 : Hid (∀ j, j < k + 1 → ((c.ten.getD j ten0).vni == (c.ten.getD i ten0).vni) = false) := HF
      clear HY1 HN2 HF
      go_upto_region 15 with fail
      go_quiet (fail)
      go_wp2_with fail
      go_roundw
      case rel => exact ⟨k + 1, by omega, by go_num, HF2.out, HM4.out.drewN _⟩
      case measure => simp [intOf]; omega
  have h2 : ¬ ((k : Int) < i) := by omega
  obtain rfl : k = i := by omega
  have hq := HQ5.out HS.out.1
  have HQ6 : Hid (∀ j, j < ((c.ten.getD k ten0).pool ++ snd' (c.ten.getD k ten0).stat).length → (((c.ten.getD k ten0).pool ++ snd' (c.ten.getD k ten0).stat).getD j 0 == ip) = true → R = 92) := hq.1
  have HQ7 : Hid (∀ j q, j < ((c.ten.getD k ten0).pool ++ snd' (c.ten.getD k ten0).stat).length → q < k → owns (c.ten.getD q ten0) (((c.ten.getD k ten0).pool ++ snd' (c.ten.getD k ten0).stat).getD j 0) = true → R = 92) := hq.2.1
  have HQ8 : Hid ((∀ j, j < ((c.ten.getD k ten0).pool ++ snd' (c.ten.getD k ten0).stat).length → (((c.ten.getD k ten0).pool ++ snd' (c.ten.getD k ten0).stat).getD j 0 == ip) = false ∧ ∀ q, q < k → owns (c.ten.getD q ten0) (((c.ten.getD k ten0).pool ++ snd' (c.ten.getD k ten0).stat).getD j 0) = false) → pfrom c (k + 1) (N - (k + 1)) = R) := hq.2.2
  have HM5 : Hid (Mem W wr [(gt, .cells x.toArray 39 (0, 0)), (g, .cells A 28 (0, 0))]) := HS.out.2
  obtain ⟨k1, hTV, -, -, -, -, -⟩ := HB.out wr HM5.out
  have C := rowned_any hTV HSM.out.1
  have hLl : ((c.ten.getD k ten0).pool ++ snd' (c.ten.getD k ten0).stat).length ≤ 2000000 := by rw [List.length_append]; have := HSM.out.1; unfold TSm at this; simp only [snd', List.length_map]; omega
  clear hq HQ4 HQ5 HS HI hTV
  obtain ⟨L, hL⟩ : ∃ L, ((c.ten.getD k ten0).pool ++ snd' (c.ten.getD k ten0).stat) = L := ⟨_, rfl⟩
  rw [hL] at C HQ6 HQ7 HQ8 hLl
  clear hL HSM
  go_wp2_with (refine wpList_load_row rfl 39 (.tmp 4) (by with_reducible rfl) gt (by first | rfl | simp [Act.eval]) 39 x.toArray (0, 0) _ k1 Tryd.underlying39 rfl hj33 ?_)
  refine C.mono ?_
  rintro _ V3 ⟨u, rfl, hrw, hb⟩
  have HM6 : Hid (Mem W V3 [(gt, .cells x.toArray 39 (0, 0)), (g, .cells A 28 (0, 0))]) := HM5.out.after hb
  obtain ⟨la, lc, rfl, hlc, hlb, hcell⟩ := rw_u hrw
  have HC : Hid (∀ j, j < L.length → ∃ b' off', la = some ⟨b', off', none⟩ ∧ ∀ X, Below V3.heap.size V3 X → X.cell? ⟨b', off' + j, none⟩ = some (.int .u32 (L.getD j 0))) := hcell
  clear hb C HM5 k1 hrw hcell
  have HI : Hid ((∀ j, j < 0 → (L.getD j 0 == ip) = false ∧ ∀ q, q < k → owns (c.ten.getD q ten0) (L.getD j 0) = false) ∧ Below V3.heap.size V3 V3 ∧ Mem W V3 [(gt, .cells x.toArray 39 (0, 0)), (g, .cells A 28 (0, 0))]) := ⟨fun j hj => absurd hj (by omega), Below.refl _ _, HM6.out⟩
  clear HM6
  generalize L.length = n at *
  go_wp2_with fail
  go_loopw [8] (fun u8 w' => ∃ j : Nat, j ≤ n ∧ u8 = .int .i64 j ∧ Hid ((∀ p, p < j → (L.getD p 0 == ip) = false ∧ ∀ q, q < k → owns (c.ten.getD q ten0) (L.getD p 0) = false) ∧ Below V3.heap.size V3 w' ∧ Mem W w' [(gt, .cells x.toArray 39 (0, 0)), (g, .cells A 28 (0, 0))])) (fun u8 w' => n - (intOf u8).toNat)
  case atStart => exact ⟨0, Nat.zero_le _, rfl, HI⟩
  case round =>
  obtain ⟨j, hj, rfl, HS⟩ := hrel
  by_cases hjl : j < n
  rotate_left
  · have h4 : ¬ ((j : Int) < n) := by omega
    obtain rfl : j = n := by omega
    have HF : Hid (pfrom c (k + 1) (N - (k + 1)) = R ∧ Mem W wr [(g, .cells A 28 (0, 0))]) := ⟨HQ8.out HS.out.1, HS.out.2.2.sub⟩
    clear HB HPP HQ6 HQ7 HQ8 HC HI HS
    go_wp2_with fail
    go_roundw
    case rel => exact ⟨k + 1, by omega, by go_num, HF⟩
    case measure => simp [intOf]; omega
  have h4 : (j : Int) < n := by omega
  obtain ⟨b2, off2, rfl, hd⟩ := HC.out j hjl
  have f0 := hd wr HS.out.2.1
  obtain ⟨-, -, -, -, d0, -, -⟩ := HB.out wr HS.out.2.2
  obtain ⟨y, hy⟩ : ∃ y, L.getD j 0 = y := ⟨_, rfl⟩
  have HY6 : Hid ((y == ip) = true → R = 92) := by rw [← hy]; exact HQ6.out j hjl
  have HY7 : Hid (∀ q, q < k → owns (c.ten.getD q ten0) y = true → R = 92) := by rw [← hy]; exact fun q hq => HQ7.out j q hjl hq
  have HZ : Hid ((y == ip) = false → (∀ q, q < k → owns (c.ten.getD q ten0) y = false) → ∀ p, p < j + 1 → (L.getD p 0 == ip) = false ∧ ∀ q, q < k → owns (c.ten.getD q ten0) (L.getD p 0) = false) := by
    intro a1 a2 p hp
    rcases Nat.lt_or_ge p j with h | h
    · exact HS.out.1 p h
    · obtain rfl : p = j := by omega
      rw [hy]; exact ⟨a1, a2⟩
  have HD : Hid (∀ X, Below V3.heap.size V3 X → X.cell? ⟨b2, off2 + j, none⟩ = some (.int .u32 y)) := by rw [← hy]; exact hd
  rw [hy] at f0
  have HM7 : Hid (Below V3.heap.size V3 wr ∧ Mem W wr [(gt, .cells x.toArray 39 (0, 0)), (g, .cells A 28 (0, 0))]) := HS.out.2
  clear hd hy HS HI
  cases hyi : (y == ip) with
  | true =>
    obtain rfl := HY6.out hyi
    clear HB HPP HQ6 HQ7 HQ8 HC HY6 HY7 HZ HD
    go_upto_region 21 with fail
    go_quiet (fail)
    go_wp2_with fail
    go_ret
    exact ⟨rfl, Go.below_drewN HM7.out.2.below _⟩
  | false =>
  have HZ2 : Hid ((∀ q, q < k → owns (c.ten.getD q ten0) y = false) → ∀ p, p < j + 1 → (L.getD p 0 == ip) = false ∧ ∀ q, q < k → owns (c.ten.getD q ten0) (L.getD p 0) = false) := HZ.out hyi
  clear HZ HY6
  go_upto_region 21 with fail
  go_quiet (fail)
  go_upto_region 23 with fail
  refine wp_letter (fun X => Below V3.heap.size V3 X ∧ Mem W X [(gt, .cells x.toArray 39 (0, 0)), (g, .cells A 28 (0, 0))]) (by exact ⟨Go.below_drewN HM7.out.1 _, HM7.out.2.drewN _⟩) ?_
  rintro V4 ⟨hb4, hM4⟩
  have HI : Hid ((∀ q, q < 0 → owns (c.ten.getD q ten0) y = false) ∧ Below V3.heap.size V3 V4 ∧ Mem W V4 [(gt, .cells x.toArray 39 (0, 0)), (g, .cells A 28 (0, 0))]) := ⟨fun q hq => absurd hq (by omega), hb4, hM4⟩
  clear hb4 hM4 HM7 f0 d0
  go_wp2_with fail
  go_loopw [9] (fun u9 w' => ∃ q : Nat, q ≤ k ∧ u9 = .int .i64 q ∧ Hid ((∀ p, p < q → owns (c.ten.getD p ten0) y = false) ∧ Below V3.heap.size V3 w' ∧ Mem W w' [(gt, .cells x.toArray 39 (0, 0)), (g, .cells A 28 (0, 0))])) (fun u9 w' => k - (intOf u9).toNat)
  case atStart => exact ⟨0, Nat.zero_le _, rfl, HI⟩
  case round =>
  obtain ⟨q, hq, rfl, HS⟩ := hrel
  by_cases hql : q < k
  rotate_left
  · have h5 : ¬ ((q : Int) < k) := by omega
    obtain rfl : q = k := by omega
    have HF : Hid ((∀ p, p < j + 1 → (L.getD p 0 == ip) = false ∧ ∀ p', p' < q → owns (c.ten.getD p' ten0) (L.getD p 0) = false) ∧ Below V3.heap.size V3 wr ∧ Mem W wr [(gt, .cells x.toArray 39 (0, 0)), (g, .cells A 28 (0, 0))]) := ⟨HZ2.out HS.out.1, HS.out.2⟩
    clear HB HPP HQ6 HQ7 HQ8 HC HY7 HZ2 HD HS HI
    go_wp2_with fail
    go_roundw
    case rel => exact ⟨j + 1, by omega, by go_num, HF⟩
    case measure => simp [intOf]; omega
  have h5 : (q : Int) < k := by omega
  have h6 : (q : Int) < N := by omega
  obtain ⟨x', hsz', hsm', k5⟩ := HPP.out q (by omega)
  have i33 : (Tryd.prog.info? 39).map (·.size) = some x'.length := by rw [hsz']; kernel_rfl
  have HX : Hid (∀ X, Below wr.heap.size wr X → X.cell? ⟨g, 28, none⟩ = some (.slice (some ⟨b, off, none⟩) N tp) ∧ X.rangeAt b (off + q * 33) x' ∧ X.cell? ⟨b2, off2 + j, none⟩ = some (.int .u32 y)) := by
    intro X hX
    have hM := HS.out.2.2.after hX
    exact ⟨(HB.out X hM).2.2.2.2.2.1, (k5 X hM.below).1, HD.out X (HS.out.2.1.trans (hX.mono HS.out.2.1.size))⟩
  have HCC : Hid (∀ X, Below wr.heap.size wr X → Calls Tryd.prog 19 #[.agg x'.toArray, .int .u32 y] X fun e w' => e = .returned (.bool (owns (c.ten.getD q ten0) y)) ∧ Below wr.heap.size wr w') := by
    intro X hX
    have hM := HS.out.2.2.after hX
    exact (rowns_any (k5 X hM.below).2.1 hsm' y).mono (fun e w' hh => ⟨hh.1, hX.trans (hh.2.mono hX.size)⟩)
  have HY8 : Hid (owns (c.ten.getD q ten0) y = true → R = 92) := HY7.out q hql
  have HN8 : Hid (owns (c.ten.getD q ten0) y = false → ∀ p, p < q + 1 → owns (c.ten.getD p ten0) y = false) := by
    intro hn p hp
    rcases Nat.lt_or_ge p q with h | h
    · exact HS.out.1 p h
    · obtain rfl : p = q := by omega
      exact hn
  have HM8 : Hid (Below V3.heap.size V3 wr ∧ Mem W wr [(gt, .cells x.toArray 39 (0, 0)), (g, .cells A 28 (0, 0))]) := HS.out.2
  clear k5 hsm' hsz' HB HPP HQ6 HQ7 HQ8 HC HY7 HZ2 HD HS HI
  generalize owns (c.ten.getD q ten0) y = B at *
  cases B with
  | true =>
    obtain rfl := HY8.out rfl
    clear HY8 HN8
    go_upto_region 26 with fail
    refine wp_region_held_drew (S := fun X => X.cell? ⟨g, 28, none⟩ = some (.slice (some ⟨b, off, none⟩) N tp) ∧ X.rangeAt b (off + q * 33) x' ∧ X.cell? ⟨b2, off2 + j, none⟩ = some (.int .u32 y)) (by kernel_rfl) (HX.out _ (Below.refl _ _).drew) (fun hHeld => ?_)
    refine wpAnyH_take (i := 0) (v := ?_) rfl (by kernel_rfl) (by kernel_rfl) (by kernel_rfl) (fun _ _ _ h => h) (Or.inl ⟨by rfl, ?qy0⟩) (by assumption) ?qr0
    case qy0 =>
      intro w hSw
      (try dsimp only at hSw)
      go_simp
      all_goals with_reducible rfl
    try simp only [List.getElem_toArray, List.getElem_cons_zero, List.getElem_cons_succ, Act.put, List.setIfInBounds_toArray, List.set_cons_zero, List.set_cons_succ]
    refine wpAnyH_take (i := 1) (v := ?_) rfl (by kernel_rfl) (by kernel_rfl) (by kernel_rfl) (fun _ _ _ h => h) (Or.inl ⟨by rfl, ?qy1⟩) (by assumption) ?qr1
    case qy1 =>
      intro w hSw
      (try dsimp only at hSw)
      go_simp
      all_goals with_reducible rfl
    try simp only [List.getElem_toArray, List.getElem_cons_zero, List.getElem_cons_succ, Act.put, List.setIfInBounds_toArray, List.set_cons_zero, List.set_cons_succ]
    refine wpAnyH_take (i := 2) (v := ?_) rfl (by kernel_rfl) (by kernel_rfl) (by kernel_rfl) (fun _ _ _ h => h) (Or.inl ⟨by rfl, ?qy2⟩) (by assumption) ?qr2
    case qy2 =>
      intro w hSw
      (try dsimp only at hSw)
      go_simp
      all_goals with_reducible rfl
    try simp only [List.getElem_toArray, List.getElem_cons_zero, List.getElem_cons_succ, Act.put, List.setIfInBounds_toArray, List.set_cons_zero, List.set_cons_succ]
    refine wpAnyH_take (i := 3) (v := ?_) rfl (by kernel_rfl) (by kernel_rfl) (by kernel_rfl) (fun _ _ _ h => h) (Or.inl ⟨by rfl, ?qy3⟩) (by assumption) ?qr3
    case qy3 =>
      intro w hSw
      (try dsimp only at hSw)
      go_simp
      all_goals with_reducible rfl
    try simp only [List.getElem_toArray, List.getElem_cons_zero, List.getElem_cons_succ, Act.put, List.setIfInBounds_toArray, List.set_cons_zero, List.set_cons_succ]
    refine wpAnyH_take (i := 4) (v := _) rfl (by kernel_rfl) (by kernel_rfl) (by kernel_rfl) (fun _ _ _ h => h) (yieldsIf_load_mid (by rfl) _ _ rfl _ _ rfl _ _ ?qs4 Tryd.underlying39 rfl i33) (by assumption) ?qr4
    case qs4 =>
      intro w hSw
      (try dsimp only at hSw)
      go_split_ands
      assumption
    try simp only [List.getElem_toArray, List.getElem_cons_zero, List.getElem_cons_succ, Act.put, List.setIfInBounds_toArray, List.set_cons_zero, List.set_cons_succ]
    refine wpAnyH_take (i := 5) (v := ?_) rfl (by kernel_rfl) (by kernel_rfl) (by kernel_rfl) (fun _ _ _ h => h) (Or.inl ⟨by rfl, ?qy5⟩) (by assumption) ?qr5
    case qy5 =>
      intro w hSw
      (try dsimp only at hSw)
      go_simp
      all_goals with_reducible rfl
    try simp only [List.getElem_toArray, List.getElem_cons_zero, List.getElem_cons_succ, Act.put, List.setIfInBounds_toArray, List.set_cons_zero, List.set_cons_succ]
    refine wpAnyH_take (i := 6) (v := ?_) rfl (by kernel_rfl) (by kernel_rfl) (by kernel_rfl) (fun _ _ _ h => h) (Or.inl ⟨by rfl, ?qy6⟩) (by assumption) ?qr6
    case qy6 =>
      intro w hSw
      (try dsimp only at hSw)
      go_simp
      all_goals with_reducible rfl
    try simp only [List.getElem_toArray, List.getElem_cons_zero, List.getElem_cons_succ, Act.put, List.setIfInBounds_toArray, List.set_cons_zero, List.set_cons_succ]
    refine wpAnyH_take (i := 7) (v := ?_) rfl (by kernel_rfl) (by kernel_rfl) (by kernel_rfl) (fun _ _ _ h => h) (Or.inl ⟨by rfl, ?qy7⟩) (by assumption) ?qr7
    case qy7 =>
      intro w hSw
      (try dsimp only at hSw)
      go_simp
      all_goals with_reducible rfl
    try simp only [List.getElem_toArray, List.getElem_cons_zero, List.getElem_cons_succ, Act.put, List.setIfInBounds_toArray, List.set_cons_zero, List.set_cons_succ]
    refine wpAnyH_take (i := 8) (v := ?_) rfl (by kernel_rfl) (by kernel_rfl) (by kernel_rfl) (fun _ _ _ h => h) (Or.inl ⟨by rfl, ?qy8⟩) (by assumption) ?qr8
    case qy8 =>
      intro w hSw
      (try dsimp only at hSw)
      go_simp
      all_goals with_reducible rfl
    try simp only [List.getElem_toArray, List.getElem_cons_zero, List.getElem_cons_succ, Act.put, List.setIfInBounds_toArray, List.set_cons_zero, List.set_cons_succ]
    refine wpAnyH_ready (rs := [9]) (by kernel_rfl) (by simp) ?_
    refine AllReadyH.cons rfl (fun K hK => ?_) AllReadyH.nil
    go_simp
    with_reducible refine (HCC.out _ (by first | exact Below.refl _ _ | exact (Below.refl _ _).drew)).mono ?_
    rintro _ X2 ⟨rfl, hb2⟩
    try go_wp2_with fail
    refine hK.out _ _ (HX.out X2 hb2) (fun hHeld => ?_)
    clear hK K
    try simp only [List.getElem_toArray, List.getElem_cons_zero, List.getElem_cons_succ, Act.put, List.setIfInBounds_toArray, List.set_cons_zero, List.set_cons_succ]
    refine wpAnyH_done (by kernel_rfl) ?_ _
    go_wp2_with fail
    go_ret
    exact ⟨rfl, HM8.out.2.below.trans (hb2.mono HM8.out.2.below.size)⟩
  | false =>
    have HF := HN8.out rfl
    have HF2 : Hid ((∀ p, p < q + 1 → owns (c.ten.getD p ten0) y = false)) := HF
    clear HY8 HN8 HF
    go_upto_region 26 with fail
    refine wp_region_held_drew (S := fun X => X.cell? ⟨g, 28, none⟩ = some (.slice (some ⟨b, off, none⟩) N tp) ∧ X.rangeAt b (off + q * 33) x' ∧ X.cell? ⟨b2, off2 + j, none⟩ = some (.int .u32 y)) (by kernel_rfl) (HX.out _ (Below.refl _ _).drew) (fun hHeld => ?_)
    refine wpAnyH_take (i := 0) (v := ?_) rfl (by kernel_rfl) (by kernel_rfl) (by kernel_rfl) (fun _ _ _ h => h) (Or.inl ⟨by rfl, ?zy0⟩) (by assumption) ?zr0
    case zy0 =>
      intro w hSw
      (try dsimp only at hSw)
      go_simp
      all_goals with_reducible rfl
    try simp only [List.getElem_toArray, List.getElem_cons_zero, List.getElem_cons_succ, Act.put, List.setIfInBounds_toArray, List.set_cons_zero, List.set_cons_succ]
    refine wpAnyH_take (i := 1) (v := ?_) rfl (by kernel_rfl) (by kernel_rfl) (by kernel_rfl) (fun _ _ _ h => h) (Or.inl ⟨by rfl, ?zy1⟩) (by assumption) ?zr1
    case zy1 =>
      intro w hSw
      (try dsimp only at hSw)
      go_simp
      all_goals with_reducible rfl
    try simp only [List.getElem_toArray, List.getElem_cons_zero, List.getElem_cons_succ, Act.put, List.setIfInBounds_toArray, List.set_cons_zero, List.set_cons_succ]
    refine wpAnyH_take (i := 2) (v := ?_) rfl (by kernel_rfl) (by kernel_rfl) (by kernel_rfl) (fun _ _ _ h => h) (Or.inl ⟨by rfl, ?zy2⟩) (by assumption) ?zr2
    case zy2 =>
      intro w hSw
      (try dsimp only at hSw)
      go_simp
      all_goals with_reducible rfl
    try simp only [List.getElem_toArray, List.getElem_cons_zero, List.getElem_cons_succ, Act.put, List.setIfInBounds_toArray, List.set_cons_zero, List.set_cons_succ]
    refine wpAnyH_take (i := 3) (v := ?_) rfl (by kernel_rfl) (by kernel_rfl) (by kernel_rfl) (fun _ _ _ h => h) (Or.inl ⟨by rfl, ?zy3⟩) (by assumption) ?zr3
    case zy3 =>
      intro w hSw
      (try dsimp only at hSw)
      go_simp
      all_goals with_reducible rfl
    try simp only [List.getElem_toArray, List.getElem_cons_zero, List.getElem_cons_succ, Act.put, List.setIfInBounds_toArray, List.set_cons_zero, List.set_cons_succ]
    refine wpAnyH_take (i := 4) (v := _) rfl (by kernel_rfl) (by kernel_rfl) (by kernel_rfl) (fun _ _ _ h => h) (yieldsIf_load_mid (by rfl) _ _ rfl _ _ rfl _ _ ?zs4 Tryd.underlying39 rfl i33) (by assumption) ?zr4
    case zs4 =>
      intro w hSw
      (try dsimp only at hSw)
      go_split_ands
      assumption
    try simp only [List.getElem_toArray, List.getElem_cons_zero, List.getElem_cons_succ, Act.put, List.setIfInBounds_toArray, List.set_cons_zero, List.set_cons_succ]
    refine wpAnyH_take (i := 5) (v := ?_) rfl (by kernel_rfl) (by kernel_rfl) (by kernel_rfl) (fun _ _ _ h => h) (Or.inl ⟨by rfl, ?zy5⟩) (by assumption) ?zr5
    case zy5 =>
      intro w hSw
      (try dsimp only at hSw)
      go_simp
      all_goals with_reducible rfl
    try simp only [List.getElem_toArray, List.getElem_cons_zero, List.getElem_cons_succ, Act.put, List.setIfInBounds_toArray, List.set_cons_zero, List.set_cons_succ]
    refine wpAnyH_take (i := 6) (v := ?_) rfl (by kernel_rfl) (by kernel_rfl) (by kernel_rfl) (fun _ _ _ h => h) (Or.inl ⟨by rfl, ?zy6⟩) (by assumption) ?zr6
    case zy6 =>
      intro w hSw
      (try dsimp only at hSw)
      go_simp
      all_goals with_reducible rfl
    try simp only [List.getElem_toArray, List.getElem_cons_zero, List.getElem_cons_succ, Act.put, List.setIfInBounds_toArray, List.set_cons_zero, List.set_cons_succ]
    refine wpAnyH_take (i := 7) (v := ?_) rfl (by kernel_rfl) (by kernel_rfl) (by kernel_rfl) (fun _ _ _ h => h) (Or.inl ⟨by rfl, ?zy7⟩) (by assumption) ?zr7
    case zy7 =>
      intro w hSw
      (try dsimp only at hSw)
      go_simp
      all_goals with_reducible rfl
    try simp only [List.getElem_toArray, List.getElem_cons_zero, List.getElem_cons_succ, Act.put, List.setIfInBounds_toArray, List.set_cons_zero, List.set_cons_succ]
    refine wpAnyH_take (i := 8) (v := ?_) rfl (by kernel_rfl) (by kernel_rfl) (by kernel_rfl) (fun _ _ _ h => h) (Or.inl ⟨by rfl, ?zy8⟩) (by assumption) ?zr8
    case zy8 =>
      intro w hSw
      (try dsimp only at hSw)
      go_simp
      all_goals with_reducible rfl
    try simp only [List.getElem_toArray, List.getElem_cons_zero, List.getElem_cons_succ, Act.put, List.setIfInBounds_toArray, List.set_cons_zero, List.set_cons_succ]
    refine wpAnyH_ready (rs := [9]) (by kernel_rfl) (by simp) ?_
    refine AllReadyH.cons rfl (fun K hK => ?_) AllReadyH.nil
    go_simp
    with_reducible refine (HCC.out _ (by first | exact Below.refl _ _ | exact (Below.refl _ _).drew)).mono ?_
    rintro _ X2 ⟨rfl, hb2⟩
    try go_wp2_with fail
    refine hK.out _ _ (HX.out X2 hb2) (fun hHeld => ?_)
    clear hK K
    try simp only [List.getElem_toArray, List.getElem_cons_zero, List.getElem_cons_succ, Act.put, List.setIfInBounds_toArray, List.set_cons_zero, List.set_cons_succ]
    refine wpAnyH_done (by kernel_rfl) ?_ _
    have HF3 : Hid (Below V3.heap.size V3 X2 ∧ Mem W X2 [(gt, .cells x.toArray 39 (0, 0)), (g, .cells A 28 (0, 0))]) := ⟨HM8.out.1.trans (hb2.mono HM8.out.1.size), HM8.out.2.after hb2⟩
    clear HM8 hb2 HX HCC
    go_wp2_with fail
    go_roundw
    case rel => exact ⟨q + 1, by omega, by go_num, HF2.out, HF3.out⟩
    case measure => simp [intOf]; omega
end Go.Proofs.YtnddbklbgddblaaDoor

namespace Go.Proofs.YtnddbklbgddblaaDoor
open Go.RowKit
open La
open Ad
open Sm (IsBytes)
set_option linter.unusedVariables false
set_option linter.unusedSimpArgs false
set_option maxRecDepth 20000

/-- A tenant in box gb, beside a box of noughts. -/
def Tb (w V : World) (gb g4 : Nat) (t : Ten) : Prop := ∃ L, TAt gb [] [] 39 t L ∧ Mem w V (L ++ [(g4, .cells tz 39 (0, 0))])
theorem Tb.after {w V V' : World} {gb g4 : Nat} {t : Ten} (h : Tb w V gb g4 t) (hb : Below V.heap.size V V') : Tb w V' gb g4 t := by
  obtain ⟨L, h1, h2⟩ := h; exact ⟨L, h1, h2.after hb⟩
theorem Tb.below {w V : World} {gb g4 : Nat} {t : Ten} (h : Tb w V gb g4 t) : Below w.heap.size w V := by obtain ⟨L, h1, h2⟩ := h; exact h2.below
theorem tb_set {w V : World} {gb g4 : Nat} {t t' : Ten} {o : Nat} {v : Value} (h : Tb w V gb g4 t) (hs : ∀ L, TAt gb [] [] 39 t L → ∃ A R, L = (gb, .cells A 39 (0, 0)) :: R ∧ ([] : List Value).length + o < A.size ∧ TAt gb [] [] 39 t' ((gb, .cells (A.setIfInBounds (([] : List Value).length + o) v) 39 (0, 0)) :: R)) :
    (∃ v0, V.cell? ⟨gb, o, none⟩ = some v0) ∧ V.frozen? ⟨gb, o, none⟩ = false ∧ Tb w (V.setCell ⟨gb, o, none⟩ v) gb g4 t' := by
  obtain ⟨L, hT, hM⟩ := h
  obtain ⟨A, R, rfl, hlt, hT'⟩ := hs L hT
  rw [List.length_nil, Nat.zero_add] at hlt hT'
  refine ⟨⟨_, (hM.cell 0 rfl o).trans (Array.getElem?_eq_getElem hlt)⟩, hM.free 0 rfl o, _, hT', ?_⟩
  exact hM.set 0 rfl o v
theorem tb_pool {w V : World} {gb g4 : Nat} {t : Ten} (h : Tb w V gb g4 t) (x : Int) {gs : Nat} (hgs : V.heap.size = gs) :
    (∃ v0, (V.alloc (.cells #[.int .u32 x] 22 (0, 0))).cell? ⟨gb, 23, none⟩ = some v0) ∧ (V.alloc (.cells #[.int .u32 x] 22 (0, 0))).frozen? ⟨gb, 23, none⟩ = false ∧ Tb w ((V.alloc (.cells #[.int .u32 x] 22 (0, 0))).setCell ⟨gb, 23, none⟩ (.slice (some ⟨gs, 0, none⟩) 1 1)) gb g4 { t with pool := [x] } := by
  obtain ⟨L, ⟨hlen, p, s, q, B1, B2, B3, k1, k2, k3, rfl⟩, hM⟩ := h
  have hM1 : Mem w V (B1 ++ ((gb, .cells ([] ++ (tc t p s q ++ [])).toArray 39 (0, 0)) :: ((B2 ++ B3) ++ [(g4, .cells tz 39 (0, 0))]))) := hM.perm (by
    classical
    rw [List.perm_iff_count]
    intro z
    simp only [List.count_append, List.count_cons, List.count_nil]
    omega)
  have hM2 := hM1.dropA.front (.cells #[.int .u32 x] 22 (0, 0)) hgs.symm
  have hlt : 23 < ([] ++ (tc t p s q ++ [])).toArray.size := by rw [List.size_toArray]; simp [tc_len hlen]
  refine ⟨⟨_, (hM2.cell 1 rfl 23).trans (Array.getElem?_eq_getElem hlt)⟩, hM2.free 1 rfl 23, _, ⟨⟨hlen.key, hlen.vmac, hlen.host⟩, .slice (some ⟨gs, 0, none⟩) 1 1, s, q, [(gs, .cells #[.int .u32 x] 22 (0, 0))], B2, B3, owb_mk (T := 22) (sz := 1) (n := 1) (cap := 1) (g := gs) (X := [.int .u32 x]) (Y := []) rfl (Nat.le_refl _) (by unfold maxLen; omega) rfl, k2, k3, rfl⟩, ?_⟩
  have hM3 := hM2.set 1 rfl 23 (.slice (some ⟨gs, 0, none⟩) 1 1)
  have e : ([] ++ (tc t p s q ++ [])).toArray.setIfInBounds 23 (.slice (some ⟨gs, 0, none⟩) 1 1) = ([] ++ (tc { t with pool := [x] } (.slice (some ⟨gs, 0, none⟩) 1 1) (s) (q) ++ [])).toArray := by
    have := set_mid [] (tc t p s q) [] 23 (.slice (some ⟨gs, 0, none⟩) 1 1) (by rw [tc_len hlen]; omega)
    rw [List.length_nil, Nat.zero_add] at this
    rw [this]
    rw [tset (t' := { t with pool := [x] }) (p' := .slice (some ⟨gs, 0, none⟩) 1 1) (s' := s) (q' := q) hlen (by rintro n vn a b c d f g x y vt a1 b1 c1 d1 f1 g1 a2 b2 c2 d2 f2 g2 po lo hi fi st tw se qu ra bu rfl; rfl)]
  simp only [List.set_cons_succ, List.set_cons_zero] at hM3
  rw [e] at hM3
  exact hM3.perm (by
    classical
    rw [List.perm_iff_count]
    intro z
    simp only [List.count_append, List.count_cons, List.count_nil]
    omega)
theorem tb_stat {w V : World} {gb g4 : Nat} {t : Ten} (h : Tb w V gb g4 t) (x y : Int) {gs : Nat} (hgs : V.heap.size = gs) :
    (∃ v0, (V.alloc (.cells #[.int .u32 x, .int .u32 y] 52 (0, 0))).cell? ⟨gb, 27, none⟩ = some v0) ∧ (V.alloc (.cells #[.int .u32 x, .int .u32 y] 52 (0, 0))).frozen? ⟨gb, 27, none⟩ = false ∧ Tb w ((V.alloc (.cells #[.int .u32 x, .int .u32 y] 52 (0, 0))).setCell ⟨gb, 27, none⟩ (.slice (some ⟨gs, 0, none⟩) 1 1)) gb g4 { t with stat := [(x, y)] } := by
  obtain ⟨L, ⟨hlen, p, s, q, B1, B2, B3, k1, k2, k3, rfl⟩, hM⟩ := h
  have hM1 : Mem w V (B2 ++ ((gb, .cells ([] ++ (tc t p s q ++ [])).toArray 39 (0, 0)) :: ((B1 ++ B3) ++ [(g4, .cells tz 39 (0, 0))]))) := hM.perm (by
    classical
    rw [List.perm_iff_count]
    intro z
    simp only [List.count_append, List.count_cons, List.count_nil]
    omega)
  have hM2 := hM1.dropA.front (.cells #[.int .u32 x, .int .u32 y] 52 (0, 0)) hgs.symm
  have hlt : 27 < ([] ++ (tc t p s q ++ [])).toArray.size := by rw [List.size_toArray]; simp [tc_len hlen]
  refine ⟨⟨_, (hM2.cell 1 rfl 27).trans (Array.getElem?_eq_getElem hlt)⟩, hM2.free 1 rfl 27, _, ⟨⟨hlen.key, hlen.vmac, hlen.host⟩, p, .slice (some ⟨gs, 0, none⟩) 1 1, q, B1, [(gs, .cells #[.int .u32 x, .int .u32 y] 52 (0, 0))], B3, k1, owb_mk (T := 52) (sz := 2) (n := 1) (cap := 1) (g := gs) (X := [.int .u32 x, .int .u32 y]) (Y := []) rfl (Nat.le_refl _) (by unfold maxLen; omega) rfl, k3, rfl⟩, ?_⟩
  have hM3 := hM2.set 1 rfl 27 (.slice (some ⟨gs, 0, none⟩) 1 1)
  have e : ([] ++ (tc t p s q ++ [])).toArray.setIfInBounds 27 (.slice (some ⟨gs, 0, none⟩) 1 1) = ([] ++ (tc { t with stat := [(x, y)] } (p) (.slice (some ⟨gs, 0, none⟩) 1 1) (q) ++ [])).toArray := by
    have := set_mid [] (tc t p s q) [] 27 (.slice (some ⟨gs, 0, none⟩) 1 1) (by rw [tc_len hlen]; omega)
    rw [List.length_nil, Nat.zero_add] at this
    rw [this]
    rw [tset (t' := { t with stat := [(x, y)] }) (p' := p) (s' := .slice (some ⟨gs, 0, none⟩) 1 1) (q' := q) hlen (by rintro n vn a b c d f g x y vt a1 b1 c1 d1 f1 g1 a2 b2 c2 d2 f2 g2 po lo hi fi st tw se qu ra bu rfl; rfl)]
  simp only [List.set_cons_succ, List.set_cons_zero] at hM3
  rw [e] at hM3
  exact hM3.perm (by
    classical
    rw [List.perm_iff_count]
    intro z
    simp only [List.count_append, List.count_cons, List.count_nil]
    omega)
theorem tb_twi {w V : World} {gb g4 : Nat} {t : Ten} (h : Tb w V gb g4 t) (x y x2 y2 : Int) {gs : Nat} (hgs : V.heap.size = gs) :
    (∃ v0, (V.alloc (.cells #[.int .u32 x, .int .u32 y, .int .u32 x2, .int .u32 y2] 52 (0, 0))).cell? ⟨gb, 28, none⟩ = some v0) ∧ (V.alloc (.cells #[.int .u32 x, .int .u32 y, .int .u32 x2, .int .u32 y2] 52 (0, 0))).frozen? ⟨gb, 28, none⟩ = false ∧ Tb w ((V.alloc (.cells #[.int .u32 x, .int .u32 y, .int .u32 x2, .int .u32 y2] 52 (0, 0))).setCell ⟨gb, 28, none⟩ (.slice (some ⟨gs, 0, none⟩) 2 2)) gb g4 { t with twi := [(x, y), (x2, y2)] } := by
  obtain ⟨L, ⟨hlen, p, s, q, B1, B2, B3, k1, k2, k3, rfl⟩, hM⟩ := h
  have hM1 : Mem w V (B3 ++ ((gb, .cells ([] ++ (tc t p s q ++ [])).toArray 39 (0, 0)) :: ((B1 ++ B2) ++ [(g4, .cells tz 39 (0, 0))]))) := hM.perm (by
    classical
    rw [List.perm_iff_count]
    intro z
    simp only [List.count_append, List.count_cons, List.count_nil]
    omega)
  have hM2 := hM1.dropA.front (.cells #[.int .u32 x, .int .u32 y, .int .u32 x2, .int .u32 y2] 52 (0, 0)) hgs.symm
  have hlt : 28 < ([] ++ (tc t p s q ++ [])).toArray.size := by rw [List.size_toArray]; simp [tc_len hlen]
  refine ⟨⟨_, (hM2.cell 1 rfl 28).trans (Array.getElem?_eq_getElem hlt)⟩, hM2.free 1 rfl 28, _, ⟨⟨hlen.key, hlen.vmac, hlen.host⟩, p, s, .slice (some ⟨gs, 0, none⟩) 2 2, B1, B2, [(gs, .cells #[.int .u32 x, .int .u32 y, .int .u32 x2, .int .u32 y2] 52 (0, 0))], k1, k2, owb_mk (T := 52) (sz := 2) (n := 2) (cap := 2) (g := gs) (X := [.int .u32 x, .int .u32 y, .int .u32 x2, .int .u32 y2]) (Y := []) rfl (Nat.le_refl _) (by unfold maxLen; omega) rfl, rfl⟩, ?_⟩
  have hM3 := hM2.set 1 rfl 28 (.slice (some ⟨gs, 0, none⟩) 2 2)
  have e : ([] ++ (tc t p s q ++ [])).toArray.setIfInBounds 28 (.slice (some ⟨gs, 0, none⟩) 2 2) = ([] ++ (tc { t with twi := [(x, y), (x2, y2)] } (p) (s) (.slice (some ⟨gs, 0, none⟩) 2 2) ++ [])).toArray := by
    have := set_mid [] (tc t p s q) [] 28 (.slice (some ⟨gs, 0, none⟩) 2 2) (by rw [tc_len hlen]; omega)
    rw [List.length_nil, Nat.zero_add] at this
    rw [this]
    rw [tset (t' := { t with twi := [(x, y), (x2, y2)] }) (p' := p) (s' := s) (q' := .slice (some ⟨gs, 0, none⟩) 2 2) hlen (by rintro n vn a b c d f g x y vt a1 b1 c1 d1 f1 g1 a2 b2 c2 d2 f2 g2 po lo hi fi st tw se qu ra bu rfl; rfl)]
  simp only [List.set_cons_succ, List.set_cons_zero] at hM3
  rw [e] at hM3
  exact hM3.perm (by
    classical
    rw [List.perm_iff_count]
    intro z
    simp only [List.count_append, List.count_cons, List.count_nil]
    omega)
theorem tb_more {w V : World} {gb g4 : Nat} {t : Ten} (h : Tb w V gb g4 t) (hl : t.pool.length ≤ 900000) (y : Int) : ∃ pa pm pc, V.cell? ⟨gb, 23, none⟩ = some (.slice pa pm pc) ∧ (V.alloc (.cells #[.int .u32 y] 22 (0, 0))).cell? ⟨gb, 23, none⟩ = some (.slice pa pm pc) ∧ ∃ v4 V4, (Builtin.append_ #[35, 35] 35 #[.slice pa pm pc, .slice (some ⟨V.heap.size, 0, none⟩) 1 1]).run Tryd.prog (V.alloc (.cells #[.int .u32 y] 22)) = .ok v4 V4 ∧ (∃ a m c, v4 = .slice a m c) ∧ (∃ v0, V4.cell? ⟨gb, 23, none⟩ = some v0) ∧ (∀ j, V4.frozen? ⟨gb, j, none⟩ = false) ∧
      ∀ a m c, v4 = .slice a m c → Tb w (V4.setCell ⟨gb, 23, none⟩ v4) gb g4 { t with pool := t.pool ++ [y] } := by
  obtain ⟨L, hT, hM⟩ := h
  obtain ⟨A, p, B, R, hperm, hpA, hB, hlt, hnew⟩ := (tat_list hT w []).1
  rw [List.length_nil, Nat.zero_add] at hpA hlt hnew
  have hM2 : Mem w V ((gb, .cells A 39 (0, 0)) :: (B ++ (R ++ [(g4, .cells tz 39 (0, 0))]))) := (hM.perm (hperm.append_right _)).perm (by
    classical
    rw [List.perm_iff_count]
    intro z
    simp only [List.count_append, List.count_cons, List.count_nil]
    omega)
  obtain ⟨pa, pm, pc, rfl⟩ := owb_slice hB
  have hM3 := hM2.after ((Below.refl V.heap.size V).alloc (Nat.le_refl _) (.cells #[.int .u32 y] 22 (0, 0)))
  refine ⟨pa, pm, pc, (hM2.cell 0 rfl 23).trans hpA, (hM3.cell 0 rfl 23).trans hpA, ?_⟩
  obtain ⟨v4, V4, B4, hrun, hM4, hB4⟩ := mem_append (t := 35) (ty := 35) Tryd.underlying35 infoU rfl (by decide) (K := (gb, .cells A 39 (0, 0)) :: (R ++ [(g4, .cells tz 39 (0, 0))])) (hM3.perm (by
    classical
    rw [List.perm_iff_count]
    intro z
    simp only [List.count_append, List.count_cons, List.count_nil]
    omega)) hB ⟨V.heap.size, 0, none⟩ [.int .u32 y] rfl (fun j u hj => by
      rw [addr_mid, Nat.zero_add, World.cell?_alloc_new]
      simpa using hj) (by simp; rfl) (by omega) (by omega)
  have hM5 : Mem w V4 ((gb, .cells A 39 (0, 0)) :: (B4 ++ (R ++ [(g4, .cells tz 39 (0, 0))]))) := hM4.perm (by
    classical
    rw [List.perm_iff_count]
    intro z
    simp only [List.count_append, List.count_cons, List.count_nil]
    omega)
  refine ⟨v4, V4, hrun, owb_slice hB4, ⟨_, (hM5.cell 0 rfl 23).trans hpA⟩, hM5.free 0 rfl, fun a m c e => ?_⟩
  subst e
  refine ⟨_, hnew y a m c B4 hB4, ?_⟩
  have := hM5.set 0 rfl 23 (.slice a m c)
  rw [List.set_cons_zero] at this
  exact this.perm (by
    classical
    rw [List.perm_iff_count]
    intro z
    simp only [List.count_append, List.count_cons, List.count_nil]
    omega)
theorem and_low {k : IntKind} (j : Nat) (hj : j ≤ k.bits) (hk : ∀ n : Int, 0 ≤ n → n < 2 ^ j → k.wrap n = n) (i : Nat) (hi : i ≤ j) (m x : Int) (hm : m = 2 ^ i - 1) (h0 : 0 ≤ x) (h1 : x < 2 ^ j) : 0 ≤ bits .and k x m ∧ bits .and k x m ≤ m := by
  subst hm
  rw [bits_mask k j hj hk i hi x h0 h1]
  have hp : (0 : Int) < 2 ^ i := Int.pow_pos (by decide)
  exact ⟨Int.emod_nonneg _ (by omega), by have := Int.emod_lt_of_pos x hp; omega⟩
end Go.Proofs.YtnddbklbgddblaaDoor

namespace Go.Proofs.YtnddbklbgddblaaDoor
open Go.RowKit
open La
open Ad
set_option linter.unusedVariables false
set_option linter.unusedSimpArgs false
set_option maxRecDepth 20000
end Go.Proofs.YtnddbklbgddblaaDoor

