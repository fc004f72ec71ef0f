/-
  Sessions: the document's own Peer.
-/
import Derived.Test.YtgeeijinhneoiaaSsPts
namespace Go.Proofs.Ytgeeijinhneoiaa
open Go.RowKit
open Sm
open Po
open Wh
set_option linter.unusedVariables false
set_option linter.unusedSimpArgs false
set_option maxRecDepth 20000

namespace Ss
/-- Without one; with it behind; the last eight. -/
def wout (p : Pn) (l : List Pn) : List Pn := l.filter fun x => decide (x ≠ p)
def peer (l : List Pn) (p : Pn) : List Pn := (wout p l ++ [p]).drop ((wout p l ++ [p]).length - 8)
theorem wout_len (p : Pn) (l : List Pn) : (wout p l).length ≤ l.length := List.length_filter_le _ _
theorem peer_len (l : List Pn) (p : Pn) : (peer l p).length ≤ 8 := by
  unfold peer
  rw [List.length_drop]
  omega
theorem wout_yes {p x : Pn} {l : List Pn} {i : Nat} (hi : i < l.length) (hx : l[i] = x) (h : x ≠ p) : wout p (l.take (i + 1)) = wout p (l.take i) ++ [x] := by
  unfold wout
  rw [List.take_add_one, List.getElem?_eq_getElem hi, Option.toList_some, List.filter_append, hx]
  simp [h]
theorem wout_no {p : Pn} {l : List Pn} {i : Nat} (hi : i < l.length) (hx : l[i] = p) : wout p (l.take (i + 1)) = wout p (l.take i) := by
  unfold wout
  rw [List.take_add_one, List.getElem?_eq_getElem hi, Option.toList_some, List.filter_append, hx]
  simp
theorem infoPt : (Try.prog.info? 34).map (fun i => (i.zero, i.size, i.bytes)) = some (some (.agg #[.int .u32 0, .int .u16 0]), 2, 8) := by kernel_rfl
theorem bsl_pt (a b : Int) (X : World) : (Instr.buildSlice 37 1 #[(0, .agg #[.int .u32 a, .int .u16 b])]).run Try.prog X = .ok (.slice (some ⟨X.heap.size, 0, none⟩) 1 1) (X.alloc (.cells #[.int .u32 a, .int .u16 b] 34)) := by kernel_rfl
theorem pf_drop : ∀ (xs : List Pn) (k : Nat), (px (xs.drop k)).flatten = (px xs).flatten.drop (k * 2)
  | xs, 0 => by simp
  | [], k + 1 => by simp [px]
  | x :: xs, k + 1 => by
    rw [List.drop_succ_cons, pf_drop xs k]
    show _ = (pc x ++ (px xs).flatten).drop _
    have e1 : (pc x).drop ((k + 1) * 2) = [] := List.drop_eq_nil_of_le (by show 2 ≤ _; omega)
    rw [List.drop_append, e1, List.nil_append, show (pc x).length = 2 from rfl, show (k + 1) * 2 - 2 = k * 2 by omega]
/-- s[k:]. -/
theorem pslice_from (V : World) (a : Option Addr) (n c k : Nat) (hk : k ≤ n) : (Instr.slice 37 (.slice a n c) (some (.int .i64 k)) none none).run Try.prog V = .ok (.slice (if c = k then a else a.map (·.add (k * 2))) (n - k) (c - k)) V := by
  have hT : Try.prog.underlying 37 = some (.slice (Try.prog.elem 37)) := by kernel_rfl
  rw [run_slice_l V 37 a n c hT .i64 k (by omega) (by omega)]
  have hs : (sizeOf (Try.prog.elem 37)).run Try.prog V = .ok 2 V := by kernel_rfl
  simp only [Result.andThen_ok, hs, sliced, Int.toNat_natCast]
/-- A list in a block of its own, as one that lies somewhere. -/
theorem slb_slf {T : TypeId} {sz n : Nat} {v : Value} {xs : List Value} {B : List (Nat × Obj)} (h : SlB T sz v n xs B) : SlF T sz v n xs B := by
  obtain ⟨hx, ⟨rfl, e0, rfl⟩ | ⟨g, cap, cur, rfl, rfl, h1, h2, h3, h4⟩⟩ := h
  · subst e0
    have : xs = [] := List.eq_nil_of_length_eq_zero (by simpa using hx)
    subst this
    exact SlF.nil _ _ _
  · exact ⟨hx, _, cap, rfl, h1, h2, nofun, Or.inr ⟨g, 0, cur, rfl, List.mem_singleton.2 rfl, by simpa using h4⟩⟩
theorem slf_tail {xs : List Pn} {a : Option Addr} {cap : Nat} {B : List (Nat × Obj)} {T : TypeId} (h : SlF T 2 (.slice a xs.length cap) xs.length (px xs).flatten B) {k : Nat} (hk : k ≤ xs.length) : SlF T 2 (.slice (if cap = k then a else a.map (·.add (k * 2))) (xs.length - k) (cap - k)) (xs.drop k).length (px (xs.drop k)).flatten B := by
  obtain ⟨h1, a', cap', e, h3, h4, h5, h6⟩ := h
  simp only [Value.slice.injEq, true_and] at e
  obtain ⟨rfl, rfl⟩ := e
  have hl : (xs.drop k).length = xs.length - k := List.length_drop
  refine ⟨pf_len _, _, cap - k, by rw [hl], by omega, by omega, fun e => ?_, ?_⟩
  · split at e
    · have := h5 e; omega
    · cases a with
      | none => have := h5 rfl; omega
      | some a => cases e
  · by_cases h0 : (xs.drop k).length = 0
    · exact Or.inl h0
    · rcases h6 with h6 | ⟨g, off, cur, e1, e2, e3⟩
      · omega
      · refine Or.inr ⟨g, off + k * 2, cur, ?_, e2, ?_⟩
        · rw [if_neg (by omega), e1, Option.map_some, Addr.add_mid]
        · rw [pf_drop, ← e3, hl, List.drop_take, List.drop_drop]
          congr 1
          omega
/-- One point more behind a list of the call's own. -/
theorem slb_pt {w V : World} {l : List Pn} {v : Value} {D L : List (Nat × Obj)} (x : Pn) {g : Nat} (h : SlB 34 2 v l.length (px l).flatten D) (hM : Mem w V (D ++ L)) (hg : V.heap.size = g) (hl : l.length ≤ 100000) :
    ∃ v' V' D', (Builtin.append_ #[37, 37] 37 #[v, .slice (some ⟨g, 0, none⟩) 1 1]).run Try.prog (V.alloc (.cells #[.int .u32 x.1, .int .u16 x.2] 34)) = .ok v' V' ∧ Mem w V' (D' ++ L) ∧ SlB 34 2 v' (l ++ [x]).length (px (l ++ [x])).flatten D' := by
  have hA := hM.after ((Below.refl _ _).alloc (Nat.le_refl _) (.cells #[.int .u32 x.1, .int .u16 x.2] 34))
  obtain ⟨v', V', D', h1, h2, h3⟩ := slb_append (ty := 37) (V := V.alloc (.cells #[.int .u32 x.1, .int .u16 x.2] 34)) Try.underlying37 infoPt (by kernel_rfl) (by decide) h hA ⟨g, 0, none⟩ 1 1 [.int .u32 x.1, .int .u16 x.2] rfl (fun j u hj => by
    subst hg
    match j, hj with
    | 0, hj => simp at hj; subst hj; simp [Addr.add, World.cell?_alloc_new]
    | 1, hj => simp at hj; subst hj; simp [Addr.add, World.cell?_alloc_new]
    | j + 2, hj => simp at hj) (by intro u hu; simp at hu; rcases hu with rfl | rfl <;> rfl) (by simp only [maxLen]; omega) (by omega)
  refine ⟨v', V', D', h1, h2, ?_⟩
  rw [List.length_append, pf_app]
  exact h3
set_option maxHeartbeats 8000000 in
theorem rpeer_any {W : World} {v : Value} {l : List Pn} (h : PR W v l) (hl : l.length ≤ 1000) (p : Pn) :
    Calls Try.prog 32 #[v, .agg #[.int .u32 p.1, .int .u16 p.2]] W fun e W' => ∃ v', e = .returned v' ∧ ∃ D, SlF 34 2 v' (peer l p).length (px (peer l p)).flatten D ∧ Mem W W' D := by
  obtain ⟨a, c, rfl, h1, h2, hx⟩ := pr_at h
  obtain ⟨p1, p2⟩ := p
  simp only
  obtain ⟨g, hg⟩ : ∃ g, W.heap.size = g := ⟨_, rfl⟩
  have HM0 : Hid (Mem W (W.alloc (.cells #[.int .u32 p1, .int .u16 p2] 34)) ([] ++ [(g, .cells #[.int .u32 p1, .int .u16 p2] 34 (0, 0))])) := (Mem.nil W).push1 hg.symm
  have HX : Hid (∀ i (hi : i < l.length), ∃ b off, a = some ⟨b, off, none⟩ ∧ ∀ V, Below W.heap.size W V → V.cell? ⟨b, off + i * 2, none⟩ = some (.int .u32 l[i].1) ∧ V.cell? ⟨b, off + i * 2 + 1, none⟩ = some (.int .u16 l[i].2)) := hx
  obtain ⟨n, hn⟩ : ∃ n, l.length = n := ⟨_, rfl⟩
  have HN : Hid (l.length = n) := hn
  rw [hn] at h1 hl ⊢
  clear hx h hn
  go_enter Try.func32, Try.ntmps32
  go_upto_region 1 with fail
  refine wp_letter (fun X => Mem W X ([] ++ [(g, .cells #[.int .u32 p1, .int .u16 p2] 34 (0, 0))])) (by exact HM0.out) ?_
  intro V0 hM0
  try simp only [hg]
  have H0 : Hid (Mem W V0 ([] ++ [(g, .cells #[.int .u32 p1, .int .u16 p2] 34 (0, 0))])) := hM0
  clear HM0 hM0
  go_wp2_with fail
  go_loopw [5, 6] (fun u5 u6 w' => ∃ i : Nat, i ≤ n ∧ u6 = .int .i64 i ∧ Hid (∃ D, SlB 34 2 u5 (wout (p1, p2) (l.take i)).length (px (wout (p1, p2) (l.take i))).flatten D ∧ Mem W w' (D ++ [(g, .cells #[.int .u32 p1, .int .u16 p2] 34 (0, 0))]))) (fun u5 u6 w' => n - (intOf u6).toNat)
  case atStart => exact ⟨0, Nat.zero_le _, rfl, [], SlB.nil _ _, H0.out⟩
  case round =>
    obtain ⟨i, hi, rfl, HR⟩ := hrel
    clear H0
    obtain ⟨D, hD, hM⟩ := HR.out
    have q0 : wr.cell? ⟨g, 0, none⟩ = some (.int .u32 p1) := by
      have := (hM.perm List.perm_append_comm).cell 0 rfl 0
      exact this
    have q1 : wr.cell? ⟨g, 1, none⟩ = some (.int .u16 p2) := by
      have := (hM.perm List.perm_append_comm).cell 0 rfl 1
      exact this
    have hwl := wout_len (p1, p2) (l.take i)
    have htl : (l.take i).length ≤ i := by rw [List.length_take]; omega
    by_cases hlt : i < n
    · have k1 : (i : Int) < n := by omega
      have i1 : i < l.length := by rw [HN.out]; exact hlt
      obtain ⟨b, off, rfl, hV⟩ := HX.out i i1
      obtain ⟨c0, c1⟩ := hV _ hM.below
      have hyes := fun x hx => wout_yes (p := (p1, p2)) (x := x) i1 hx
      have hno := wout_no (p := (p1, p2)) i1
      have HV : Hid (∀ V, Below W.heap.size W V → V.cell? ⟨b, off + i * 2, none⟩ = some (.int .u32 l[i].1) ∧ V.cell? ⟨b, off + i * 2 + 1, none⟩ = some (.int .u16 l[i].2)) := hV
      clear hV HR HX
      generalize l[i] = x at *
      clear i1
      obtain ⟨x1, x2⟩ := x
      simp only at c0 c1
      have heq := pt_eq x1 x2 p1 p2
      obtain ⟨ua, uc, rfl, v1, v2⟩ := hD.slice
      by_cases e1 : x1 = p1 ∧ x2 = p2
      · obtain ⟨rfl, rfl⟩ := e1
        simp only [BEq.rfl, Bool.and_self] at heq
        have HD : Hid (∀ k, ∃ D, SlB 34 2 (.slice ua (wout (x1, x2) (l.take i)).length uc) (wout (x1, x2) (l.take (i + 1))).length (px (wout (x1, x2) (l.take (i + 1)))).flatten D ∧ Mem W (wr.drewN k) (D ++ [(g, .cells #[.int .u32 x1, .int .u16 x2] 34 (0, 0))])) := fun k => ⟨D, by rw [hno rfl]; exact hD, hM.drewN k⟩
        generalize (wout (x1, x2) (l.take i)).length = nd at *
        clear hD hM hyes hno HV
        go_wp2_with fail
        go_quiet (fail)
        go_wp2_with fail
        go_roundw
        case rel => exact ⟨i + 1, by omega, by go_num, HD.out _⟩
        case measure => simp [intOf]; omega
      · have hne : (x1 == p1 && x2 == p2) = false := by
          rw [Bool.eq_false_iff]
          intro h
          simp at h
          exact e1 h
        rw [hne] at heq
        have hy := hyes (x1, x2) rfl (fun h => e1 (Prod.mk.inj h))
        have HD : Hid (SlB 34 2 (.slice ua (wout (p1, p2) (l.take i)).length uc) (wout (p1, p2) (l.take i)).length (px (wout (p1, p2) (l.take i))).flatten D ∧ ∀ k, Mem W (wr.drewN k) (D ++ [(g, .cells #[.int .u32 p1, .int .u16 p2] 34 (0, 0))])) := ⟨hD, fun k => hM.drewN k⟩
        have HY : Hid (wout (p1, p2) (l.take (i + 1)) = wout (p1, p2) (l.take i) ++ [(x1, x2)]) := hy
        obtain ⟨nd, hnd⟩ : ∃ nd, (wout (p1, p2) (l.take i)).length = nd := ⟨_, rfl⟩
        have HND : Hid ((wout (p1, p2) (l.take i)).length = nd) := hnd
        rw [hnd]
        clear hD hM hyes hno hy e1 hne hnd
        go_wp2_with fail
        go_quiet (fail)
        go_upto_region 6 with fail
        refine wp_letter (fun X => Mem W X (D ++ [(g, .cells #[.int .u32 p1, .int .u16 p2] 34 (0, 0))])) (by exact HD.out.2 _) ?_
        intro X hX
        obtain ⟨d0, d1⟩ := HV.out X hX.below
        try simp only at d0 d1
        obtain ⟨h, hh⟩ : ∃ h, X.heap.size = h := ⟨_, rfl⟩
        have hbs := bsl_pt x1 x2 X
        rw [hh] at hbs
        obtain ⟨v', V', D', hap, hM2, hS2⟩ := slb_pt (x1, x2) HD.out.1 hX hh (by omega)
        rw [HND.out] at hap
        rw [← HY.out] at hS2
        obtain ⟨ra, rc, rfl, r1, r2⟩ := hS2.slice
        have HZ : Hid (∃ D, SlB 34 2 (.slice ra (wout (p1, p2) (l.take (i + 1))).length rc) (wout (p1, p2) (l.take (i + 1))).length (px (wout (p1, p2) (l.take (i + 1)))).flatten D ∧ Mem W V' (D ++ [(g, .cells #[.int .u32 p1, .int .u16 p2] 34 (0, 0))])) := ⟨D', hS2, hM2⟩
        obtain ⟨nd2, hnd2⟩ : ∃ nd2, (wout (p1, p2) (l.take (i + 1))).length = nd2 := ⟨_, rfl⟩
        have HN2 : Hid ((wout (p1, p2) (l.take (i + 1))).length = nd2) := hnd2
        rw [hnd2] at hap
        clear hnd2 hX hM2 hS2 HD HY HND HV q0 q1 c0 c1 r1
        go_wp2_with (first | (refine wpList_append_run (.tmp 19) (.tmp 24) 37 37 rfl hap rfl (by rfl) (by simp [Act.eval]) (by simp [Act.eval]) ?_) | fail)
        go_roundw
        case rel => exact ⟨i + 1, by omega, by go_num, by rw [← HN2.out]; exact HZ.out⟩
        case measure => simp [intOf]; omega
    · have k1 : ¬ ((i : Int) < n) := by omega
      obtain rfl : i = n := by omega
      have ht : l.take i = l := by rw [← HN.out, List.take_length]
      rw [ht] at hD hwl
      have hll : l.length = i := HN.out
      obtain ⟨ua, uc, rfl, v1, v2⟩ := hD.slice
      have HD : Hid (SlB 34 2 (.slice ua (wout (p1, p2) l).length uc) (wout (p1, p2) l).length (px (wout (p1, p2) l)).flatten D ∧ Mem W wr (D ++ [(g, .cells #[.int .u32 p1, .int .u16 p2] 34 (0, 0))])) := ⟨hD, hM⟩
      obtain ⟨h, hh⟩ : ∃ h, wr.heap.size = h := ⟨_, rfl⟩
      have hbs := bsl_pt p1 p2 wr
      rw [hh] at hbs
      obtain ⟨v', V', D', hap, hM2, hS2⟩ := slb_pt (p1, p2) HD.out.1 HD.out.2 hh (by omega)
      obtain ⟨ra, rc, rfl, r1, r2⟩ := hS2.slice
      obtain ⟨O, hO⟩ : ∃ O, wout (p1, p2) l ++ [(p1, p2)] = O := ⟨_, rfl⟩
      have hol : O.length = (wout (p1, p2) l).length + 1 := by rw [← hO]; simp
      have hpe : peer l (p1, p2) = O.drop (O.length - 8) := by unfold peer; rw [hO]
      rw [hO] at hap hS2 r1
      obtain ⟨m, hm⟩ : ∃ m, O.length - 8 = m := ⟨_, rfl⟩
      rw [hm] at hpe
      have HPE : Hid (peer l (p1, p2) = O.drop m) := hpe
      obtain ⟨nd, hnd⟩ : ∃ nd, (wout (p1, p2) l).length = nd := ⟨_, rfl⟩
      rw [hnd] at hap hwl hol ⊢
      have hMD : Mem W V' D' := by
        have := hM2.perm List.perm_append_comm
        exact this.sub
      clear hD hM HR HX HD ht hO hpe hM2 hnd hll
      by_cases h8 : 8 < O.length
      · have k2 : (8 : Int) < O.length := by omega
        have w1 : IntKind.i64.wrap ((O.length : Int) - 8) = (m : Int) := by rw [IntKind.wrap_i64]; omega
        have hsl := pslice_from V' ra O.length rc m (by omega)
        have HZ : Hid (SlF 34 2 (.slice (if rc = m then ra else ra.map (·.add (m * 2))) (O.length - m) (rc - m)) (O.drop m).length (px (O.drop m)).flatten D' ∧ Mem W V' D') := ⟨slf_tail (slb_slf hS2) (by omega), hMD⟩
        obtain ⟨ra2, hra2⟩ : ∃ ra2, (if rc = m then ra else ra.map (·.add (m * 2))) = ra2 := ⟨_, rfl⟩
        rw [hra2] at hsl HZ
        obtain ⟨nO, hnO⟩ : ∃ nO, O.length = nO := ⟨_, rfl⟩
        rw [hnO] at hap hsl w1 k2 HZ
        clear hS2 hMD hra2 hol hm hnO h8 r1
        go_wp2_with (first | (refine wpList_append_run (.tmp 26) (.tmp 28) 37 37 rfl hap rfl (by rfl) (by simp [Act.eval]) (by simp [Act.eval]) ?_) | fail)
        go_ret
        exact ⟨_, rfl, D', by rw [HPE.out]; exact HZ.out.1, HZ.out.2⟩
      · have k2 : ¬ (8 : Int) < O.length := by omega
        obtain rfl : m = 0 := by omega
        have HZ : Hid (SlF 34 2 (.slice ra O.length rc) O.length (px O).flatten D' ∧ Mem W V' D') := ⟨slb_slf hS2, hMD⟩
        obtain ⟨nO, hnO⟩ : ∃ nO, O.length = nO := ⟨_, rfl⟩
        have HNO : Hid (O.length = nO) := hnO
        rw [hnO] at hap k2
        clear hS2 hMD hol hm h8 r1 hnO
        go_wp2_with (first | (refine wpList_append_run (.tmp 26) (.tmp 28) 37 37 rfl hap rfl (by rfl) (by simp [Act.eval]) (by simp [Act.eval]) ?_) | fail)
        go_ret
        have h1 := HZ.out.1
        rw [HNO.out] at h1
        exact ⟨_, rfl, D', by rw [HPE.out, List.drop_zero, HNO.out]; exact h1, HZ.out.2⟩
end Ss
end Go.Proofs.Ytgeeijinhneoiaa
