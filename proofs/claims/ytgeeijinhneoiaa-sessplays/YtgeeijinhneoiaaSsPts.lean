/-
  Sessions: lists of points; lychhelp.Points; the document's own Allows.
-/
import Derived.Test.YtgeeijinhneoiaaSsStep
import Derived.Test.YtgeeijinhneoiaaWhKit
import Derived.BigQuiet
import Derived.LoopN
namespace Go.Proofs.Ytgeeijinhneoiaa
open Go.RowKit
open Sm
open Po
open Wh
set_option linter.unusedVariables false
set_option linter.unusedSimpArgs false
set_option maxRecDepth 20000

namespace Ss
abbrev Pn := Int × Int
def pc (q : Pn) : List Value := [.int .u32 q.1, .int .u16 q.2]
def px (l : List Pn) : List (List Value) := l.map pc
theorem px_len (l : List Pn) : (px l).length = l.length := by simp [px]
theorem px_two {l : List Pn} : ∀ x ∈ px l, x.length = 2 := by
  intro x hx
  obtain ⟨y, -, rfl⟩ := List.mem_map.1 hx
  rfl
theorem px_ne {l : List Pn} : ∀ x ∈ px l, x ≠ [] := by
  intro x hx
  obtain ⟨y, -, rfl⟩ := List.mem_map.1 hx
  simp [pc]
theorem pf_app (xs ys : List Pn) : (px (xs ++ ys)).flatten = (px xs).flatten ++ (px ys).flatten := by simp [px]
theorem pf_len : ∀ (xs : List Pn), (px xs).flatten.length = xs.length * 2
  | [] => rfl
  | x :: xs => by
    have := pf_len xs
    show (pc x ++ (px xs).flatten).length = _
    rw [List.length_append, this, List.length_cons]
    show 2 + _ = _
    omega
theorem pf_one {xs : List Pn} : ∀ u ∈ (px xs).flatten, u.oneCell' = true := by
  intro u hu
  rw [List.mem_flatten] at hu
  obtain ⟨l, hl, hu⟩ := hu
  obtain ⟨m, -, rfl⟩ := List.mem_map.1 hl
  simp only [pc, List.mem_cons, List.not_mem_nil, or_false] at hu
  rcases hu with rfl | rfl <;> rfl
/-- A value that is a list of points. -/
abbrev PR (V : World) (v : Value) (l : List Pn) : Prop := Rw V 2 v (px l)
theorem pr_at {V : World} {v : Value} {l : List Pn} (h : PR V v l) : ∃ a c, v = .slice a l.length c ∧ l.length ≤ c ∧ c ≤ 9223372036854775807 ∧ ∀ i (hi : i < l.length), ∃ b off, a = some ⟨b, off, none⟩ ∧ ∀ W, Below V.heap.size V W → W.cell? ⟨b, off + i * 2, none⟩ = some (.int .u32 l[i].1) ∧ W.cell? ⟨b, off + i * 2 + 1, none⟩ = some (.int .u16 l[i].2) := by
  obtain ⟨a, c, rfl, h1, h2, -, h4⟩ := h
  rw [px_len] at h1 h4 ⊢
  refine ⟨a, c, rfl, h1, h2, fun i hi => ?_⟩
  rcases h4 with e | ⟨b, off, rfl, hc⟩
  · have : l = [] := by simpa [px] using e
    subst this
    cases hi
  · refine ⟨b, off, rfl, fun W hW => ?_⟩
    have e : (px l).getD i [] = pc l[i] := by simp [px, List.getD, List.getElem?_eq_getElem hi]
    have k := hc i hi
    rw [e] at k
    have k0 := k 0 _ rfl
    have k1 := k 1 _ rfl
    rw [Nat.add_zero] at k0
    exact ⟨by rw [hW.cell (p := ⟨b, _, none⟩) (cell_lt k0)]; exact k0, by rw [hW.cell (p := ⟨b, _, none⟩) (cell_lt k1)]; exact k1⟩
theorem take_one {α : Type} {l l' : List α} {i : Nat} (h1 : i < l.length) (h2 : i < l'.length) (h : l.take i = l'.take i) (e : l[i] = l'[i]) : l.take (i + 1) = l'.take (i + 1) := by
  rw [List.take_add_one, List.take_add_one, h, List.getElem?_eq_getElem h1, List.getElem?_eq_getElem h2, e]
set_option maxHeartbeats 4000000 in
theorem points_any {W : World} {va vb : Value} {l l' : List Pn} (ha : PR W va l) (hb : PR W vb l') :
    Calls Try.prog 33 #[va, vb] W fun e W' => e = .returned (.bool (decide (l = l'))) ∧ Below W.heap.size W W' := by
  obtain ⟨a, c, rfl, h1, h2, hx⟩ := pr_at ha
  obtain ⟨b, d, rfl, h3, h4, hy⟩ := pr_at hb
  obtain ⟨R, hR⟩ : ∃ R, decide (l = l') = R := ⟨_, rfl⟩
  rw [hR]
  have HR : Hid (decide (l = l') = R) := hR
  clear hR ha hb
  by_cases hl : l.length = l'.length
  · have HX : Hid (∀ V, Below W.heap.size W V → ∀ i (hi : i < l.length) (hi' : i < l'.length), ∃ b1 off b2 off2, a = some ⟨b1, off, none⟩ ∧ b = some ⟨b2, off2, none⟩ ∧ (V.cell? ⟨b1, off + i * 2, none⟩ = some (.int .u32 l[i].1) ∧ V.cell? ⟨b1, off + i * 2 + 1, none⟩ = some (.int .u16 l[i].2)) ∧ V.cell? ⟨b2, off2 + i * 2, none⟩ = some (.int .u32 l'[i].1) ∧ V.cell? ⟨b2, off2 + i * 2 + 1, none⟩ = some (.int .u16 l'[i].2)) := fun V hV i hi hi' => by
      obtain ⟨b1, off, e1, q1⟩ := hx i hi
      obtain ⟨b2, off2, e2, q2⟩ := hy i hi'
      exact ⟨b1, off, b2, off2, e1, e2, q1 V hV, q2 V hV⟩
    clear hx hy
    obtain ⟨n, hn⟩ : ∃ n, l.length = n := ⟨_, rfl⟩
    have hn' : l'.length = n := by omega
    have HN : Hid (l.length = n ∧ l'.length = n) := ⟨hn, hn'⟩
    rw [hn] at h1
    rw [hn'] at h3
    rw [hn, hn']
    have hnn : ((n : Int) != (n : Int)) = false := by simp
    clear hl hn hn'
    go_enter Try.func33, Try.ntmps33
    go_wp2_with fail
    go_loopw [5] (fun u5 w' => ∃ i : Nat, i ≤ n ∧ u5 = .int .i64 i ∧ Hid (Below W.heap.size W w' ∧ l.take i = l'.take i)) (fun u5 w' => n - (intOf u5).toNat)
    case atStart => exact ⟨0, Nat.zero_le _, rfl, Below.refl _ _, rfl⟩
    case round =>
      obtain ⟨i, hi, rfl, HI⟩ := hrel
      by_cases hlt : i < n
      · have k1 : (i : Int) < n := by omega
        have i1 : i < l.length := by rw [HN.out.1]; exact hlt
        have i2 : i < l'.length := by rw [HN.out.2]; exact hlt
        obtain ⟨b1, off, b2, off2, rfl, rfl, ⟨q1, q2⟩, q3, q4⟩ := HX.out wr HI.out.1 i i1 i2
        have HT : Hid (l[i] = l'[i] → l.take (i + 1) = l'.take (i + 1)) := fun e => take_one i1 i2 HI.out.2 e
        have HF : Hid (l[i] ≠ l'[i] → R = false) := fun e => by
          rw [← HR.out]
          exact decide_eq_false fun h => e (by subst h; rfl)
        have HB : Hid (∀ n, Below W.heap.size W (wr.drewN n)) := fun n => below_drewN HI.out.1 n
        clear HI HX
        generalize l[i] = x at *
        generalize l'[i] = y at *
        clear i1 i2
        obtain ⟨x1, x2⟩ := x
        obtain ⟨y1, y2⟩ := y
        simp only at q1 q2 q3 q4
        have heq := pt_eq x1 x2 y1 y2
        by_cases e : x1 = y1 ∧ x2 = y2
        · obtain ⟨rfl, rfl⟩ := e
          have HT2 : Hid (l.take (i + 1) = l'.take (i + 1)) := HT.out rfl
          simp only [BEq.rfl, Bool.and_self] at heq
          clear HT HF
          go_wp2_with fail
          go_quiet (fail)
          go_wp2_with fail
          go_roundw
          case rel => exact ⟨i + 1, by omega, by go_num, HB.out _, HT2.out⟩
          case measure => simp [intOf]; omega
        · have hne : (x1 == y1 && x2 == y2) = false := by
            rw [Bool.eq_false_iff]
            intro h
            simp at h
            exact e h
          rw [hne] at heq
          have HF2 : Hid (R = false) := HF.out fun h => e (Prod.mk.inj h)
          clear HT HF e hne
          go_wp2_with fail
          go_quiet (fail)
          go_wp2_with fail
          go_ret
          exact ⟨by rw [HF2.out]; rfl, HB.out _⟩
      · obtain rfl : i = n := by omega
        have k1 : ¬ ((i : Int) < i) := by omega
        have HT : Hid (R = true) := by
          show R = true
          rw [← HR.out]
          have h := HI.out.2
          have e1 : l.take i = l := List.take_of_length_le (by rw [HN.out.1]; exact Nat.le_refl _)
          have e2 : l'.take i = l' := List.take_of_length_le (by rw [HN.out.2]; exact Nat.le_refl _)
          rw [e1, e2] at h
          exact decide_eq_true h
        have HB : Hid (Below W.heap.size W wr) := HI.out.1
        clear HI HX
        go_wp2_with fail
        go_ret
        exact ⟨by rw [HT.out]; rfl, HB.out⟩
  · have HF : Hid (R = false) := by
      show R = false
      rw [← HR.out]
      exact decide_eq_false fun h => hl (by rw [h])
    have hnn : ((l.length : Int) != (l'.length : Int)) = true := by simp; omega
    clear hx hy
    go_enter Try.func33, Try.ntmps33
    go_wp2_with fail
    go_ret
    exact ⟨by rw [HF.out]; rfl, Below.refl _ _⟩
/-- Who may answer. -/
def alw (filter : Int) (l : List Pn) (p : Pn) : Bool :=
  if filter = 1 then l.any (fun x => decide (x.1 = p.1)) else if filter = 2 then l.any (fun x => decide (x = p)) else true
/-- One round of it. -/
def hit (filter : Int) (x p : Pn) : Bool := if filter = 1 then decide (x.1 = p.1) else decide (x = p)
theorem alw_any {filter : Int} (hf : filter = 1 ∨ filter = 2) (l : List Pn) (p : Pn) : alw filter l p = l.any (fun x => hit filter x p) := by
  unfold alw hit
  rcases hf with rfl | rfl
  · simp
  · simp
set_option maxHeartbeats 4000000 in
theorem rallows_any {W : World} {v : Value} {l : List Pn} (h : PR W v l) (filter : Int) (p : Pn) :
    Calls Try.prog 35 #[.int .i64 filter, v, .agg #[.int .u32 p.1, .int .u16 p.2]] W fun e W' => e = .returned (.bool (alw filter l p)) ∧ Below W.heap.size W W' := by
  obtain ⟨a, c, rfl, h1, h2, hx⟩ := pr_at h
  obtain ⟨p1, p2⟩ := p
  simp only
  obtain ⟨g, hg⟩ : ∃ g, W.heap.size = g := ⟨_, rfl⟩
  have HM0 : Hid (Mem W (W.alloc (.cells #[.int .u32 p1, .int .u16 p2] 34)) [(g, .cells #[.int .u32 p1, .int .u16 p2] 34 (0, 0))]) := (Mem.nil W).push1 hg.symm
  have HX : Hid (∀ i (hi : i < l.length), ∃ b off, a = some ⟨b, off, none⟩ ∧ ∀ V, Below W.heap.size W V → V.cell? ⟨b, off + i * 2, none⟩ = some (.int .u32 l[i].1) ∧ V.cell? ⟨b, off + i * 2 + 1, none⟩ = some (.int .u16 l[i].2)) := hx
  clear hx h
  by_cases hf : filter = 1 ∨ filter = 2
  · rw [alw_any hf]
    obtain ⟨R, hR⟩ : ∃ R, (l.any fun x => hit filter x (p1, p2)) = R := ⟨_, rfl⟩
    rw [hR]
    have HR0 : Hid (((l.drop 0).any fun x => hit filter x (p1, p2)) = R) := hR
    obtain ⟨n, hn⟩ : ∃ n, l.length = n := ⟨_, rfl⟩
    have HN : Hid (l.length = n) := hn
    rw [hn] at h1 ⊢
    clear hR hn
    rcases hf with rfl | rfl
    · go_enter Try.func35, Try.ntmps35
      go_upto_region 3 with fail
      refine wp_letter (fun X => Mem W X [(g, .cells #[.int .u32 p1, .int .u16 p2] 34 (0, 0))]) (by exact HM0.out) ?_
      intro V0 hM0
      try simp only [hg]
      have H0 : Hid (Mem W V0 [(g, .cells #[.int .u32 p1, .int .u16 p2] 34 (0, 0))]) := hM0
      clear HM0 hM0
      go_wp2_with fail
      go_loopw [7] (fun u7 w' => ∃ i : Nat, i ≤ n ∧ u7 = .int .i64 i ∧ Hid (Mem W w' [(g, .cells #[.int .u32 p1, .int .u16 p2] 34 (0, 0))] ∧ ((l.drop i).any fun x => hit 1 x (p1, p2)) = R)) (fun u7 w' => n - (intOf u7).toNat)
      case atStart => exact ⟨0, Nat.zero_le _, rfl, H0.out, HR0.out⟩
      case round =>
        obtain ⟨i, hi, rfl, HR⟩ := hrel
        clear H0 HR0
        by_cases hlt : i < n
        · have k1 : (i : Int) < n := by omega
          have i1 : i < l.length := by rw [HN.out]; exact hlt
          obtain ⟨b, off, rfl, hV⟩ := HX.out i i1
          obtain ⟨c0, c1⟩ := hV _ HR.out.1.below
          have q0 : wr.cell? ⟨g, 0, none⟩ = some (.int .u32 p1) := HR.out.1.cell 0 rfl 0
          have q1 : wr.cell? ⟨g, 1, none⟩ = some (.int .u16 p2) := HR.out.1.cell 0 rfl 1
          have hF := HR.out.2
          rw [List.drop_eq_getElem_cons i1, List.any_cons] at hF
          have HB : Hid (∀ n, Mem W (wr.drewN n) [(g, .cells #[.int .u32 p1, .int .u16 p2] 34 (0, 0))]) := fun n => HR.out.1.drewN n
          have HF : Hid ((hit 1 l[i] (p1, p2) || (l.drop (i + 1)).any fun x => hit 1 x (p1, p2)) = R) := hF
          clear HR hV HX hF
          generalize l[i] = x at *
          clear i1
          obtain ⟨x1, x2⟩ := x
          simp only at c0 c1
          by_cases e1 : x1 = p1
          · subst e1
            have z1 : (x1 == x1) = true := by simp
            have HE : Hid (R = true) := by
              show R = true
              rw [← HF.out]
              simp [hit]
            clear HF
            go_wp2_with fail
            go_quiet (fail)
            go_wp2_with fail
            go_ret
            exact ⟨by rw [HE.out]; rfl, (HB.out _).below⟩
          · have z1 : (x1 == p1) = false := by simpa using e1
            have HQ : Hid (((l.drop (i + 1)).any fun x => hit 1 x (p1, p2)) = R) := by
              have := HF.out
              have hh : hit 1 (x1, x2) (p1, p2) = false := by simp [hit, e1]
              rw [hh, Bool.false_or] at this
              exact this
            clear HF e1
            go_wp2_with fail
            go_quiet (fail)
            go_wp2_with fail
            go_roundw
            case rel => exact ⟨i + 1, by omega, by go_num, HB.out _, HQ.out⟩
            case measure => simp [intOf]; omega
        · have k1 : ¬ ((i : Int) < n) := by omega
          obtain rfl : i = n := by omega
          have hF := HR.out.2
          have hd : l.drop i = [] := by rw [← HN.out]; exact List.drop_length
          rw [hd] at hF
          have HE : Hid (R = false) := by rw [← hF]; rfl
          have HB : Hid (Below W.heap.size W wr) := HR.out.1.below
          clear HR HX hF hd
          go_wp2_with fail
          go_ret
          exact ⟨by rw [HE.out]; rfl, by first | exact HB.out | (rw [← hg]; exact HB.out)⟩
    · go_enter Try.func35, Try.ntmps35
      go_upto_region 3 with fail
      refine wp_letter (fun X => Mem W X [(g, .cells #[.int .u32 p1, .int .u16 p2] 34 (0, 0))]) (by exact HM0.out) ?_
      intro V0 hM0
      try simp only [hg]
      have H0 : Hid (Mem W V0 [(g, .cells #[.int .u32 p1, .int .u16 p2] 34 (0, 0))]) := hM0
      clear HM0 hM0
      go_wp2_with fail
      go_loopw [7] (fun u7 w' => ∃ i : Nat, i ≤ n ∧ u7 = .int .i64 i ∧ Hid (Mem W w' [(g, .cells #[.int .u32 p1, .int .u16 p2] 34 (0, 0))] ∧ ((l.drop i).any fun x => hit 2 x (p1, p2)) = R)) (fun u7 w' => n - (intOf u7).toNat)
      case atStart => exact ⟨0, Nat.zero_le _, rfl, H0.out, HR0.out⟩
      case round =>
        obtain ⟨i, hi, rfl, HR⟩ := hrel
        clear H0 HR0
        by_cases hlt : i < n
        · have k1 : (i : Int) < n := by omega
          have i1 : i < l.length := by rw [HN.out]; exact hlt
          obtain ⟨b, off, rfl, hV⟩ := HX.out i i1
          obtain ⟨c0, c1⟩ := hV _ HR.out.1.below
          have q0 : wr.cell? ⟨g, 0, none⟩ = some (.int .u32 p1) := HR.out.1.cell 0 rfl 0
          have q1 : wr.cell? ⟨g, 1, none⟩ = some (.int .u16 p2) := HR.out.1.cell 0 rfl 1
          have hF := HR.out.2
          rw [List.drop_eq_getElem_cons i1, List.any_cons] at hF
          have HB : Hid (∀ n, Mem W (wr.drewN n) [(g, .cells #[.int .u32 p1, .int .u16 p2] 34 (0, 0))]) := fun n => HR.out.1.drewN n
          have HF : Hid ((hit 2 l[i] (p1, p2) || (l.drop (i + 1)).any fun x => hit 2 x (p1, p2)) = R) := hF
          clear HR hV HX hF
          generalize l[i] = x at *
          clear i1
          obtain ⟨x1, x2⟩ := x
          simp only at c0 c1
          by_cases e1 : x1 = p1
          · subst e1
            have z1 : (x1 == x1) = true := by simp
            by_cases e2 : x2 = p2
            · subst e2
              have z2 : (x2 == x2) = true := by simp
              have HE : Hid (R = true) := by
                show R = true
                rw [← HF.out]
                simp [hit]
              clear HF
              go_wp2_with fail
              go_quiet (fail)
              go_wp2_with fail
              go_ret
              exact ⟨by rw [HE.out]; rfl, (HB.out _).below⟩
            · have z2 : (x2 == p2) = false := by simpa using e2
              have HQ : Hid (((l.drop (i + 1)).any fun x => hit 2 x (x1, p2)) = R) := by
                have := HF.out
                have hh : hit 2 (x1, x2) (x1, p2) = false := by simp [hit, e2]
                rw [hh, Bool.false_or] at this
                exact this
              clear HF e2
              go_wp2_with fail
              go_quiet (fail)
              go_wp2_with fail
              go_roundw
              case rel => exact ⟨i + 1, by omega, by go_num, HB.out _, HQ.out⟩
              case measure => simp [intOf]; omega
          · have z1 : (x1 == p1) = false := by simpa using e1
            have HQ : Hid (((l.drop (i + 1)).any fun x => hit 2 x (p1, p2)) = R) := by
              have := HF.out
              have hh : hit 2 (x1, x2) (p1, p2) = false := by simp [hit, e1]
              rw [hh, Bool.false_or] at this
              exact this
            clear HF e1
            go_wp2_with fail
            go_quiet (fail)
            go_wp2_with fail
            go_roundw
            case rel => exact ⟨i + 1, by omega, by go_num, HB.out _, HQ.out⟩
            case measure => simp [intOf]; omega
        · have k1 : ¬ ((i : Int) < n) := by omega
          obtain rfl : i = n := by omega
          have hF := HR.out.2
          have hd : l.drop i = [] := by rw [← HN.out]; exact List.drop_length
          rw [hd] at hF
          have HE : Hid (R = false) := by rw [← hF]; rfl
          have HB : Hid (Below W.heap.size W wr) := HR.out.1.below
          clear HR HX hF hd
          go_wp2_with fail
          go_ret
          exact ⟨by rw [HE.out]; rfl, by first | exact HB.out | (rw [← hg]; exact HB.out)⟩
  · have hr : alw filter l (p1, p2) = true := by
      unfold alw
      rw [if_neg fun e => hf (Or.inl e), if_neg fun e => hf (Or.inr e)]
    rw [hr]
    have f1 : (filter != 1) = true := by simp; exact fun e => hf (Or.inl e)
    have f2 : (filter != 2) = true := by simp; exact fun e => hf (Or.inr e)
    clear HX hr hf
    go_enter Try.func35, Try.ntmps35
    go_wp2_with fail
    go_ret
    exact ⟨rfl, HM0.out.below⟩
end Ss
end Go.Proofs.Ytgeeijinhneoiaa
