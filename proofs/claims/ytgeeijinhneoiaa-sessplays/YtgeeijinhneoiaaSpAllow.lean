/-
  Sessions, the program's own: Allows.
-/
import Derived.Test.YtgeeijinhneoiaaSpPeer
namespace Go.Proofs.Ytgeeijinhneoiaa
open Go.RowKit
open Sm
open Po
open Wh
set_option linter.unusedVariables false
set_option linter.unusedSimpArgs false
set_option maxRecDepth 20000

namespace Ss
def IxQ (R : Bool) (W : World) (e : Ending) (W' : World) : Prop := (∃ r : Int, e = .returned (.int .i64 r) ∧ (decide (0 ≤ r)) = R) ∧ Below W.heap.size W W'
theorem hitf_any {W : World} (x1 x2 : Int) {g : Nat} {p1 : Int} (h : W.cell? ⟨g, 0, none⟩ = some (.int .u32 p1)) : Calls Try.prog 47 #[.agg #[.int .u32 x1, .int .u16 x2], .pointer (some ⟨g, 0, none⟩)] W fun e W' => e = .returned (.bool (x1 == p1)) ∧ Below W.heap.size W W' := by
  have hb : Below W.heap.size W (W.alloc (.cells #[.int .u32 x1, .int .u16 x2] 34)) := (Below.refl _ _).alloc (Nat.le_refl _) _
  have h' : (W.alloc (.cells #[.int .u32 x1, .int .u16 x2] 34)).cell? ⟨g, 0, none⟩ = some (.int .u32 p1) := by rw [World.cell?_alloc_some _ _ _ (by rw [h]; rfl)]; exact h
  have HB : Hid (Below W.heap.size W (W.alloc (.cells #[.int .u32 x1, .int .u16 x2] 34))) := hb
  obtain ⟨r, hr⟩ : ∃ r, (x1 == p1) = r := ⟨_, rfl⟩
  rw [hr]
  clear hb
  go_enter Try.func47, Try.ntmps47
  go_wp2_with fail
  go_ret
  exact ⟨by rw [← hr]; rfl, HB.out⟩
set_option maxHeartbeats 4000000 in
theorem ixf_any {W : World} {v : Value} {l : List Pn} (h : PR W v l) {g : Nat} {p1 p2 : Int} (hp : W.cell? ⟨g, 0, none⟩ = some (.int .u32 p1)) :
    Calls Try.prog 56 #[v, .func (.func 47) #[] #[.pointer (some ⟨g, 0, none⟩)]] W (IxQ (l.any fun x => hit 1 x (p1, p2)) W) := by
  obtain ⟨a, c, rfl, h1, h2, hx⟩ := pr_at h
  have HX : Hid (∀ i (hi : i < l.length), ∃ b off, a = some ⟨b, off, none⟩ ∧ ∀ V, Below W.heap.size W V → V.cell? ⟨b, off + i * 2, none⟩ = some (.int .u32 l[i].1) ∧ V.cell? ⟨b, off + i * 2 + 1, none⟩ = some (.int .u16 l[i].2)) := hx
  have hgl := cell_lt hp
  have HP : Hid (W.cell? ⟨g, 0, none⟩ = some (.int .u32 p1)) := hp
  obtain ⟨R, hR⟩ : ∃ R, (l.any fun x => hit 1 x (p1, p2)) = R := ⟨_, rfl⟩
  rw [hR]
  have HR0 : Hid (((l.drop 0).any fun x => hit 1 x (p1, p2)) = R) := hR
  obtain ⟨n, hn⟩ : ∃ n, l.length = n := ⟨_, rfl⟩
  have HN : Hid (l.length = n) := hn
  rw [hn] at h1 ⊢
  clear hx h hR hn hp
  go_enter Try.func56, Try.ntmps56
  go_wp2_with fail
  go_loopw [8] (fun u8 w' => ∃ i : Nat, i ≤ n ∧ u8 = .int .i64 i ∧ Hid (Below W.heap.size W w' ∧ ((l.drop i).any fun x => hit 1 x (p1, p2)) = R)) (fun u8 w' => n - (intOf u8).toNat)
  case atStart => exact ⟨0, Nat.zero_le _, rfl, Below.refl _ _, HR0.out⟩
  case round =>
    obtain ⟨i, hi, rfl, HR⟩ := hrel
    clear HR0
    by_cases hlt : i < n
    · have k1 : (i : Int) < n := by omega
      have i1 : i < l.length := by rw [HN.out]; exact hlt
      obtain ⟨b, off, rfl, hV⟩ := HX.out i i1
      obtain ⟨c0, c1⟩ := hV _ HR.out.1
      have hF := HR.out.2
      rw [List.drop_eq_getElem_cons i1, List.any_cons] at hF
      have HB : Hid (Below W.heap.size W wr) := HR.out.1
      have HF : Hid ((hit 1 l[i] (p1, p2) || (l.drop (i + 1)).any fun x => hit 1 x (p1, p2)) = R) := hF
      clear HR hV HX hF
      generalize l[i] = x at *
      clear i1
      obtain ⟨x1, x2⟩ := x
      simp only at c0 c1
      have C1 := hitf_any (W := wr) x1 x2 (g := g) (p1 := p1) (by rw [HB.out.cell (p := ⟨g, 0, none⟩) hgl]; exact HP.out)
      go_wp2_with fail
      with_reducible refine C1.mono ?_
      rintro e w2 ⟨rfl, hb2⟩
      have HB2 : Hid (Below W.heap.size W w2) := HB.out.trans (hb2.mono HB.out.size)
      clear C1 hb2 c0 c1
      by_cases e1 : x1 = p1
      · have z1 : (x1 == p1) = true := by simp [e1]
        rw [z1]
        have HE : Hid (R = true) := by
          show R = true
          rw [← HF.out]
          simp [hit, e1]
        clear HF z1 e1
        go_wp2_with fail
        go_ret
        exact ⟨⟨_, rfl, by rw [HE.out]; simp⟩, HB2.out⟩
      · have z1 : (x1 == p1) = false := by simpa using e1
        rw [z1]
        have HQ : Hid (((l.drop (i + 1)).any fun x => hit 1 x (p1, p2)) = R) := by
          have := HF.out
          have hh : hit 1 (x1, x2) (p1, p2) = false := by simp [hit, e1]
          rw [hh, Bool.false_or] at this
          exact this
        clear HF e1 z1
        go_wp2_with fail
        go_roundw
        case rel => exact ⟨i + 1, by omega, by go_num, HB2.out, HQ.out⟩
        case measure => simp [intOf]; omega
    · have k1 : ¬ ((i : Int) < n) := by omega
      obtain rfl : i = n := by omega
      have hF := HR.out.2
      have hd : l.drop i = [] := by rw [← HN.out]; exact List.drop_length
      rw [hd] at hF
      have HE : Hid (R = false) := by rw [← hF]; rfl
      have HB : Hid (Below W.heap.size W wr) := HR.out.1
      clear HR HX hF hd
      go_wp2_with fail
      go_ret
      exact ⟨⟨_, rfl, by rw [HE.out]; simp⟩, HB.out⟩
set_option maxHeartbeats 4000000 in
theorem ix_any {W : World} {v : Value} {l : List Pn} (h : PR W v l) (p1 p2 : Int) :
    Calls Try.prog 57 #[v, .agg #[.int .u32 p1, .int .u16 p2]] W (IxQ (l.any fun x => hit 2 x (p1, p2)) W) := by
  obtain ⟨a, c, rfl, h1, h2, hx⟩ := pr_at h
  have HX : Hid (∀ i (hi : i < l.length), ∃ b off, a = some ⟨b, off, none⟩ ∧ ∀ V, Below W.heap.size W V → V.cell? ⟨b, off + i * 2, none⟩ = some (.int .u32 l[i].1) ∧ V.cell? ⟨b, off + i * 2 + 1, none⟩ = some (.int .u16 l[i].2)) := hx
  obtain ⟨g, hg⟩ : ∃ g, W.heap.size = g := ⟨_, rfl⟩
  have HM0 : Hid (Mem W (W.alloc (.cells #[.int .u32 p1, .int .u16 p2] 34)) [(g, .cells #[.int .u32 p1, .int .u16 p2] 34 (0, 0))]) := (Mem.nil W).push1 hg.symm
  obtain ⟨R, hR⟩ : ∃ R, (l.any fun x => hit 2 x (p1, p2)) = R := ⟨_, rfl⟩
  rw [hR]
  have HR0 : Hid (((l.drop 0).any fun x => hit 2 x (p1, p2)) = R) := hR
  obtain ⟨n, hn⟩ : ∃ n, l.length = n := ⟨_, rfl⟩
  have HN : Hid (l.length = n) := hn
  rw [hn] at h1 ⊢
  clear hx h hR hn
  go_enter Try.func57, Try.ntmps57
  go_upto_region 1 with fail
  refine wp_letter (fun X => Mem W X [(g, .cells #[.int .u32 p1, .int .u16 p2] 34 (0, 0))]) (by exact HM0.out) ?_
  intro V0 hM0
  try simp only [hg]
  have H0 : Hid (Mem W V0 [(g, .cells #[.int .u32 p1, .int .u16 p2] 34 (0, 0))]) := hM0
  clear HM0 hM0
  go_wp2_with fail
  go_loopw [8] (fun u8 w' => ∃ i : Nat, i ≤ n ∧ u8 = .int .i64 i ∧ Hid (Mem W w' [(g, .cells #[.int .u32 p1, .int .u16 p2] 34 (0, 0))] ∧ ((l.drop i).any fun x => hit 2 x (p1, p2)) = R)) (fun u8 w' => n - (intOf u8).toNat)
  case atStart => exact ⟨0, Nat.zero_le _, rfl, H0.out, HR0.out⟩
  case round =>
    obtain ⟨i, hi, rfl, HR⟩ := hrel
    clear HR0 H0
    by_cases hlt : i < n
    · have k1 : (i : Int) < n := by omega
      have i1 : i < l.length := by rw [HN.out]; exact hlt
      obtain ⟨b, off, rfl, hV⟩ := HX.out i i1
      obtain ⟨c0, c1⟩ := hV _ HR.out.1.below
      have q0 : wr.cell? ⟨g, 0, none⟩ = some (.int .u32 p1) := HR.out.1.cell 0 rfl 0
      have q1 : wr.cell? ⟨g, 1, none⟩ = some (.int .u16 p2) := HR.out.1.cell 0 rfl 1
      have hF := HR.out.2
      rw [List.drop_eq_getElem_cons i1, List.any_cons] at hF
      have HB : Hid (∀ n, Mem W (wr.drewN n) [(g, .cells #[.int .u32 p1, .int .u16 p2] 34 (0, 0))]) := fun n => HR.out.1.drewN n
      have HF : Hid ((hit 2 l[i] (p1, p2) || (l.drop (i + 1)).any fun x => hit 2 x (p1, p2)) = R) := hF
      clear HR hV HX hF
      generalize l[i] = x at *
      clear i1
      obtain ⟨x1, x2⟩ := x
      simp only at c0 c1
      have heq := pt_eq p1 p2 x1 x2
      by_cases e1 : p1 = x1 ∧ p2 = x2
      · obtain ⟨rfl, rfl⟩ := e1
        simp only [BEq.rfl, Bool.and_self] at heq
        have HE : Hid (R = true) := by
          show R = true
          rw [← HF.out]
          simp [hit]
        clear HF
        go_wp2_with fail
        go_quiet (fail)
        go_wp2_with fail
        go_ret
        exact ⟨⟨_, rfl, by rw [HE.out]; simp⟩, (HB.out _).below⟩
      · have hne : (p1 == x1 && p2 == x2) = false := by
          rw [Bool.eq_false_iff]
          intro h
          simp at h
          exact e1 h
        rw [hne] at heq
        have HQ : Hid (((l.drop (i + 1)).any fun x => hit 2 x (p1, p2)) = R) := by
          have := HF.out
          have hh : hit 2 (x1, x2) (p1, p2) = false := by
            unfold hit
            rw [if_neg (by decide), decide_eq_false_iff_not]
            intro he
            obtain ⟨rfl, rfl⟩ := Prod.mk.inj he
            exact e1 ⟨rfl, rfl⟩
          rw [hh, Bool.false_or] at this
          exact this
        clear HF e1 hne
        go_wp2_with fail
        go_quiet (fail)
        go_wp2_with fail
        go_roundw
        case rel => exact ⟨i + 1, by omega, by go_num, HB.out _, HQ.out⟩
        case measure => simp [intOf]; omega
    · have k1 : ¬ ((i : Int) < n) := by omega
      obtain rfl : i = n := by omega
      have hF := HR.out.2
      have hd : l.drop i = [] := by rw [← HN.out]; exact List.drop_length
      rw [hd] at hF
      have HE : Hid (R = false) := by rw [← hF]; rfl
      have HB : Hid (Below W.heap.size W wr) := HR.out.1.below
      clear HR HX hF hd
      go_wp2_with fail
      go_ret
      exact ⟨⟨_, rfl, by rw [HE.out]; simp⟩, by first | exact HB.out | (rw [← hg]; exact HB.out)⟩
theorem ctf_any {W : World} {v : Value} {l : List Pn} (h : PR W v l) {g : Nat} {p1 : Int} (p2 : Int) (hp : W.cell? ⟨g, 0, none⟩ = some (.int .u32 p1)) :
    Calls Try.prog 46 #[v, .func (.func 47) #[] #[.pointer (some ⟨g, 0, none⟩)]] W fun e W' => e = .returned (.bool (l.any fun x => hit 1 x (p1, p2))) ∧ Below W.heap.size W W' := by
  have C1 := ixf_any (p2 := p2) h hp
  obtain ⟨a, c, rfl, h1, h2, hx⟩ := pr_at h
  generalize (l.any fun x => hit 1 x (p1, p2)) = R at *
  clear hx h hp
  go_enter Try.func46, Try.ntmps46
  go_wp2_with fail
  with_reducible refine C1.mono ?_
  rintro e w2 ⟨⟨r, rfl, hr⟩, hb⟩
  clear C1
  have HB : Hid (Below W.heap.size W w2) := hb
  clear hb
  have HRR : Hid (decide (0 ≤ r) = R) := hr
  clear hr
  go_wp2_with fail
  go_ret
  exact ⟨by rw [← HRR.out]; rfl, HB.out⟩
theorem cts_any {W : World} {v : Value} {l : List Pn} (h : PR W v l) (p1 p2 : Int) :
    Calls Try.prog 48 #[v, .agg #[.int .u32 p1, .int .u16 p2]] W fun e W' => e = .returned (.bool (l.any fun x => hit 2 x (p1, p2))) ∧ Below W.heap.size W W' := by
  obtain ⟨g, hg⟩ : ∃ g, W.heap.size = g := ⟨_, rfl⟩
  have HM0 : Hid (Mem W (W.alloc (.cells #[.int .u32 p1, .int .u16 p2] 34)) [(g, .cells #[.int .u32 p1, .int .u16 p2] 34 (0, 0))]) := (Mem.nil W).push1 hg.symm
  have HPR : Hid (PR W v l) := h
  obtain ⟨a, c, rfl, h1, h2, hx⟩ := pr_at h
  obtain ⟨R, hR⟩ : ∃ R, (l.any fun x => hit 2 x (p1, p2)) = R := ⟨_, rfl⟩
  rw [hR]
  have HR : Hid ((l.any fun x => hit 2 x (p1, p2)) = R) := hR
  clear hx h hR
  go_enter Try.func48, Try.ntmps48
  go_upto_region 1 with fail
  refine wp_letter (fun X => Mem W X [(g, .cells #[.int .u32 p1, .int .u16 p2] 34 (0, 0))]) (by exact HM0.out) ?_
  intro V0 hM0
  try simp only [hg]
  have q0 : V0.cell? ⟨g, 0, none⟩ = some (.int .u32 p1) := hM0.cell 0 rfl 0
  have q1 : V0.cell? ⟨g, 1, none⟩ = some (.int .u16 p2) := hM0.cell 0 rfl 1
  have HB0 : Hid (Below W.heap.size W V0) := hM0.below
  have C1 := ix_any (HPR.out.below hM0.below (Nat.le_refl _)) p1 p2
  rw [HR.out] at C1
  clear HM0 hM0
  go_wp2_with fail
  with_reducible refine C1.mono ?_
  rintro e w2 ⟨⟨r, rfl, hr⟩, hb⟩
  clear C1
  have HB : Hid (Below W.heap.size W w2) := HB0.out.trans (hb.mono HB0.out.size)
  clear hb q0 q1
  have HRR : Hid (decide (0 ≤ r) = R) := hr
  clear hr
  go_wp2_with fail
  go_ret
  exact ⟨by rw [← HRR.out]; rfl, by first | exact HB.out | (rw [← hg]; exact HB.out)⟩
theorem allows_any {W : World} {v : Value} {l : List Pn} (h : PR W v l) (filter : Int) (p : Pn) :
    Calls Try.prog 34 #[.int .i64 filter, v, .agg #[.int .u32 p.1, .int .u16 p.2]] W fun e W' => e = .returned (.bool (alw filter l p)) ∧ Below W.heap.size W W' := by
  obtain ⟨p1, p2⟩ := p
  simp only
  obtain ⟨g, hg⟩ : ∃ g, W.heap.size = g := ⟨_, rfl⟩
  have HM0 : Hid (Mem W (W.alloc (.cells #[.int .u32 p1, .int .u16 p2] 34)) [(g, .cells #[.int .u32 p1, .int .u16 p2] 34 (0, 0))]) := (Mem.nil W).push1 hg.symm
  have HPR : Hid (PR W v l) := h
  obtain ⟨a, c, rfl, h1, h2, hx⟩ := pr_at h
  obtain ⟨R, hR⟩ : ∃ R, alw filter l (p1, p2) = R := ⟨_, rfl⟩
  rw [hR]
  have HR : Hid (alw filter l (p1, p2) = R) := hR
  clear hx h hR
  by_cases f1 : filter = 1
  · subst f1
    go_enter Try.func34, Try.ntmps34
    go_upto_region 1 with fail
    refine wp_letter (fun X => Mem W X [(g, .cells #[.int .u32 p1, .int .u16 p2] 34 (0, 0))]) (by exact HM0.out) ?_
    intro V0 hM0
    try simp only [hg]
    have HB0 : Hid (Below W.heap.size W V0) := hM0.below
    have C1 := ctf_any (HPR.out.below hM0.below (Nat.le_refl _)) (g := g) (p1 := p1) p2 (hM0.cell 0 rfl 0)
    rw [← alw_any (Or.inl rfl), HR.out] at C1
    clear HM0 hM0
    go_wp2_with fail
    with_reducible refine C1.mono ?_
    rintro e w2 ⟨rfl, hb⟩
    have HB : Hid (Below W.heap.size W w2) := HB0.out.trans (hb.mono HB0.out.size)
    clear hb C1
    go_wp2_with fail
    go_ret
    exact ⟨rfl, by first | exact HB.out | (rw [← hg]; exact HB.out)⟩
  · have g1 : (filter == 1) = false := by simpa using f1
    by_cases f2 : filter = 2
    · subst f2
      clear f1
      go_enter Try.func34, Try.ntmps34
      go_upto_region 1 with fail
      refine wp_letter (fun X => Mem W X [(g, .cells #[.int .u32 p1, .int .u16 p2] 34 (0, 0))]) (by exact HM0.out) ?_
      intro V0 hM0
      try simp only [hg]
      have HB0 : Hid (Below W.heap.size W V0) := hM0.below
      have q0 : V0.cell? ⟨g, 0, none⟩ = some (.int .u32 p1) := hM0.cell 0 rfl 0
      have q1 : V0.cell? ⟨g, 1, none⟩ = some (.int .u16 p2) := hM0.cell 0 rfl 1
      have C1 := cts_any (HPR.out.below hM0.below (Nat.le_refl _)) p1 p2
      rw [← alw_any (Or.inr rfl), HR.out] at C1
      clear HM0 hM0
      go_wp2_with fail
      with_reducible refine C1.mono ?_
      rintro e w2 ⟨rfl, hb⟩
      have HB : Hid (Below W.heap.size W w2) := HB0.out.trans (hb.mono HB0.out.size)
      clear hb C1 q0 q1
      go_wp2_with fail
      go_ret
      exact ⟨rfl, by first | exact HB.out | (rw [← hg]; exact HB.out)⟩
    · have g2 : (filter == 2) = false := by simpa using f2
      have HE : Hid (R = true) := by
        show R = true
        rw [← HR.out]
        unfold alw
        rw [if_neg f1, if_neg f2]
      have HB : Hid (Below W.heap.size W (W.alloc (.cells #[.int .u32 p1, .int .u16 p2] 34))) := HM0.out.below
      clear HM0 HPR HR f1 f2
      go_enter Try.func34, Try.ntmps34
      go_wp2_with fail
      go_ret
      exact ⟨by rw [HE.out]; rfl, by first | exact HB.out | (rw [← hg]; exact HB.out)⟩
end Ss
end Go.Proofs.Ytgeeijinhneoiaa
