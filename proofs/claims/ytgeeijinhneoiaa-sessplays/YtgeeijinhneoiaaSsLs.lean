/-
  Sessions: lists of them; two that are one are told so.
-/
import Derived.Test.YtgeeijinhneoiaaSsSes
namespace Go.Proofs.Ytgeeijinhneoiaa
open Go.RowKit
open Sm
open Po
open Wh
set_option linter.unusedVariables false
set_option linter.unusedSimpArgs false
set_option maxRecDepth 20000

namespace Ss
/-- A session and its list's value. -/
abbrev Hn := Sn × Value
def sx (zs : List Hn) : List (List Value) := zs.map fun z => sc z.1 z.2
theorem sx_len (zs : List Hn) : (sx zs).length = zs.length := by simp [sx]
theorem sx_nine {zs : List Hn} : ∀ x ∈ sx zs, x.length = 9 := by
  intro x hx
  obtain ⟨y, -, rfl⟩ := List.mem_map.1 hx
  rfl
theorem sx_ne {zs : List Hn} : ∀ x ∈ sx zs, x ≠ [] := by
  intro x hx
  obtain ⟨y, -, rfl⟩ := List.mem_map.1 hx
  simp [sc]
/-- A value that is a list of sessions. -/
def SL (V : World) (v : Value) (xs : List Sn) : Prop := ∃ zs : List Hn, zs.map (·.1) = xs ∧ Rw V 9 v (sx zs) ∧ ∀ z ∈ zs, PR V z.2 z.1.ps
theorem SL.below {V V' : World} {v : Value} {xs : List Sn} (h : SL V v xs) {B : Nat} (hb : Below B V V') (hB : V.heap.size ≤ B) : SL V' v xs := by
  obtain ⟨zs, e, h1, h2⟩ := h
  exact ⟨zs, e, Rw.below h1 sx_ne hb hB, fun z hz => (h2 z hz).below hb hB⟩
/-- Nine cells in a row. -/
def Bo (V : World) (b o : Nat) (x : Sn) (pv : Value) : Prop := V.cell? ⟨b, o, none⟩ = some (.int .u8 x.pr) ∧ V.cell? ⟨b, o + 1, none⟩ = some (.int .u32 x.ip) ∧ V.cell? ⟨b, o + 2, none⟩ = some (.int .u16 x.port) ∧ V.cell? ⟨b, o + 3, none⟩ = some (.int .u32 x.oip) ∧ V.cell? ⟨b, o + 4, none⟩ = some (.int .u16 x.op) ∧ V.cell? ⟨b, o + 5, none⟩ = some (.int .u32 x.gen) ∧ V.cell? ⟨b, o + 6, none⟩ = some (pv) ∧ V.cell? ⟨b, o + 7, none⟩ = some (.int .i64 x.st) ∧ V.cell? ⟨b, o + 8, none⟩ = some (.int .u32 x.un)
theorem sl_at {V : World} {v : Value} {zs : List Hn} (h : Rw V 9 v (sx zs)) : ∃ a c, v = .slice a zs.length c ∧ zs.length ≤ c ∧ c ≤ 9223372036854775807 ∧ ∀ i (hi : i < zs.length), ∃ b off, a = some ⟨b, off, none⟩ ∧ ∀ W, Below V.heap.size V W → Bo W b (off + i * 9) zs[i].1 zs[i].2 := by
  obtain ⟨a, c, rfl, h1, h2, -, h4⟩ := h
  rw [sx_len] at h1 h4 ⊢
  refine ⟨a, c, rfl, h1, h2, fun i hi => ?_⟩
  rcases h4 with e | ⟨b, off, rfl, hc⟩
  · have : zs = [] := by simpa [sx] using e
    subst this
    cases hi
  · refine ⟨b, off, rfl, fun W hW => ?_⟩
    have e : (sx zs).getD i [] = sc zs[i].1 zs[i].2 := by simp [sx, List.getD, List.getElem?_eq_getElem hi]
    have k := hc i hi
    rw [e] at k
    have kk : ∀ j u, (sc zs[i].1 zs[i].2)[j]? = some u → W.cell? ⟨b, off + i * 9 + j, none⟩ = some u := fun j u hj => by
      rw [hW.cell (p := ⟨b, _, none⟩) (cell_lt (k j u hj))]
      exact k j u hj
    exact ⟨kk 0 _ rfl, kk 1 _ rfl, kk 2 _ rfl, kk 3 _ rfl, kk 4 _ rfl, kk 5 _ rfl, kk 6 _ rfl, kk 7 _ rfl, kk 8 _ rfl⟩
set_option maxHeartbeats 8000000 in
theorem sessions_yes {W : World} {va vb : Value} {xs : List Sn} (ha : SL W va xs) (hb : SL W vb xs) :
    Calls Try.prog 24 #[va, vb] W fun e W' => e = .returned (.bool true) ∧ Below W.heap.size W W' := by
  obtain ⟨zs, ez, hz, hzp⟩ := ha
  obtain ⟨ys, ey, hy, hyp⟩ := hb
  obtain ⟨a, c, rfl, h1, h2, hx⟩ := sl_at hz
  obtain ⟨b, d, rfl, h3, h4, hx'⟩ := sl_at hy
  have hl : zs.length = xs.length := by rw [← ez, List.length_map]
  have hl' : ys.length = xs.length := by rw [← ey, List.length_map]
  obtain ⟨n, hn⟩ : ∃ n, xs.length = n := ⟨_, rfl⟩
  rw [hn] at hl hl'
  have HX : Hid (∀ i, i < n → ∃ (x : Sn) (pv qv : Value) (b1 o1 b2 o2 : Nat), a = some ⟨b1, o1, none⟩ ∧ b = some ⟨b2, o2, none⟩ ∧ ∀ V, Below W.heap.size W V → Bo V b1 (o1 + i * 9) x pv ∧ Bo V b2 (o2 + i * 9) x qv ∧ PR V pv x.ps ∧ PR V qv x.ps) := fun i hi => by
    have i1 : i < zs.length := by omega
    have i2 : i < ys.length := by omega
    obtain ⟨b1, o1, e1, q1⟩ := hx i i1
    obtain ⟨b2, o2, e2, q2⟩ := hx' i i2
    have ex : zs[i].1 = ys[i].1 := by
      have u1 : (zs.map (·.1))[i]? = some zs[i].1 := by rw [List.getElem?_map, List.getElem?_eq_getElem i1]; rfl
      have u2 : (ys.map (·.1))[i]? = some ys[i].1 := by rw [List.getElem?_map, List.getElem?_eq_getElem i2]; rfl
      rw [ez] at u1
      rw [ey, u1] at u2
      exact Option.some.inj u2
    refine ⟨zs[i].1, zs[i].2, ys[i].2, b1, o1, b2, o2, e1, e2, fun V hV => ⟨q1 V hV, by rw [ex]; exact q2 V hV, (hzp _ (List.getElem_mem i1)).below hV (Nat.le_refl _), by rw [ex]; exact (hyp _ (List.getElem_mem i2)).below hV (Nat.le_refl _)⟩⟩
  rw [hl] at h1 ⊢
  rw [hl'] at h3 ⊢
  have hnn : ((n : Int) != (n : Int)) = false := by simp
  clear hz hzp hy hyp hx hx' hl hl' ez ey hn
  go_enter Try.func24, Try.ntmps24
  go_wp2_with fail
  go_loopw [5] (fun u5 w' => ∃ i : Nat, i ≤ n ∧ u5 = .int .i64 i ∧ Hid (Below W.heap.size W w')) (fun u5 w' => n - (intOf u5).toNat)
  case atStart => exact ⟨0, Nat.zero_le _, rfl, Below.refl _ _⟩
  case round =>
    obtain ⟨i, hi, rfl, HI⟩ := hrel
    by_cases hlt : i < n
    · have k1 : (i : Int) < n := by omega
      obtain ⟨x, pv, qv, b1, o1, b2, o2, rfl, rfl, hV⟩ := HX.out i hlt
      have HV : Hid (∀ V, Below W.heap.size W V → Bo V b1 (o1 + i * 9) x pv ∧ Bo V b2 (o2 + i * 9) x qv ∧ PR V pv x.ps ∧ PR V qv x.ps) := hV
      obtain ⟨-, -, hp, hq⟩ := hV _ HI.out
      obtain ⟨pa, pb, rfl, p1, p2, -⟩ := pr_at hp
      obtain ⟨qa, qb, rfl, q1, q2, -⟩ := pr_at hq
      obtain ⟨pr, ip, port, oip, op, gen, ps, st, un⟩ := x
      simp only at p1 p2 q1 q2 HV
      obtain ⟨m, hm⟩ : ∃ m, ps.length = m := ⟨_, rfl⟩
      rw [hm] at p1 q1
      have HC : Hid (∀ V, Below W.heap.size W V → Calls Try.prog 23 #[.agg #[.int .u8 pr, .int .u32 ip, .int .u16 port, .int .u32 oip, .int .u16 op, .int .u32 gen, .slice pa m pb, .int .i64 st, .int .u32 un], .agg #[.int .u8 pr, .int .u32 ip, .int .u16 port, .int .u32 oip, .int .u16 op, .int .u32 gen, .slice qa m qb, .int .i64 st, .int .u32 un]] V fun e W' => e = .returned (.bool true) ∧ Below V.heap.size V W') := fun V hV => by
        obtain ⟨-, -, r1, r2⟩ := HV.out V hV
        have := sess_yes (W := V) (x := ⟨pr, ip, port, oip, op, gen, ps, st, un⟩) ⟨_, rfl, r1⟩ ⟨_, rfl, r2⟩
        simp only [sc, hm] at this
        exact this
      have HS : Hid (∀ V, Below W.heap.size W V → (fun V : World => (V.cell? ⟨b1, o1 + i * 9, none⟩ = some (.int .u8 pr) ∧ V.cell? ⟨b1, o1 + i * 9 + 1, none⟩ = some (.int .u32 ip) ∧ V.cell? ⟨b1, o1 + i * 9 + 2, none⟩ = some (.int .u16 port) ∧ V.cell? ⟨b1, o1 + i * 9 + 3, none⟩ = some (.int .u32 oip) ∧ V.cell? ⟨b1, o1 + i * 9 + 4, none⟩ = some (.int .u16 op) ∧ V.cell? ⟨b1, o1 + i * 9 + 5, none⟩ = some (.int .u32 gen) ∧ V.cell? ⟨b1, o1 + i * 9 + 6, none⟩ = some (.slice pa m pb) ∧ V.cell? ⟨b1, o1 + i * 9 + 7, none⟩ = some (.int .i64 st) ∧ V.cell? ⟨b1, o1 + i * 9 + 8, none⟩ = some (.int .u32 un)) ∧ V.cell? ⟨b2, o2 + i * 9, none⟩ = some (.int .u8 pr) ∧ V.cell? ⟨b2, o2 + i * 9 + 1, none⟩ = some (.int .u32 ip) ∧ V.cell? ⟨b2, o2 + i * 9 + 2, none⟩ = some (.int .u16 port) ∧ V.cell? ⟨b2, o2 + i * 9 + 3, none⟩ = some (.int .u32 oip) ∧ V.cell? ⟨b2, o2 + i * 9 + 4, none⟩ = some (.int .u16 op) ∧ V.cell? ⟨b2, o2 + i * 9 + 5, none⟩ = some (.int .u32 gen) ∧ V.cell? ⟨b2, o2 + i * 9 + 6, none⟩ = some (.slice qa m qb) ∧ V.cell? ⟨b2, o2 + i * 9 + 7, none⟩ = some (.int .i64 st) ∧ V.cell? ⟨b2, o2 + i * 9 + 8, none⟩ = some (.int .u32 un)) V) := fun V hV => by
        obtain ⟨r1, r2, -, -⟩ := HV.out V hV
        rw [hm] at r1 r2
        exact ⟨r1, r2⟩
      clear hV hp hq HV HX hm
      go_upto_region 6 with fail
      refine wp_region_held_drew (S := (fun V : World => (V.cell? ⟨b1, o1 + i * 9, none⟩ = some (.int .u8 pr) ∧ V.cell? ⟨b1, o1 + i * 9 + 1, none⟩ = some (.int .u32 ip) ∧ V.cell? ⟨b1, o1 + i * 9 + 2, none⟩ = some (.int .u16 port) ∧ V.cell? ⟨b1, o1 + i * 9 + 3, none⟩ = some (.int .u32 oip) ∧ V.cell? ⟨b1, o1 + i * 9 + 4, none⟩ = some (.int .u16 op) ∧ V.cell? ⟨b1, o1 + i * 9 + 5, none⟩ = some (.int .u32 gen) ∧ V.cell? ⟨b1, o1 + i * 9 + 6, none⟩ = some (.slice pa m pb) ∧ V.cell? ⟨b1, o1 + i * 9 + 7, none⟩ = some (.int .i64 st) ∧ V.cell? ⟨b1, o1 + i * 9 + 8, none⟩ = some (.int .u32 un)) ∧ V.cell? ⟨b2, o2 + i * 9, none⟩ = some (.int .u8 pr) ∧ V.cell? ⟨b2, o2 + i * 9 + 1, none⟩ = some (.int .u32 ip) ∧ V.cell? ⟨b2, o2 + i * 9 + 2, none⟩ = some (.int .u16 port) ∧ V.cell? ⟨b2, o2 + i * 9 + 3, none⟩ = some (.int .u32 oip) ∧ V.cell? ⟨b2, o2 + i * 9 + 4, none⟩ = some (.int .u16 op) ∧ V.cell? ⟨b2, o2 + i * 9 + 5, none⟩ = some (.int .u32 gen) ∧ V.cell? ⟨b2, o2 + i * 9 + 6, none⟩ = some (.slice qa m qb) ∧ V.cell? ⟨b2, o2 + i * 9 + 7, none⟩ = some (.int .i64 st) ∧ V.cell? ⟨b2, o2 + i * 9 + 8, none⟩ = some (.int .u32 un))) (by kernel_rfl) (HS.out _ HI.out.drew) (fun hHeld => ?_)
      refine wpAnyH_take (i := 0) (v := ?_) rfl (by kernel_rfl) (by kernel_rfl) (by kernel_rfl) (fun _ _ _ h => h) (Or.inl ⟨by rfl, ?z1⟩) (by assumption) ?_
      case z1 =>
       intro w hSw
       (try dsimp only at hSw)
       go_simp
       all_goals with_reducible rfl
      try simp only [List.getElem_toArray, List.getElem_cons_zero, List.getElem_cons_succ, Act.put, List.setIfInBounds_toArray, List.set_cons_zero, List.set_cons_succ]
      refine wpAnyH_take (i := 1) (v := ?_) rfl (by kernel_rfl) (by kernel_rfl) (by kernel_rfl) (fun _ _ _ h => h) (Or.inl ⟨by rfl, ?z2⟩) (by assumption) ?_
      case z2 =>
       intro w hSw
       (try dsimp only at hSw)
       go_simp
       all_goals with_reducible rfl
      try simp only [List.getElem_toArray, List.getElem_cons_zero, List.getElem_cons_succ, Act.put, List.setIfInBounds_toArray, List.set_cons_zero, List.set_cons_succ]
      refine wpAnyH_take (i := 2) (v := ?_) rfl (by kernel_rfl) (by kernel_rfl) (by kernel_rfl) (fun _ _ _ h => h) (Or.inl ⟨by rfl, ?z3⟩) (by assumption) ?_
      case z3 =>
       intro w hSw
       (try dsimp only at hSw)
       go_simp
       all_goals with_reducible rfl
      try simp only [List.getElem_toArray, List.getElem_cons_zero, List.getElem_cons_succ, Act.put, List.setIfInBounds_toArray, List.set_cons_zero, List.set_cons_succ]
      refine wpAnyH_take (i := 4) (v := ?_) rfl (by kernel_rfl) (by kernel_rfl) (by kernel_rfl) (fun _ _ _ h => h) (Or.inl ⟨by rfl, ?z4⟩) (by assumption) ?_
      case z4 =>
       intro w hSw
       (try dsimp only at hSw)
       go_simp
       all_goals with_reducible rfl
      try simp only [List.getElem_toArray, List.getElem_cons_zero, List.getElem_cons_succ, Act.put, List.setIfInBounds_toArray, List.set_cons_zero, List.set_cons_succ]
      refine wpAnyH_take (i := 5) (v := ?_) rfl (by kernel_rfl) (by kernel_rfl) (by kernel_rfl) (fun _ _ _ h => h) (Or.inl ⟨by rfl, ?z5⟩) (by assumption) ?_
      case z5 =>
       intro w hSw
       (try dsimp only at hSw)
       go_simp
       all_goals with_reducible rfl
      try simp only [List.getElem_toArray, List.getElem_cons_zero, List.getElem_cons_succ, Act.put, List.setIfInBounds_toArray, List.set_cons_zero, List.set_cons_succ]
      refine wpAnyH_take (i := 6) (v := ?_) rfl (by kernel_rfl) (by kernel_rfl) (by kernel_rfl) (fun _ _ _ h => h) (Or.inl ⟨by rfl, ?z6⟩) (by assumption) ?_
      case z6 =>
       intro w hSw
       (try dsimp only at hSw)
       go_simp
       all_goals with_reducible rfl
      try simp only [List.getElem_toArray, List.getElem_cons_zero, List.getElem_cons_succ, Act.put, List.setIfInBounds_toArray, List.set_cons_zero, List.set_cons_succ]
      refine wpAnyH_take (i := 3) (v := ?_) rfl (by kernel_rfl) (by kernel_rfl) (by kernel_rfl) (fun _ _ _ h => h) (Or.inl ⟨by rfl, ?z7⟩) (by assumption) ?_
      case z7 =>
       intro w hSw
       (try dsimp only at hSw)
       go_simp
       all_goals with_reducible rfl
      try simp only [List.getElem_toArray, List.getElem_cons_zero, List.getElem_cons_succ, Act.put, List.setIfInBounds_toArray, List.set_cons_zero, List.set_cons_succ]
      refine wpAnyH_take (i := 7) (v := ?_) rfl (by kernel_rfl) (by kernel_rfl) (by kernel_rfl) (fun _ _ _ h => h) (Or.inl ⟨by rfl, ?z8⟩) (by assumption) ?_
      case z8 =>
       intro w hSw
       (try dsimp only at hSw)
       go_simp
       all_goals with_reducible rfl
      try simp only [List.getElem_toArray, List.getElem_cons_zero, List.getElem_cons_succ, Act.put, List.setIfInBounds_toArray, List.set_cons_zero, List.set_cons_succ]
      refine wpAnyH_ready (rs := [8]) (by kernel_rfl) (by simp) ?_
      refine AllReadyH.cons rfl (fun K hK => ?_) AllReadyH.nil
      go_simp
      with_reducible refine (HC.out _ HI.out.drew).mono ?_
      rintro e w1 ⟨rfl, hw1⟩
      try go_wp2_with fail
      refine hK.out _ _ (HS.out _ (HI.out.drew.trans (hw1.mono HI.out.drew.size))) (fun hHeld => ?_)
      clear hK K
      try simp only [List.getElem_toArray, List.getElem_cons_zero, List.getElem_cons_succ, Act.put, List.setIfInBounds_toArray, List.set_cons_zero, List.set_cons_succ]

      have HB : Hid (Below W.heap.size W w1) := HI.out.drew.trans (hw1.mono HI.out.drew.size)
      refine wpAnyH_take (i := 9) (v := ?_) rfl (by kernel_rfl) (by kernel_rfl) (by kernel_rfl) (fun _ _ _ h => h) (Or.inl ⟨by rfl, ?z9⟩) (by assumption) ?_
      case z9 =>
       intro w hSw
       (try dsimp only at hSw)
       go_simp
       all_goals with_reducible rfl
      try simp only [List.getElem_toArray, List.getElem_cons_zero, List.getElem_cons_succ, Act.put, List.setIfInBounds_toArray, List.set_cons_zero, List.set_cons_succ]
      refine wpAnyH_done (by kernel_rfl) ?_ _

      clear HC HS hw1 HI
      go_wp2_with fail
      go_roundw
      case rel => exact ⟨i + 1, by omega, by go_num, HB.out⟩
      case measure => simp [intOf]; omega
    · obtain rfl : i = n := by omega
      have k1 : ¬ ((i : Int) < i) := by omega
      clear HX
      go_wp2_with fail
      go_ret
      exact ⟨rfl, HI.out⟩
end Ss
end Go.Proofs.Ytgeeijinhneoiaa
