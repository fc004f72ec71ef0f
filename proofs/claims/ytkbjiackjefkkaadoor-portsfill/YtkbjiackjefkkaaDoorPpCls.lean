/-
  Ports: the ports of a class.
-/
import Derived.Test.YtkbjiackjefkkaaDoorPpWord
namespace Go.Proofs.YtkbjiackjefkkaaDoor
open Go.RowKit
open Sm
open Po
set_option linter.unusedVariables false
set_option linter.unusedSimpArgs false
set_option maxRecDepth 20000

namespace Po
/-- The bits of a class in a word. -/
def inw (lo hi q first : Int) (i : Nat) : Bool := decide (lo ≤ first + i ∧ first + i ≤ hi ∧ (i : Int) % 2 = q)
abbrev clv (lo hi q : Int) : Array Value := #[.int .i64 lo, .int .i64 hi, .int .u64 ((mkw 64 (fun i => decide ((i : Int) % 2 = q)) : Nat) : Int)]
theorem inw_eq (lo hi q first : Int) : bits .and .u64 (bits .and .u64 ((mkw 64 (fun i => decide ((i : Int) % 2 = q)) : Nat) : Int) ((mkw 64 (fun i => decide ((lo - first).toNat ≤ i)) : Nat) : Int)) ((mkw 64 (fun i => decide (i + (first + 63 - hi).toNat < 64)) : Nat) : Int) = ((mkw 64 (inw lo hi q first) : Nat) : Int) := by
  rw [and_mkw, and_mkw]
  refine congrArg (fun (x : Nat) => (x : Int)) (mkw_congr fun i hi => ?_)
  unfold inw
  rw [← Bool.decide_and, ← Bool.decide_and, decide_eq_decide]
  omega
abbrev clw (lo hi : Int) (pw : Nat) : Array Value := #[.int .i64 lo, .int .i64 hi, .int .u64 (pw : Int)]
def sA (z : Int) : Int := if z < 0 then 18446744073709551615 else IntKind.u64.wrap (18446744073709551615 * 2 ^ (min z.toNat 64))
def sB (z : Int) : Int := if z < 0 then 18446744073709551615 else (18446744073709551615 : Int).fdiv (2 ^ (min z.toNat 64))
theorem sA_neg {z : Int} (h : z < 0) : sA z = 18446744073709551615 := if_pos h
theorem sA_nat (a : Nat) : sA (a : Int) = IntKind.u64.wrap (18446744073709551615 * 2 ^ (min a 64)) := if_neg (by omega)
theorem sB_neg {z : Int} (h : z < 0) : sB z = 18446744073709551615 := if_pos h
theorem sB_nat (a : Nat) : sB (a : Int) = (18446744073709551615 : Int) / (2 ^ (min a 64)) := by
  unfold sB
  rw [if_neg (by omega), Int.fdiv_eq_ediv_of_nonneg _ (by have : (2 : Int) ^ (min (a : Int).toNat 64) = ((2 ^ (min a 64) : Nat) : Int) := by simp
                                                          rw [this]; exact Int.natCast_nonneg _)]
  rfl
theorem wAll : IntKind.u64.wrap 18446744073709551615 = 18446744073709551615 := by decide
set_option maxHeartbeats 1000000 in
theorem inWord_raw (W : World) (lo hi first z1 z2 : Int) (pw : Nat) (r : Int) (hlo : 0 ≤ lo ∧ lo ≤ 65536) (hhi : 0 ≤ hi ∧ hi ≤ 65536) (hf : 0 ≤ first ∧ first ≤ 70000) (h1 : lo - first = z1) (h2 : first + 63 - hi = z2) (hr : bits .and .u64 (bits .and .u64 (pw : Int) (sA z1)) (sB z2) = r) :
    Calls Tryd.prog 29 #[.agg (clw lo hi pw), .int .i64 first] W fun e W' => e = .returned (.int .u64 r) ∧ Below W.heap.size W W' := by
  have w1 : IntKind.i64.wrap (lo - first) = z1 := by rw [IntKind.wrap_i64]; omega
  have w2 : IntKind.i64.wrap (first + 64) = first + 64 := by rw [IntKind.wrap_i64]; omega
  have w3 : IntKind.i64.wrap (first + 64 - 1) = first + 63 := by rw [IntKind.wrap_i64]; omega
  have w4 : IntKind.i64.wrap (first + 63 - hi) = z2 := by rw [IntKind.wrap_i64]; omega
  have wa := wAll
  obtain ⟨g, hg⟩ : ∃ g, W.heap.size = g := ⟨_, rfl⟩
  have HM0 : Hid (Mem W (W.alloc (.cells (clw lo hi pw) 61)) [(g, .cells (clw lo hi pw) 61 (0, 0))]) := (Mem.nil W).push1 hg.symm
  clear h1 h2
  go_enter Tryd.func29, Tryd.ntmps29
  go_upto_region 1 with fail
  refine wp_letter (fun X => Mem W X [(g, .cells (clw lo hi pw) 61 (0, 0))]) (by exact HM0.out) ?_
  intro V0 hM0
  try simp only [hg]
  have a0 : V0.cell? ⟨g, 0, none⟩ = some (.int .i64 lo) := hM0.cell 0 rfl 0
  have a1 : V0.cell? ⟨g, 1, none⟩ = some (.int .i64 hi) := hM0.cell 0 rfl 1
  have a2 : V0.cell? ⟨g, 2, none⟩ = some (.int .u64 (pw : Int)) := hM0.cell 0 rfl 2
  have HB : Hid (Below W.heap.size W V0) := hM0.below
  clear HM0 hM0
  rcases Int.lt_or_le z1 0 with c1 | c1 <;> rcases Int.lt_or_le z2 0 with c2 | c2
  · rw [sA_neg c1, sB_neg c2] at hr
    go_wp2_with fail
    go_ret
    exact ⟨rfl, HB.out⟩
  · obtain ⟨b, rfl⟩ : ∃ b : Nat, z2 = (b : Int) := ⟨z2.toNat, by omega⟩
    rw [sA_neg c1, sB_nat b] at hr
    clear c2
    go_wp2_with fail
    go_ret
    exact ⟨rfl, HB.out⟩
  · obtain ⟨a, rfl⟩ : ∃ a : Nat, z1 = (a : Int) := ⟨z1.toNat, by omega⟩
    rw [sA_nat a, sB_neg c2] at hr
    clear c1
    go_wp2_with fail
    go_ret
    exact ⟨rfl, HB.out⟩
  · obtain ⟨a, rfl⟩ : ∃ a : Nat, z1 = (a : Int) := ⟨z1.toNat, by omega⟩
    obtain ⟨b, rfl⟩ : ∃ b : Nat, z2 = (b : Int) := ⟨z2.toNat, by omega⟩
    rw [sA_nat a, sB_nat b] at hr
    clear c1 c2
    go_wp2_with fail
    go_ret
    exact ⟨rfl, HB.out⟩
theorem sA_mkw (z : Int) : sA z = ((mkw 64 (fun i => decide (z.toNat ≤ i)) : Nat) : Int) := by
  unfold sA
  split
  · have h := shl_mkw 0
    rw [show z.toNat = 0 by omega, ← h]
    exact wAll.symm
  · exact shl_mkw _
theorem sB_mkw (z : Int) : sB z = ((mkw 64 (fun i => decide (i + z.toNat < 64)) : Nat) : Int) := by
  unfold sB
  split
  · have h := shr_mkw 0
    rw [show z.toNat = 0 by omega, ← h]
    rfl
  · exact shr_mkw _
theorem inWord_any (W : World) (lo hi q first : Int) (hlo : 0 ≤ lo ∧ lo ≤ 65536) (hhi : 0 ≤ hi ∧ hi ≤ 65536) (hf : 0 ≤ first ∧ first ≤ 70000) :
    Calls Tryd.prog 29 #[.agg (clv lo hi q), .int .i64 first] W fun e W' => e = .returned (.int .u64 ((mkw 64 (inw lo hi q first) : Nat) : Int)) ∧ Below W.heap.size W W' := by
  refine inWord_raw W lo hi first _ _ (mkw 64 (fun i => decide ((i : Int) % 2 = q))) _ hlo hhi hf rfl rfl ?_
  rw [sA_mkw, sB_mkw]
  exact inw_eq lo hi q first
/-- The bits of a class's ports. -/
def pq (q : Int) : Nat := if q = 0 then 6148914691236517205 else 12297829382473034410
theorem pq_mkw {q : Int} (hq : 0 ≤ q ∧ q ≤ 1) : mkw 64 (fun i => decide ((i : Int) % 2 = q)) = pq q := by
  have h : q = 0 ∨ q = 1 := by omega
  rcases h with rfl | rfl <;> decide
theorem ret_cls {w U : World} {a : Act} {R : Ending → World → Prop} {g : Nat} {lo hi : Int} {c : Nat} {T : TypeId} {L : List (Nat × Obj)} (hM : Mem w U ((g, .cells (clw lo hi c) T (0, 0)) :: L)) (ha : a.tmps[6]? = some (.pointer (some ⟨g, 0, none⟩))) (hd : a.defers = [])
    (hR : R (.returned (.agg (clw lo hi c))) U) : bodyPost Tryd.prog Tryd.f20 R .ret a U := by
  have a0 : U.cell? ⟨g, 0, none⟩ = some (.int .i64 lo) := hM.cell 0 rfl 0
  have a1 : U.cell? ⟨g, 1, none⟩ = some (.int .i64 hi) := hM.cell 0 rfl 1
  have a2 : U.cell? ⟨g, 2, none⟩ = some (.int .u64 (c : Int)) := hM.cell 0 rfl 2
  exact bodyPost_ret (v := .agg (clw lo hi c)) (by simp [results, Tryd.results20, go_sem, ha, a0, a1, a2]) hd hR
set_option maxHeartbeats 1000000 in
theorem classOf_raw (W : World) (lo hi want q lo' hi' : Int) (hlo : 0 ≤ lo ∧ lo ≤ 65535) (hhi : 0 ≤ hi ∧ hi ≤ 65535) (hw : 0 ≤ want ∧ want ≤ 65535) (hq : want % 2 = q)
    (hl : lo' = if want < 1024 then lo else max lo 1024) (hh : hi' = if want < 1024 then min hi 1023 else hi) :
    Calls Tryd.prog 20 #[.int .u16 lo, .int .u16 hi, .int .u16 want] W fun e W' => e = .returned (.agg (clw lo' hi' (pq q))) ∧ Below W.heap.size W W' := by
  have r1 : Int.tmod want 2 = q := by rw [Int.tmod_eq_emod_of_nonneg hw.1]; exact hq
  have r2 : want % 2 = q := hq
  have k0 : IntKind.u64.wrap (6148914691236517205 * 2 ^ q.toNat) = ((pq q : Nat) : Int) := by
    have h : q = 0 ∨ q = 1 := by omega
    rcases h with rfl | rfl <;> decide
  obtain ⟨qn, rfl⟩ : ∃ n : Nat, q = (n : Int) := ⟨q.toNat, by omega⟩
  rw [Int.toNat_natCast] at k0
  obtain ⟨g, hg⟩ : ∃ g, W.heap.size = g := ⟨_, rfl⟩
  go_enter Tryd.func20, Tryd.ntmps20
  obtain ⟨c, hc⟩ : ∃ c, pq (qn : Int) = c := ⟨_, rfl⟩
  rw [hc] at k0 ⊢
  go_upto_region 2 with fail
  have HM0 : Hid (Mem W ((W.alloc (.cells #[.int .i64 0, .int .i64 0, .int .u64 0] 61)).alloc (.cells #[.int .i64 lo, .int .i64 hi, .int .u64 (c : Int)] 61)) [(g, .cells #[.int .i64 0, .int .i64 0, .int .u64 0] 61 (0, 0)), (g + 1, .cells #[.int .i64 lo, .int .i64 hi, .int .u64 (c : Int)] 61 (0, 0))]) := ((Mem.nil W).push1 hg.symm).push2 (by rw [World.size_alloc, hg])
  refine wp_letter (fun X => Mem W X [(g, .cells #[.int .i64 0, .int .i64 0, .int .u64 0] 61 (0, 0)), (g + 1, .cells #[.int .i64 lo, .int .i64 hi, .int .u64 (c : Int)] 61 (0, 0))]) (by exact HM0.out) ?_
  intro V0 hM0
  try simp only [hg]
  have a0 : V0.cell? ⟨g + 1, 0, none⟩ = some (.int .i64 lo) := hM0.cell 1 rfl 0
  have a1 : V0.cell? ⟨g + 1, 1, none⟩ = some (.int .i64 hi) := hM0.cell 1 rfl 1
  have a2 : V0.cell? ⟨g + 1, 2, none⟩ = some (.int .u64 (c : Int)) := hM0.cell 1 rfl 2
  have b0 : V0.cell? ⟨g, 0, none⟩ = some (.int .i64 0) := hM0.cell 0 rfl 0
  have b1 : V0.cell? ⟨g, 1, none⟩ = some (.int .i64 0) := hM0.cell 0 rfl 1
  have b2 : V0.cell? ⟨g, 2, none⟩ = some (.int .u64 0) := hM0.cell 0 rfl 2
  have f0 : V0.frozen? ⟨g + 1, 0, none⟩ = false := hM0.free 1 rfl 0
  have f1 : V0.frozen? ⟨g + 1, 1, none⟩ = false := hM0.free 1 rfl 1
  have e0 : V0.frozen? ⟨g, 0, none⟩ = false := hM0.free 0 rfl 0
  have e1 : V0.frozen? ⟨g, 1, none⟩ = false := hM0.free 0 rfl 1
  have e2 : V0.frozen? ⟨g, 2, none⟩ = false := hM0.free 0 rfl 2
  have HM : Hid (Mem W V0 [(g, .cells #[.int .i64 0, .int .i64 0, .int .u64 0] 61 (0, 0)), (g + 1, .cells #[.int .i64 lo, .int .i64 hi, .int .u64 (c : Int)] 61 (0, 0))]) := hM0
  clear HM0 hM0 k0 hc r1 r2 hq hg
  have S := fun V (L : List (Nat × Obj)) (x y : Int) (h : Mem W V [(g, .cells #[.int .i64 0, .int .i64 0, .int .u64 0] 61 (0, 0)), (g + 1, .cells #[.int .i64 x, .int .i64 y, .int .u64 (c : Int)] 61 (0, 0))]) => (((h.set 0 rfl 0 (.int .i64 x)).set 0 rfl 1 (.int .i64 y)).set 0 rfl 2 (.int .u64 (c : Int)))
  rcases Int.lt_or_le want 1024 with c1 | c1
  · rw [if_pos c1] at hl hh
    rcases Int.lt_or_le 1023 hi with c2 | c2
    · rw [show min hi 1023 = 1023 by omega] at hh
      have HN : Hid (Mem W (V0.setCell ⟨g + 1, 1, none⟩ (.int .i64 1023)) _) := HM.out.set 1 rfl 1 (.int .i64 1023)
      go_wp2_with fail
      try rw [hl, hh]
      exact ret_cls (S _ [] _ _ HN.out) rfl rfl ⟨rfl, (S _ [] _ _ HN.out).below⟩
    · rw [show min hi 1023 = hi by omega] at hh
      have HN : Hid (Mem W (V0.setCell ⟨g + 1, 1, none⟩ (.int .i64 hi)) _) := HM.out.set 1 rfl 1 (.int .i64 hi)
      go_wp2_with fail
      try rw [hl, hh]
      exact ret_cls (S _ [] _ _ HN.out) rfl rfl ⟨rfl, (S _ [] _ _ HN.out).below⟩
  · rw [if_neg (by omega)] at hl hh
    rcases Int.lt_or_le lo 1024 with c2 | c2
    · rw [show max lo 1024 = 1024 by omega] at hl
      have HN : Hid (Mem W (V0.setCell ⟨g + 1, 0, none⟩ (.int .i64 1024)) _) := HM.out.set 1 rfl 0 (.int .i64 1024)
      go_wp2_with fail
      try rw [hl, hh]
      exact ret_cls (S _ [] _ _ HN.out) rfl rfl ⟨rfl, (S _ [] _ _ HN.out).below⟩
    · rw [show max lo 1024 = lo by omega] at hl
      have HN : Hid (Mem W (V0.setCell ⟨g + 1, 0, none⟩ (.int .i64 lo)) _) := HM.out.set 1 rfl 0 (.int .i64 lo)
      go_wp2_with fail
      try rw [hl, hh]
      exact ret_cls (S _ [] _ _ HN.out) rfl rfl ⟨rfl, (S _ [] _ _ HN.out).below⟩
/-- The first port that may be, whatever its class. -/
def plo (lo want : Int) : Int := if want < 1024 then lo else max lo 1024
theorem classOf_any (W : World) (lo hi want : Int) (hlo : 0 ≤ lo ∧ lo ≤ 65535) (hhi : 0 ≤ hi ∧ hi ≤ 65535) (hw : 0 ≤ want ∧ want ≤ 65535) :
    Calls Tryd.prog 20 #[.int .u16 lo, .int .u16 hi, .int .u16 want] W fun e W' => e = .returned (.agg (clv (plo lo want) (upt hi want) (want % 2))) ∧ Below W.heap.size W W' := by
  unfold clv
  rw [pq_mkw (q := want % 2) (by omega)]
  exact classOf_raw W lo hi want _ _ _ hlo hhi hw rfl rfl rfl
end Po
end Go.Proofs.YtkbjiackjefkkaaDoor
