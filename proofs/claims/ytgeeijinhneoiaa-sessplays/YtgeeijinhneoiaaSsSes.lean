/-
  Sessions: one as its cells; two that are one are told so.
-/
import Derived.Test.YtgeeijinhneoiaaSsPeer
namespace Go.Proofs.Ytgeeijinhneoiaa
open Go.RowKit
open Sm
open Po
open Wh
set_option linter.unusedVariables false
set_option linter.unusedSimpArgs false
set_option maxRecDepth 20000

namespace Ss
structure Sn where
  pr : Int
  ip : Int
  port : Int
  oip : Int
  op : Int
  gen : Int
  ps : List Pn
  st : Int
  un : Int
def sc (x : Sn) (v : Value) : List Value := [.int .u8 x.pr, .int .u32 x.ip, .int .u16 x.port, .int .u32 x.oip, .int .u16 x.op, .int .u32 x.gen, v, .int .i64 x.st, .int .u32 x.un]
/-- A value that is a session. -/
def SV (V : World) (val : Value) (x : Sn) : Prop := ∃ pv, val = .agg (sc x pv).toArray ∧ PR V pv x.ps
theorem PR.below {V V' : World} {v : Value} {l : List Pn} (h : PR V v l) {B : Nat} (hb : Below B V V') (hB : V.heap.size ≤ B) : PR V' v l := Rw.below h px_ne hb hB
theorem SV.below {V V' : World} {v : Value} {x : Sn} (h : SV V v x) {B : Nat} (hb : Below B V V') (hB : V.heap.size ≤ B) : SV V' v x := by
  obtain ⟨pv, e, hp⟩ := h
  exact ⟨pv, e, hp.below hb hB⟩
theorem key_eq (a b c a' b' c' : Int) (w : World) : (Op.equalIn 10000 36 (.agg #[.int .u8 a, .int .u32 b, .int .u16 c]) (.agg #[.int .u8 a', .int .u32 b', .int .u16 c'])).run Try.prog w = .ok (a == a' && (b == b' && c == c')) w := by
  have u3 := Try.underlying31
  have u5 := Try.underlying32
  have u8 := Try.underlying5
  rw [show (10000 : Nat) = 9999 + 1 from rfl, run_equalIn_agg w 9999 36 _ _ (by kernel_rfl) (by kernel_rfl)]
  simp only [Program.fieldsOf, Try.underlying36]
  go_simp
  by_cases h1 : a = a' <;> by_cases h2 : b = b' <;> by_cases h3 : c = c' <;> simp [h1, h2, h3]
/-- A session's box, cell by cell. -/
def Bx (V : World) (g : Nat) (pr ip port oip op gen : Int) (pv : Value) (st un : Int) : Prop :=
  V.cell? ⟨g, 0, none⟩ = some (.int .u8 pr) ∧ V.cell? ⟨g, 1, none⟩ = some (.int .u32 ip) ∧ V.cell? ⟨g, 2, none⟩ = some (.int .u16 port) ∧ V.cell? ⟨g, 3, none⟩ = some (.int .u32 oip) ∧ V.cell? ⟨g, 4, none⟩ = some (.int .u16 op) ∧ V.cell? ⟨g, 5, none⟩ = some (.int .u32 gen) ∧ V.cell? ⟨g, 6, none⟩ = some pv ∧ V.cell? ⟨g, 7, none⟩ = some (.int .i64 st) ∧ V.cell? ⟨g, 8, none⟩ = some (.int .u32 un)
theorem bx_of {w V : World} {L : List (Nat × Obj)} (i : Nat) {g : Nat} {pr ip port oip op gen : Int} {pv : Value} {st un : Int} {T : TypeId} (hM : Mem w V L) (hi : L[i]? = some (g, .cells #[.int .u8 pr, .int .u32 ip, .int .u16 port, .int .u32 oip, .int .u16 op, .int .u32 gen, pv, .int .i64 st, .int .u32 un] T (0, 0))) : Bx V g pr ip port oip op gen pv st un :=
  ⟨hM.cell i hi 0, hM.cell i hi 1, hM.cell i hi 2, hM.cell i hi 3, hM.cell i hi 4, hM.cell i hi 5, hM.cell i hi 6, hM.cell i hi 7, hM.cell i hi 8⟩
set_option maxHeartbeats 4000000 in
theorem sess_yes {W : World} {va vb : Value} {x : Sn} (ha : SV W va x) (hb : SV W vb x) :
    Calls Try.prog 23 #[va, vb] W fun e W' => e = .returned (.bool true) ∧ Below W.heap.size W W' := by
  obtain ⟨pv, rfl, hp⟩ := ha
  obtain ⟨qv, rfl, hq⟩ := hb
  unfold sc
  obtain ⟨pr, ip, port, oip, op, gen, ps, st, un⟩ := x
  simp only at *
  obtain ⟨pa, pb, rfl, p1, p2, -⟩ := pr_at hp
  obtain ⟨qa, qb, rfl, q1, q2, -⟩ := pr_at hq
  obtain ⟨g, hg⟩ : ∃ g, W.heap.size = g := ⟨_, rfl⟩
  have HPQ : Hid (PR W (.slice pa ps.length pb) ps ∧ PR W (.slice qa ps.length qb) ps) := ⟨hp, hq⟩
  have k1 := key_eq pr ip port pr ip port
  have k2 := pt_eq oip op oip op
  simp only [BEq.rfl, Bool.and_self] at k1 k2
  obtain ⟨n, hn⟩ : ∃ n, ps.length = n := ⟨_, rfl⟩
  rw [hn] at HPQ p1 q1 ⊢
  have HM0 : Hid (Mem W ((W.alloc (.cells #[.int .u8 pr, .int .u32 ip, .int .u16 port, .int .u32 oip, .int .u16 op, .int .u32 gen, .slice pa n pb, .int .i64 st, .int .u32 un] 39)).alloc (.cells #[.int .u8 pr, .int .u32 ip, .int .u16 port, .int .u32 oip, .int .u16 op, .int .u32 gen, .slice qa n qb, .int .i64 st, .int .u32 un] 39)) [(g, .cells #[.int .u8 pr, .int .u32 ip, .int .u16 port, .int .u32 oip, .int .u16 op, .int .u32 gen, .slice pa n pb, .int .i64 st, .int .u32 un] 39 (0, 0)), (g + 1, .cells #[.int .u8 pr, .int .u32 ip, .int .u16 port, .int .u32 oip, .int .u16 op, .int .u32 gen, .slice qa n qb, .int .i64 st, .int .u32 un] 39 (0, 0))]) := ((Mem.nil W).push1 hg.symm).push2 (by rw [World.size_alloc, hg])
  clear hp hq hn
  go_enter Try.func23, Try.ntmps23
  go_upto_region 1 with fail
  refine wp_letter (fun X => Mem W X [(g, .cells #[.int .u8 pr, .int .u32 ip, .int .u16 port, .int .u32 oip, .int .u16 op, .int .u32 gen, .slice pa n pb, .int .i64 st, .int .u32 un] 39 (0, 0)), (g + 1, .cells #[.int .u8 pr, .int .u32 ip, .int .u16 port, .int .u32 oip, .int .u16 op, .int .u32 gen, .slice qa n qb, .int .i64 st, .int .u32 un] 39 (0, 0))]) (by exact HM0.out) ?_
  intro V hM
  try simp only [hg]
  have HM : Hid (Mem W V [(g, .cells #[.int .u8 pr, .int .u32 ip, .int .u16 port, .int .u32 oip, .int .u16 op, .int .u32 gen, .slice pa n pb, .int .i64 st, .int .u32 un] 39 (0, 0)), (g + 1, .cells #[.int .u8 pr, .int .u32 ip, .int .u16 port, .int .u32 oip, .int .u16 op, .int .u32 gen, .slice qa n qb, .int .i64 st, .int .u32 un] 39 (0, 0))]) := hM
  have C1 := points_any (W := V) (HPQ.out.1.below hM.below (Nat.le_refl _)) (HPQ.out.2.below hM.below (Nat.le_refl _))
  rw [decide_eq_true rfl] at C1
  obtain ⟨a0, a1, a2, a3, a4, a5, a6, a7, a8⟩ := bx_of 0 hM rfl
  obtain ⟨b0, b1, b2, b3, b4, b5, b6, b7, b8⟩ := bx_of 1 hM rfl
  have z1 : (gen == gen) = true := by simp
  have z2 : (st == st) = true := by simp
  have z3 : (un == un) = true := by simp
  clear HM0 hM HPQ
  go_wp2_with fail
  with_reducible refine C1.mono ?_
  rintro e X ⟨rfl, hX⟩
  have hM2 := HM.out.after hX
  obtain ⟨c0, c1, c2, c3, c4, c5, c6, c7, c8⟩ := bx_of 0 hM2 rfl
  obtain ⟨d0, d1, d2, d3, d4, d5, d6, d7, d8⟩ := bx_of 1 hM2 rfl
  have HB : Hid (Below W.heap.size W X) := hM2.below
  clear a0 a1 a2 a3 a4 a5 a6 a7 a8 b0 b1 b2 b3 b4 b5 b6 b7 b8 C1 hM2 hX HM
  go_wp2_with fail
  go_ret
  exact ⟨rfl, by first | exact HB.out | (rw [← hg]; exact HB.out)⟩
end Ss
end Go.Proofs.Ytgeeijinhneoiaa
