/-
  lychref8.Inner: the ports that are put in, as a piece of the function's own code.
-/
import Derived.Test.YtjalpbkfpjfigaaGreatM44
namespace Go.Proofs.YtjalpbkfpjfigaaGreat
open Go.RowKit
open Sm
set_option linter.unusedVariables false

/-- The 'if' over this slot within a code. -/
def cnd (k : Nat) : Code → Option Code
  | .seq a b => match cnd k a with
    | some c => some c
    | none => cnd k b
  | .cond (.tmp j) a b => if j = k then some (.cond (.tmp j) a b) else match cnd k a with
    | some c => some c
    | none => cnd k b
  | .block _ c => cnd k c
  | .loop c => cnd k c
  | _ => none

/-- Two bytes put into the body. -/
theorem InW.put {w W : World} {L : List (Nat × Obj)} {B g uc : Nat} {l : List Int} {ao : Option Addr} {opts : List Int} (h : InW w W L B g uc l ao opts) (hng : ∀ q ∈ L, q.1 ≠ g) (hw : w.heap.size ≤ g) (hfar : Far g ao opts) (j : Nat) (v : Int) :
    InW w ((W.setCell ⟨g, j, none⟩ (.int .u8 (v / 256))).setCell ⟨g, j + 1, none⟩ (.int .u8 (v % 256))).drew L B g uc (putw l j v) ao opts :=
  ⟨((((Only.refl g W).set j _).set (j + 1) _).mem h.mem hw hng).drew, (h.own.store j _).store (j + 1) _, row_drew ((h.row.beside hfar).beside hfar)⟩

set_option maxRecDepth 20000 in
set_option maxHeartbeats 2000000 in
theorem inn_ports {w W : World} {L : List (Nat × Obj)} {B g uc un H p4 p5 : Nat} {l : List Int} {ao : Option Addr} {opts : List Int} {y sp dp : Int} {v8 v11 : Value} {a : Act} (df : a.defers = []) (sz : a.tmps.size = 185)
    (g4 : a.tmps.getD 4 undef = .pointer (some ⟨p4, 0, none⟩)) (g5 : a.tmps.getD 5 undef = .pointer (some ⟨p5, 0, none⟩)) (g8 : a.tmps.getD 8 undef = v8) (g11 : a.tmps.getD 11 undef = v11) (g13 : a.tmps.getD 13 undef = .slice (some ⟨g, 0, none⟩) un uc) (g17 : a.tmps.getD 17 undef = .int .i64 H) (g125 : a.tmps.getD 125 undef = .bool (y == 1))
    (hIn : InW w W L B g uc l ao opts) (hc4 : ∀ W', Mem w W' L → W'.cell? ⟨p4, 1, none⟩ = some (.int .u16 sp)) (hc5 : ∀ W', Mem w W' L → W'.cell? ⟨p5, 1, none⟩ = some (.int .u16 dp)) (n4 : p4 ≠ g) (n5 : p5 ≠ g) (hng : ∀ q ∈ L, q.1 ≠ g) (hw : w.heap.size ≤ g) (hfar : Far g ao opts)
    (hl : l.length = un) (h8 : H + 8 ≤ un) (hun : un ≤ 70000) (hsp : 0 ≤ sp ∧ sp ≤ 65535) (hdp : 0 ≤ dp ∧ dp ≤ 65535)
    (cd : Code) (hcd : cnd 125 (Tryz.f13.body.getD .skip) = some cd) (K' : Act → World → Prop) (R : Ending → World → Prop)
    (hK : ∀ a' W', a'.defers = [] → a'.tmps.size = 185 → a'.tmps.getD 8 undef = v8 → a'.tmps.getD 11 undef = v11 → InW w W' L B g uc (if y = 1 then putw l (H + 4) sp else putw (putw l H sp) (H + 2) dp) ao opts → K' a' W') :
    Code.wp Tryz.prog cd (Exit.then K' (bodyPost Tryz.prog Tryz.f13 R)) a W := by
  conv at hcd => lhs; whnf
  injection hcd with hcd
  subst hcd
  obtain ⟨f, hf, ha⟩ := frame185 a df sz
  have x4 := (hf 4).symm.trans g4
  have x5 := (hf 5).symm.trans g5
  have x8 := (hf 8).symm.trans g8
  have x11 := (hf 11).symm.trans g11
  have x13 := (hf 13).symm.trans g13
  have x17 := (hf 17).symm.trans g17
  have x125 := (hf 125).symm.trans g125
  simp only [x4, x5, x8, x11, x13, x17, x125] at ha
  have HI : Hid (InW w W L B g uc l ao opts) := hIn
  have HC4 : Hid (∀ W', Mem w W' L → W'.cell? ⟨p4, 1, none⟩ = some (.int .u16 sp)) := hc4
  have HC5 : Hid (∀ W', Mem w W' L → W'.cell? ⟨p5, 1, none⟩ = some (.int .u16 dp)) := hc5
  have n4' : g ≠ p4 := fun e => n4 e.symm
  have n5' : g ≠ p5 := fun e => n5 e.symm
  clear hf x4 x5 x8 x11 x13 x17 x125 g4 g5 g8 g11 g13 g17 g125 df sz hc4 hc5
  subst ha
  have t1 : IntKind.u8.wrap (sp / 256) = sp / 256 := wrap8_small _ (by omega) (by omega)
  have t2 : IntKind.u8.wrap sp = sp % 256 := by simp [IntKind.wrap, IntKind.bits, IntKind.signed]
  have t3 : IntKind.u8.wrap (dp / 256) = dp / 256 := wrap8_small _ (by omega) (by omega)
  have t4 : IntKind.u8.wrap dp = dp % 256 := by simp [IntKind.wrap, IntKind.bits, IntKind.signed]
  have c4 := HC4.out _ hIn.mem
  by_cases hy1 : y = 1
  · simp only [if_pos hy1] at hK
    have HK : Hid (∀ a' W', a'.defers = [] → a'.tmps.size = 185 → a'.tmps.getD 8 undef = v8 → a'.tmps.getD 11 undef = v11 → InW w W' L B g uc (putw l (H + 4) sp) ao opts → K' a' W') := hK
    have z1 : (y == 1) = true := beq_iff_eq.mpr hy1
    have d4 := hIn.own.cell (H + 4) (by omega)
    have d5 := hIn.own.cell (H + 5) (by omega)
    have f4 := hIn.own.free (H + 4)
    have f5 := hIn.own.free (H + 5)
    have u4 : IntKind.i64.wrap ((H : Int) + 4) = (H : Int) + 4 := by rw [IntKind.wrap_i64]; omega
    have u5 : IntKind.i64.wrap ((H : Int) + 5) = (H : Int) + 5 := by rw [IntKind.wrap_i64]; omega
    have j4 : ((H : Int) + 4).toNat = H + 4 := by omega
    have j5 : ((H : Int) + 5).toNat = H + 5 := by omega
    have b4 : (H : Int) + 4 < (un : Int) := by omega
    have b5 : (H : Int) + 5 < (un : Int) := by omega
    generalize l.getD (H + 4) 0 = e4 at d4
    generalize l.getD (H + 5) 0 = e5 at d5
    have HF := HI.out.put hng hw hfar (H + 4) sp
    have HF' : Hid (InW w ((W.setCell ⟨g, H + 4, none⟩ (.int .u8 (sp / 256))).setCell ⟨g, H + 5, none⟩ (.int .u8 (sp % 256))).drew L B g uc (putw l (H + 4) sp) ao opts) := HF
    clear hy1 hK hIn HF HI HC4 HC5 hng hfar hsp hdp hl
    go_upto_region 20 with fail
    go_region
    go_wp2
    exact HK.out _ _ (by first | trivial | rfl) rfl rfl rfl HF'.out
  · simp only [if_neg hy1] at hK
    have HK : Hid (∀ a' W', a'.defers = [] → a'.tmps.size = 185 → a'.tmps.getD 8 undef = v8 → a'.tmps.getD 11 undef = v11 → InW w W' L B g uc (putw (putw l H sp) (H + 2) dp) ao opts → K' a' W') := hK
    have z1 : (y == 1) = false := beq_eq_false_iff_ne.mpr hy1
    have d0 := hIn.own.cell H (by omega)
    have d1 := hIn.own.cell (H + 1) (by omega)
    have f0 := hIn.own.free H
    have f1 := hIn.own.free (H + 1)
    have u1 : IntKind.i64.wrap ((H : Int) + 1) = (H : Int) + 1 := by rw [IntKind.wrap_i64]; omega
    have u2 : IntKind.i64.wrap ((H : Int) + 2) = (H : Int) + 2 := by rw [IntKind.wrap_i64]; omega
    have u3 : IntKind.i64.wrap ((H : Int) + 3) = (H : Int) + 3 := by rw [IntKind.wrap_i64]; omega
    have j1 : ((H : Int) + 1).toNat = H + 1 := by omega
    have j2 : ((H : Int) + 2).toNat = H + 2 := by omega
    have j3 : ((H : Int) + 3).toNat = H + 3 := by omega
    have b0 : (H : Int) < (un : Int) := by omega
    have b1 : (H : Int) + 1 < (un : Int) := by omega
    have b2 : (H : Int) + 2 < (un : Int) := by omega
    have b3 : (H : Int) + 3 < (un : Int) := by omega
    generalize l.getD H 0 = e0 at d0
    generalize l.getD (H + 1) 0 = e1 at d1
    have HF : Hid (InW w ((W.setCell ⟨g, H, none⟩ (.int .u8 (sp / 256))).setCell ⟨g, H + 1, none⟩ (.int .u8 (sp % 256))).drew L B g uc (putw l H sp) ao opts) := HI.out.put hng hw hfar H sp
    clear hy1 hK hIn HI HC4 hsp hdp
    go_upto_region 21 with fail
    go_region
    go_upto_region 22 with fail
    refine wp_letter (fun W => InW w W L B g uc (putw l H sp) ao opts) HF.out ?_
    intro wd hId
    clear HF d0 d1 f0 f1 c4
    have c5 := HC5.out _ hId.mem
    have d2 := hId.own.cell (H + 2) (by rw [putw_len]; omega)
    have d3 := hId.own.cell (H + 3) (by rw [putw_len]; omega)
    have f2 := hId.own.free (H + 2)
    have f3 := hId.own.free (H + 3)
    have HF' : Hid (InW w ((wd.setCell ⟨g, H + 2, none⟩ (.int .u8 (dp / 256))).setCell ⟨g, H + 3, none⟩ (.int .u8 (dp % 256))).drew L B g uc (putw (putw l H sp) (H + 2) dp) ao opts) := hId.put hng hw hfar (H + 2) dp
    generalize (putw l H sp).getD (H + 2) 0 = e2 at d2
    generalize (putw l H sp).getD (H + 3) 0 = e3 at d3
    clear hId HC5 hng hfar hl
    go_region
    go_wp2
    exact HK.out _ _ (by first | trivial | rfl) rfl rfl rfl HF'.out
end Go.Proofs.YtjalpbkfpjfigaaGreat

