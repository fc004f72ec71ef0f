/-
  lychref8.Inner: the loop that puts the addresses in, as a piece of the function's own code.
-/
import Derived.Test.YtjalpbkfpjfigaaGreatM43
import Derived.Test.YtjalpbkfpjfigaaGreatM35
import Derived.Test.YtjalpbkfpjfigaaGreatM38
import Derived.Deep.CutBlock
namespace Go.Proofs.YtjalpbkfpjfigaaGreat
open Go.RowKit
open Sm
set_option linter.unusedVariables false

/-- The block of this number within a code. -/
def blk (k : Nat) : Code → Option Code
  | .seq a b => match blk k a with
    | some c => some c
    | none => blk k b
  | .cond _ a b => match blk k a with
    | some c => some c
    | none => blk k b
  | .block id c => if id = k then some (.block id c) else blk k c
  | .loop c => blk k c
  | _ => none

theorem arr_range (n : Nat) (t : Array Value) (h : t.size = n) : t = ((List.range n).map (fun k => t.getD k undef)).toArray := by
  subst h
  apply Array.ext
  · simp
  · intro i h1 h2
    simp [Array.getD, h1]
set_option maxRecDepth 100000 in
theorem range185 (f : Nat → Value) : ((List.range 185).map f).toArray = #[f 0, f 1, f 2, f 3, f 4, f 5, f 6, f 7, f 8, f 9, f 10, f 11, f 12, f 13, f 14, f 15, f 16, f 17, f 18, f 19, f 20, f 21, f 22, f 23, f 24, f 25, f 26, f 27, f 28, f 29, f 30, f 31, f 32, f 33, f 34, f 35, f 36, f 37, f 38, f 39, f 40, f 41, f 42, f 43, f 44, f 45, f 46, f 47, f 48, f 49, f 50, f 51, f 52, f 53, f 54, f 55, f 56, f 57, f 58, f 59, f 60, f 61, f 62, f 63, f 64, f 65, f 66, f 67, f 68, f 69, f 70, f 71, f 72, f 73, f 74, f 75, f 76, f 77, f 78, f 79, f 80, f 81, f 82, f 83, f 84, f 85, f 86, f 87, f 88, f 89, f 90, f 91, f 92, f 93, f 94, f 95, f 96, f 97, f 98, f 99, f 100, f 101, f 102, f 103, f 104, f 105, f 106, f 107, f 108, f 109, f 110, f 111, f 112, f 113, f 114, f 115, f 116, f 117, f 118, f 119, f 120, f 121, f 122, f 123, f 124, f 125, f 126, f 127, f 128, f 129, f 130, f 131, f 132, f 133, f 134, f 135, f 136, f 137, f 138, f 139, f 140, f 141, f 142, f 143, f 144, f 145, f 146, f 147, f 148, f 149, f 150, f 151, f 152, f 153, f 154, f 155, f 156, f 157, f 158, f 159, f 160, f 161, f 162, f 163, f 164, f 165, f 166, f 167, f 168, f 169, f 170, f 171, f 172, f 173, f 174, f 175, f 176, f 177, f 178, f 179, f 180, f 181, f 182, f 183, f 184] := by kernel_rfl
theorem frame185 (a : Act) (hd : a.defers = []) (hs : a.tmps.size = 185) : ∃ f : Nat → Value, (∀ k, a.tmps.getD k undef = f k) ∧ a = ⟨#[f 0, f 1, f 2, f 3, f 4, f 5, f 6, f 7, f 8, f 9, f 10, f 11, f 12, f 13, f 14, f 15, f 16, f 17, f 18, f 19, f 20, f 21, f 22, f 23, f 24, f 25, f 26, f 27, f 28, f 29, f 30, f 31, f 32, f 33, f 34, f 35, f 36, f 37, f 38, f 39, f 40, f 41, f 42, f 43, f 44, f 45, f 46, f 47, f 48, f 49, f 50, f 51, f 52, f 53, f 54, f 55, f 56, f 57, f 58, f 59, f 60, f 61, f 62, f 63, f 64, f 65, f 66, f 67, f 68, f 69, f 70, f 71, f 72, f 73, f 74, f 75, f 76, f 77, f 78, f 79, f 80, f 81, f 82, f 83, f 84, f 85, f 86, f 87, f 88, f 89, f 90, f 91, f 92, f 93, f 94, f 95, f 96, f 97, f 98, f 99, f 100, f 101, f 102, f 103, f 104, f 105, f 106, f 107, f 108, f 109, f 110, f 111, f 112, f 113, f 114, f 115, f 116, f 117, f 118, f 119, f 120, f 121, f 122, f 123, f 124, f 125, f 126, f 127, f 128, f 129, f 130, f 131, f 132, f 133, f 134, f 135, f 136, f 137, f 138, f 139, f 140, f 141, f 142, f 143, f 144, f 145, f 146, f 147, f 148, f 149, f 150, f 151, f 152, f 153, f 154, f 155, f 156, f 157, f 158, f 159, f 160, f 161, f 162, f 163, f 164, f 165, f 166, f 167, f 168, f 169, f 170, f 171, f 172, f 173, f 174, f 175, f 176, f 177, f 178, f 179, f 180, f 181, f 182, f 183, f 184], []⟩ := by
  refine ⟨fun k => a.tmps.getD k undef, fun _ => rfl, ?_⟩
  cases a with
  | mk t d =>
    have e := arr_range 185 t hs
    cases hd
    exact congrArg (fun t' => Act.mk t' []) (e.trans (range185 _))

/-- The body, and the sum, with so many words put in. -/
def lkk (V : Nat → Int) (l : List Int) : Nat → List Int
  | 0 => l
  | k + 1 => putw (lkk V l k) (12 + 2 * k) (V k)
def skk (V : Nat → Int) (l : List Int) (S : Int) : Nat → Int
  | 0 => S
  | k + 1 => updv (skk V l S k) (w16 (lkk V l k) (12 + 2 * k)) (V k)
theorem lkk_len (V : Nat → Int) (l : List Int) (k : Nat) : (lkk V l k).length = l.length := by
  induction k with
  | zero => rfl
  | succ k ih => rw [lkk, putw_len, ih]
theorem lkk_bytes {V : Nat → Int} {l : List Int} (hb : IsBytes l) (hV : ∀ k, 0 ≤ V k ∧ V k ≤ 65535) (h : 20 ≤ l.length) (k : Nat) (hk : k ≤ 4) : IsBytes (lkk V l k) := by
  induction k with
  | zero => exact hb
  | succ k ih => exact putw_bytes (ih (by omega)) _ _ (by rw [lkk_len]; omega) (hV k).1 (hV k).2
theorem skk_range {V : Nat → Int} {l : List Int} {S : Int} (hS : 0 ≤ S ∧ S ≤ 65535) (k : Nat) : 0 ≤ skk V l S k ∧ skk V l S k ≤ 65535 := by
  cases k with
  | zero => exact hS
  | succ k => exact updv_range _ _ _

structure InW (w W : World) (L : List (Nat × Obj)) (B g uc : Nat) (l : List Int) (ao : Option Addr) (opts : List Int) : Prop where
  mem : Mem w W L
  own : OwnB W B g uc l
  row : Row W ao opts

set_option maxRecDepth 20000 in
set_option maxHeartbeats 2000000 in
theorem inn_loop {w W : World} {L : List (Nat × Obj)} {B g uc un N : Nat} {l : List Int} {ao : Option Addr} {opts : List Int} {V : Nat → Int} {S : Int} {v4 v5 v8 v9 v11 v16 v17 : Value} {a : Act} (df : a.defers = []) (sz : a.tmps.size = 185)
    (g4 : a.tmps.getD 4 undef = v4) (g5 : a.tmps.getD 5 undef = v5) (g8 : a.tmps.getD 8 undef = v8) (g9 : a.tmps.getD 9 undef = v9) (g11 : a.tmps.getD 11 undef = v11) (g13 : a.tmps.getD 13 undef = .slice (some ⟨g, 0, none⟩) un uc) (g16 : a.tmps.getD 16 undef = v16) (g17 : a.tmps.getD 17 undef = v17)
    (g19 : a.tmps.getD 19 undef = .int .u16 S) (g20 : a.tmps.getD 20 undef = .slice (some ⟨N, 0, none⟩) 4 4) (g21 : a.tmps.getD 21 undef = .int .i64 0)
    (hIn : InW w W L B g uc l ao opts) (hN : (N, Obj.cells #[.int .u16 (V 0), .int .u16 (V 1), .int .u16 (V 2), .int .u16 (V 3)] 30 (0, 0)) ∈ L) (hng : ∀ q ∈ L, q.1 ≠ g) (hw : w.heap.size ≤ g) (hfar : Far g ao opts)
    (hl : l.length = un) (h20 : 20 ≤ un) (hun : un ≤ 70000) (hb : IsBytes l) (hV : ∀ k, 0 ≤ V k ∧ V k ≤ 65535) (hS : 0 ≤ S ∧ S ≤ 65535)
    (cd : Code) (hcd : blk 0 (Tryz.f13.body.getD .skip) = some cd) (K' : Act → World → Prop) (R : Ending → World → Prop)
    (hK : ∀ a' W', a'.defers = [] → a'.tmps.size = 185 → a'.tmps.getD 4 undef = v4 → a'.tmps.getD 5 undef = v5 → a'.tmps.getD 8 undef = v8 → a'.tmps.getD 9 undef = v9 → a'.tmps.getD 11 undef = v11 → a'.tmps.getD 13 undef = .slice (some ⟨g, 0, none⟩) un uc → a'.tmps.getD 16 undef = v16 → a'.tmps.getD 17 undef = v17 →
      a'.tmps.getD 19 undef = .int .u16 (skk V l S 4) → InW w W' L B g uc (lkk V l 4) ao opts → K' a' W') : Code.wp Tryz.prog cd (Exit.then K' (bodyPost Tryz.prog Tryz.f13 R)) a W := by
  conv at hcd => lhs; whnf
  injection hcd with hcd
  subst hcd
  obtain ⟨f, hf, ha⟩ := frame185 a df sz
  have x4 := (hf 4).symm.trans g4
  have x5 := (hf 5).symm.trans g5
  have x8 := (hf 8).symm.trans g8
  have x9 := (hf 9).symm.trans g9
  have x11 := (hf 11).symm.trans g11
  have x13 := (hf 13).symm.trans g13
  have x16 := (hf 16).symm.trans g16
  have x17 := (hf 17).symm.trans g17
  have x19 := (hf 19).symm.trans g19
  have x20 := (hf 20).symm.trans g20
  have x21 := (hf 21).symm.trans g21
  simp only [x4, x5, x8, x9, x11, x13, x16, x17, x19, x20, x21] at ha
  have HK : Hid _ := hK
  have HIn : Hid (InW w W L B g uc l ao opts) := hIn
  clear hf x4 x5 x8 x9 x11 x13 x16 x17 x19 x20 x21 g4 g5 g8 g9 g11 g13 g16 g17 g19 g20 g21 df sz hK hIn
  subst ha
  go_upto_region 14 with fail
  refine wp_loop (fun a' w' => a'.defers = [] ∧ a'.tmps.size = 185 ∧ a'.tmps.getD 4 undef = v4 ∧ a'.tmps.getD 5 undef = v5 ∧ a'.tmps.getD 8 undef = v8 ∧ a'.tmps.getD 9 undef = v9 ∧ a'.tmps.getD 11 undef = v11 ∧ a'.tmps.getD 13 undef = .slice (some ⟨g, 0, none⟩) un uc ∧ a'.tmps.getD 16 undef = v16 ∧ a'.tmps.getD 17 undef = v17 ∧
    a'.tmps.getD 20 undef = .slice (some ⟨N, 0, none⟩) 4 4 ∧ ∃ k : Nat, k ≤ 4 ∧ a'.tmps.getD 21 undef = .int .i64 k ∧ a'.tmps.getD 19 undef = .int .u16 (skk V l S k) ∧ InW w w' L B g uc (lkk V l k) ao opts) (fun a' _ => 4 - (intOf (a'.tmps.getD 21 undef)).toNat) ?atStart ?round
  case atStart => exact ⟨rfl, rfl, rfl, rfl, rfl, rfl, rfl, rfl, rfl, rfl, rfl, 0, by omega, rfl, rfl, HIn.out⟩
  case round =>
    clear HIn
    rintro a' wr ⟨df, sz, g4, g5, g8, g9, g11, g13, g16, g17, g20, k, hk, g21, g19, hIn⟩
    obtain ⟨f, hf, ha⟩ := frame185 a' df sz
    rw [hf] at g4 g5 g8 g9 g11 g13 g16 g17 g19 g20 g21
    simp only [g4, g5, g8, g9, g11, g13, g16, g17, g19, g20, g21] at ha
    clear hf g4 g5 g8 g9 g11 g13 g16 g17 g19 g20 g21 sz df
    subst ha
    by_cases hlt : k < 4
    · have q0 : (k : Int) < 4 := by omega
      have hlk := lkk_len V l k
      have hbk := lkk_bytes hb hV (by omega) k (by omega)
      have hsk := skk_range (V := V) (l := l) hS k
      have hvk := hV k
      obtain ⟨Sk1, hS1⟩ : ∃ x, x = skk V l S (k + 1) := ⟨_, rfl⟩
      obtain ⟨lk1, hl1⟩ : ∃ x, x = lkk V l (k + 1) := ⟨_, rfl⟩
      have HX : Hid (Sk1 = updv (skk V l S k) (w16 (lkk V l k) (12 + 2 * k)) (V k)) := hS1
      have HY : Hid (lk1 = putw (lkk V l k) (12 + 2 * k) (V k)) := hl1
      have HZ : Hid (Sk1 = skk V l S (k + 1) ∧ lk1 = lkk V l (k + 1)) := ⟨hS1, hl1⟩
      clear hS1 hl1
      have hcN : ∀ W', Mem w W' L → W'.cell? ⟨N, k, none⟩ = some (.int .u16 (V k)) := fun W' hm => by
        rw [cell_of (hm.at_ _ hN)]
        match k, hlt with
        | 0, _ => rfl
        | 1, _ => rfl
        | 2, _ => rfl
        | 3, _ => rfl
      have HcN : Hid (∀ W', Mem w W' L → W'.cell? ⟨N, k, none⟩ = some (.int .u16 (V k))) := hcN
      generalize lkk V l k = lk at *
      generalize skk V l S k = Sk at *
      have hw12 := w16_range hbk (12 + 2 * k)
      have HG : Hid (∀ W, (W.cell? ⟨N, k, none⟩ = some (.int .u16 (V k)) ∧ InW w W L B g uc lk ao opts) → Calls Tryz.prog 41 #[.slice (some ⟨g, 0, none⟩) un uc, .int .i64 (12 + 2 * (k : Int))] W fun e w' => e = .returned (.int .u16 (w16 lk (12 + 2 * k))) ∧ (w'.cell? ⟨N, k, none⟩ = some (.int .u16 (V k)) ∧ InW w w' L B g uc lk ao opts)) := fun W hS => by
        have c := get16_own hS.2.own hbk (by omega) (12 + 2 * k) un uc (by omega) (by omega)
        rw [show (((12 + 2 * k : Nat) : Int)) = 12 + 2 * (k : Int) by omega] at c
        refine c.mono ?_
        rintro e w' ⟨rfl, ho, hon⟩
        have hM' := hon.mem hS.2.mem hw hng
        exact ⟨rfl, HcN.out _ hM', hM', ho, hon.turn.row hS.2.row hfar⟩
      generalize w16 lk (12 + 2 * k) = X at *
      have HUp : Hid (∀ W, Calls Tryz.prog 42 #[.int .u16 Sk, .int .u16 X, .int .u16 (V k)] W fun e w' => e = .returned (.int .u16 Sk1) ∧ W = w') := fun W => by rw [HX.out]; exact rupdate_any _ _ _ W hsk.1 hsk.2 hw12.1 hw12.2 hvk.1 hvk.2
      have HIn0 : Hid (wr.drew.cell? ⟨N, k, none⟩ = some (.int .u16 (V k)) ∧ InW w wr.drew L B g uc lk ao opts) := ⟨HcN.out _ hIn.mem.drew, hIn.mem.drew, hIn.own, row_drew hIn.row⟩
      have cN : wr.cell? ⟨N, k, none⟩ = some (.int .u16 (V k)) := HcN.out _ hIn.mem
      have u1 : IntKind.i64.wrap (2 * (k : Int)) = 2 * (k : Int) := by rw [IntKind.wrap_i64]; omega
      have u2 : IntKind.i64.wrap (12 + 2 * (k : Int)) = 12 + 2 * (k : Int) := by rw [IntKind.wrap_i64]; omega
      have k4 : k < 4 := hlt
      clear hIn
      go_upto_region 16 with fail
      go_region_held3 (fun w' => w'.cell? ⟨N, k, none⟩ = some (.int .u16 (V k)) ∧ InW w w' L B g uc lk ao opts) (first | assumption | exact HIn0.out)
        (first
          | (go_at_call 41; refine (HG.out _ (by assumption)).mono ?_; rintro e wa ⟨rfl, hSa⟩)
          | (go_at_call 42; refine (HUp.out _).mono ?_; rintro e wb ⟨rfl, rfl⟩))
      clear HIn0 HG HUp cN
      have HSa : Hid (InW w wa L B g uc lk ao opts) := hSa.2
      have cN : wa.cell? ⟨N, k, none⟩ = some (.int .u16 (V k)) := hSa.1
      have cg : wa.cell? ⟨g, 12 + 2 * k, none⟩ = some (.int .u8 (lk.getD (12 + 2 * k) 0)) := hSa.2.own.cell _ (by omega)
      have ch : wa.cell? ⟨g, 13 + 2 * k, none⟩ = some (.int .u8 (lk.getD (13 + 2 * k) 0)) := hSa.2.own.cell _ (by omega)
      have fg : ∀ i, wa.frozen? ⟨g, i, none⟩ = false := fun i => hSa.2.own.free i
      have ngN : g ≠ N := fun e => hng _ hN e.symm
      have ngN' : N ≠ g := fun e => ngN e.symm
      have u3 : IntKind.i64.wrap (13 + 2 * (k : Int)) = 13 + 2 * (k : Int) := by rw [IntKind.wrap_i64]; omega
      have i1 : (12 + 2 * (k : Int)) < (un : Int) := by omega
      have i2 : (13 + 2 * (k : Int)) < (un : Int) := by omega
      have j1 : (12 + 2 * (k : Int)).toNat = 12 + 2 * k := by omega
      have j2 : (13 + 2 * (k : Int)).toNat = 13 + 2 * k := by omega
      have p1 : 12 + 2 * k < un := by omega
      have p2 : 13 + 2 * k < un := by omega
      have f12 := fg (12 + 2 * k)
      have f13 := fg (13 + 2 * k)
      generalize lk.getD (12 + 2 * k) 0 = z1 at cg
      generalize lk.getD (13 + 2 * k) 0 = z2 at ch
      have HYk : Hid (lk1 = putw lk (12 + 2 * k) (V k)) := HY.out
      generalize V k = v at *
      obtain ⟨v0, v1⟩ := hvk
      have t1 : IntKind.u8.wrap (v / 256) = v / 256 := wrap8_small _ (by omega) (by omega)
      have t2 : IntKind.u8.wrap v = v % 256 := by simp [IntKind.wrap, IntKind.bits, IntKind.signed]
      clear hSa fg hlk hbk hsk hw12 HX HY
      go_upto_region 17 with fail
      have HF : Hid (InW w ((wa.setCell ⟨g, 12 + 2 * k, none⟩ (.int .u8 (v / 256))).setCell ⟨g, 13 + 2 * k, none⟩ (.int .u8 (v % 256))).drew L B g uc lk1 ao opts) := by
        refine ⟨((((Only.refl g wa).set (12 + 2 * k) _).set (13 + 2 * k) _).mem HSa.out.mem hw hng).drew, ?_, row_drew ((HSa.out.row.beside hfar).beside hfar)⟩
        have q := (HSa.out.own.store (12 + 2 * k) (v / 256)).store (13 + 2 * k) (v % 256)
        rw [HYk.out, putw, show 12 + 2 * k + 1 = 13 + 2 * k by omega]
        exact q
      go_region
      go_wp2
      refine ⟨⟨by first | trivial | rfl, rfl, rfl, rfl, rfl, rfl, rfl, rfl, rfl, rfl, rfl, k + 1, by omega, ?_, ?_, by rw [← HZ.out.2]; exact HF.out⟩, ?_⟩
      · show Value.int IntKind.i64 ((k : Int) + 1) = _
        exact congrArg (Value.int IntKind.i64) (by omega)
      · rw [← HZ.out.1]; rfl
      · show 4 - (intOf (Value.int IntKind.i64 ((k : Int) + 1))).toNat < 4 - (intOf (Value.int IntKind.i64 (k : Int))).toNat
        simp only [intOf]; omega
    · obtain rfl : k = 4 := by omega
      have HI : Hid (InW w wr L B g uc (lkk V l 4) ao opts) := hIn
      generalize lkk V l 4 = l4 at *
      generalize skk V l S 4 = S4 at *
      clear hIn
      go_wp2
      exact HK.out _ _ (by first | trivial | rfl) rfl rfl rfl rfl rfl rfl rfl rfl rfl rfl HI.out
end Go.Proofs.YtjalpbkfpjfigaaGreat

