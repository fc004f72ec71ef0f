/-
  Keys as text: the program's Key and the document's own, at every text.
-/
import Derived.Test.YtkkbnagfndphpaaDoorAdRead
namespace Go.Proofs.YtkkbnagfndphpaaDoor
open Go.RowKit
open Ad
open Sm (IsBytes)
set_option linter.unusedVariables false

abbrev z8 : List Int := [0, 0, 0, 0, 0, 0, 0, 0]
/-- What is answered: the bytes, or noughts; the error, or none. -/
def kv (o : Option (List Int)) : Value := .agg (ab (o.getD z8))
def le {α : Type} (o : Option α) : Int := if o.isSome then 0 else 60
theorem two_blocks (w : World) (a b : Obj) : Mem w ((w.alloc a).alloc b) [(w.heap.size + 1, b), (w.heap.size, a)] := by
  have h := ((Mem.nil w).push w.heap.size a rfl).push (w.heap.size + 1) b (by simp)
  exact h.perm (List.Perm.swap _ _ _)
theorem results_two {fn : Func} {p q : Tmp} {ty : TypeId} (h : fn.results = #[.cell p ty, .tmp q]) (tmps : Array Value) (w : World) (g : Nat) (cs : Array Value)
    (hp : tmps.getD p undef = .pointer (some ⟨g, 0, none⟩)) (hl : (loadVar ty ⟨g, 0, none⟩).run Tryd.prog w = .ok (.agg cs) w) :
    (results fn tmps).run Tryd.prog w = .ok (.tuple #[.agg cs, tmps.getD q undef]) w := by
  have hp' : tmps[p]?.getD undef = .pointer (some ⟨g, 0, none⟩) := by simpa using hp
  simp [results, h, hp', asAddr, hl]
theorem post_let {P : Program} {fn : Func} {R : Ending → World → Prop} {e : Exit} {a : Act} {W : World} (S : World → Prop) (h : S W) (k : ∀ W', S W' → bodyPost P fn R e a W') : bodyPost P fn R e a W := k W h
theorem Mem.byte {w W : World} {g : Nat} {T : TypeId} {L : List (Nat × Obj)} {l : List Int} (h : Mem w W ((g, .cells (ab l) T (0, 0)) :: L)) (j : Nat) (x : Int) :
    Mem w (W.setCell ⟨g, j, none⟩ (.int .u8 x)) ((g, .cells (ab (l.set j x)) T (0, 0)) :: L) := by
  have := h.set 0 rfl j (.int .u8 x)
  rw [ab_set] at this
  exact this
theorem Mem.flip {w W : World} {p q : Nat × Obj} {L : List (Nat × Obj)} (h : Mem w W (p :: q :: L)) : Mem w W (q :: p :: L) := h.perm (List.Perm.swap _ _ _)
/-- A row of bytes put into a block of as many, cell by cell. -/
theorem Mem.put8 {w W : World} {g : Nat} {T : TypeId} {L : List (Nat × Obj)} {o : List Int} (h : Mem w W ((g, .cells (ab o) T (0, 0)) :: L)) (ho : o.length = 8) (a b c d e f x y : Int) :
    Mem w ((((((((W.setCell ⟨g, 0, none⟩ (.int .u8 a)).setCell ⟨g, 1, none⟩ (.int .u8 b)).setCell ⟨g, 2, none⟩ (.int .u8 c)).setCell ⟨g, 3, none⟩ (.int .u8 d)).setCell ⟨g, 4, none⟩ (.int .u8 e)).setCell ⟨g, 5, none⟩ (.int .u8 f)).setCell ⟨g, 6, none⟩ (.int .u8 x)).setCell ⟨g, 7, none⟩ (.int .u8 y)) ((g, .cells (ab [a, b, c, d, e, f, x, y]) T (0, 0)) :: L) := by
  obtain ⟨p0, p1, p2, p3, p4, p5, p6, p7, rfl⟩ := eight ho
  exact (((((((h.byte 0 a).byte 1 b).byte 2 c).byte 3 d).byte 4 e).byte 5 f).byte 6 x).byte 7 y
/-- The same of six. -/
theorem Mem.put6 {w W : World} {g : Nat} {T : TypeId} {L : List (Nat × Obj)} {o : List Int} (h : Mem w W ((g, .cells (ab o) T (0, 0)) :: L)) (ho : o.length = 6) (a b c d e f : Int) :
    Mem w ((((((W.setCell ⟨g, 0, none⟩ (.int .u8 a)).setCell ⟨g, 1, none⟩ (.int .u8 b)).setCell ⟨g, 2, none⟩ (.int .u8 c)).setCell ⟨g, 3, none⟩ (.int .u8 d)).setCell ⟨g, 4, none⟩ (.int .u8 e)).setCell ⟨g, 5, none⟩ (.int .u8 f)) ((g, .cells (ab [a, b, c, d, e, f]) T (0, 0)) :: L) := by
  obtain ⟨p0, p1, p2, p3, p4, p5, rfl⟩ := six ho
  exact (((((h.byte 0 a).byte 1 b).byte 2 c).byte 3 d).byte 4 e).byte 5 f

set_option maxHeartbeats 4000000 in
set_option maxRecDepth 20000 in
theorem key_any (s : ByteArray) (w : World) :
    Calls Tryd.prog 13 #[.string s] w fun e w' => e = .returned (.tuple #[kv (key s.data.toList), .int .i64 (le (key s.data.toList))]) ∧ Below w.heap.size w w' := by
  have hM0 := two_blocks w (.cells (ab z8) 35 (0, 0)) (.cells (ab z8) 35 (0, 0))
  have cR := readHex_any hM0 s 0 8 8 (by simp) (by intro i; match i with | 0 | 1 | 2 | 3 | 4 | 5 | 6 | 7 => simp | i + 8 => simp) (by simp)
  obtain ⟨k1, k2⟩ := rh_key s.data.toList
  cases hk : key s.data.toList with
  | none =>
    have k3 := k2 hk
    obtain ⟨ok, l, hrl⟩ : ∃ ok l, rh s.data.toList 0 8 z8 = (ok, l) := ⟨_, _, rfl⟩
    rw [hrl] at cR
    rw [show rh s.data.toList 0 8 [0, 0, 0, 0, 0, 0, 0, 0] = (ok, l) from hrl] at k3
    have k3 : ok = false := k3
    subst k3
    clear k1 k2 hM0 hrl
    go_enter Tryd.func13, Tryd.ntmps13
    go_wp2_with fail
    refine cR.mono ?_
    rintro e W1 ⟨rfl, hM1⟩
    have c0 := hM1.cell 1 rfl 0
    have c1 := hM1.cell 1 rfl 1
    have c2 := hM1.cell 1 rfl 2
    have c3 := hM1.cell 1 rfl 3
    have c4 := hM1.cell 1 rfl 4
    have c5 := hM1.cell 1 rfl 5
    have c6 := hM1.cell 1 rfl 6
    have c7 := hM1.cell 1 rfl 7
    have f0 := hM1.free 1 rfl
    go_wp2_with fail
    refine post_let (fun W2 => Mem w W2 [(w.heap.size, .cells (ab z8) 35 (0, 0)), (w.heap.size + 1, .cells (ab l) 35 (0, 0))]) (hM1.flip.put8 rfl 0 0 0 0 0 0 0 0) ?_
    intro W2 hM2
    refine bodyPost_ret (v := .tuple #[.agg (ab z8), .int .i64 60]) ?_ rfl ⟨rfl, hM2.below⟩
    exact results_two (p := 2) (q := 3) (ty := 35) rfl _ _ w.heap.size (ab z8) rfl (run_loadVar_row _ _ 35 35 _ (0, 0) _ (hM2.get 0 rfl) Tryd.underlying35 rfl (by kernel_rfl))
  | some r =>
    obtain ⟨k3, k4⟩ := k1 r hk
    obtain ⟨a, b, c, d, e, f, x, y, rfl⟩ := eight k4
    rw [show rh s.data.toList 0 8 z8 = (true, [a, b, c, d, e, f, x, y]) from k3] at cR
    clear k1 k2 hM0 k3 k4 hk
    go_enter Tryd.func13, Tryd.ntmps13
    go_wp2_with fail
    refine cR.mono ?_
    rintro e1 W1 ⟨rfl, hM1⟩
    have c0 : W1.cell? ⟨w.heap.size, 0, none⟩ = some (.int .u8 0) := hM1.cell 1 rfl 0
    have c1 : W1.cell? ⟨w.heap.size, 1, none⟩ = some (.int .u8 0) := hM1.cell 1 rfl 1
    have c2 : W1.cell? ⟨w.heap.size, 2, none⟩ = some (.int .u8 0) := hM1.cell 1 rfl 2
    have c3 : W1.cell? ⟨w.heap.size, 3, none⟩ = some (.int .u8 0) := hM1.cell 1 rfl 3
    have c4 : W1.cell? ⟨w.heap.size, 4, none⟩ = some (.int .u8 0) := hM1.cell 1 rfl 4
    have c5 : W1.cell? ⟨w.heap.size, 5, none⟩ = some (.int .u8 0) := hM1.cell 1 rfl 5
    have c6 : W1.cell? ⟨w.heap.size, 6, none⟩ = some (.int .u8 0) := hM1.cell 1 rfl 6
    have c7 : W1.cell? ⟨w.heap.size, 7, none⟩ = some (.int .u8 0) := hM1.cell 1 rfl 7
    have f0 := hM1.free 1 rfl
    have d0 : W1.cell? ⟨w.heap.size + 1, 0, none⟩ = some (.int .u8 a) := hM1.cell 0 rfl 0
    have d1 : W1.cell? ⟨w.heap.size + 1, 1, none⟩ = some (.int .u8 b) := hM1.cell 0 rfl 1
    have d2 : W1.cell? ⟨w.heap.size + 1, 2, none⟩ = some (.int .u8 c) := hM1.cell 0 rfl 2
    have d3 : W1.cell? ⟨w.heap.size + 1, 3, none⟩ = some (.int .u8 d) := hM1.cell 0 rfl 3
    have d4 : W1.cell? ⟨w.heap.size + 1, 4, none⟩ = some (.int .u8 e) := hM1.cell 0 rfl 4
    have d5 : W1.cell? ⟨w.heap.size + 1, 5, none⟩ = some (.int .u8 f) := hM1.cell 0 rfl 5
    have d6 : W1.cell? ⟨w.heap.size + 1, 6, none⟩ = some (.int .u8 x) := hM1.cell 0 rfl 6
    have d7 : W1.cell? ⟨w.heap.size + 1, 7, none⟩ = some (.int .u8 y) := hM1.cell 0 rfl 7
    go_wp2_with fail
    refine post_let (fun W2 => Mem w W2 [(w.heap.size, .cells (ab [a, b, c, d, e, f, x, y]) 35 (0, 0)), (w.heap.size + 1, .cells (ab [a, b, c, d, e, f, x, y]) 35 (0, 0))]) (hM1.flip.put8 rfl a b c d e f x y) ?_
    intro W2 hM2
    refine bodyPost_ret (v := .tuple #[.agg (ab [a, b, c, d, e, f, x, y]), .int .i64 0]) ?_ rfl ⟨rfl, hM2.below⟩
    exact results_two (p := 2) (q := 3) (ty := 35) rfl _ _ w.heap.size (ab [a, b, c, d, e, f, x, y]) rfl (run_loadVar_row _ _ 35 35 _ (0, 0) _ (hM2.get 0 rfl) Tryd.underlying35 rfl (by kernel_rfl))
end Go.Proofs.YtkkbnagfndphpaaDoor
