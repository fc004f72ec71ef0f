/-
  What is changed: Diff, for whatever tenants that are not too great.
-/
import Derived.Test.YtbccadbnaggkhaaGreatKE32
import Derived.Test.YtbccadbnaggkhaaGreatKE16
namespace Go.Proofs.YtbccadbnaggkhaaGreat
open Go.RowKit
open Sm
open Cf
open Df
set_option linter.unusedVariables false
set_option linter.unusedSimpArgs false
set_option maxRecDepth 20000

namespace Df
theorem infoH : (Tryz.prog.info? 47).map (fun i => (i.zero, i.size, i.bytes)) = some (some (.agg hz0), 35, 184) := by kernel_rfl
theorem bsliceH (y : Hv) (hl : TLen y.1.t) (V : World) : (Instr.buildSlice 23 1 #[(0, .agg (yc y).toArray)]).run Tryz.prog V = .ok (.slice (some ⟨V.heap.size, 0, none⟩) 1 1) (V.alloc (.cells (yc y).toArray 47)) := by
  obtain ⟨⟨put, name, n, vn, key, vt, vm, ho, po, lo, hi, fi, st, tw, se, qu, ra, bu⟩, p, s, q⟩ := y
  obtain ⟨h1, h2, h3⟩ := hl
  obtain ⟨a, b, c, d, f, g, x, y, rfl⟩ := eight8 h1
  obtain ⟨a1, b1, c1, d1, f1, g1, rfl⟩ := six6 h2
  obtain ⟨a2, b2, c2, d2, f2, g2, rfl⟩ := six6 h3
  obtain ⟨os, tape, heap⟩ := V
  kernel_rfl
/-- A change that takes away, one that puts. -/
def yN (s : ByteArray) : Hv := (⟨false, s, ten0⟩, nilV, nilV, nilV)
def yP (s : ByteArray) (z : Tv) : Hv := (⟨true, s, z.1⟩, z.2)
theorem build_n (s : ByteArray) (V : World) : (Instr.build 47 #[(1, .string s)]).run Tryz.prog V = .ok (.agg (yc (yN s)).toArray) V := by kernel_rfl
theorem build_p (s : ByteArray) (z : Tv) (hl : TLen z.1) (V : World) : (Instr.build 47 #[(0, .bool true), (1, .string s), (2, tv z)]).run Tryz.prog V = .ok (.agg (yc (yP s z)).toArray) V := by
  obtain ⟨⟨n, vn, key, vt, vm, ho, po, lo, hi, fi, st, tw, se, qu, ra, bu⟩, p, s', q⟩ := z
  obtain ⟨h1, h2, h3⟩ := hl
  obtain ⟨a, b, c, d, f, g, x, y, rfl⟩ := eight8 h1
  obtain ⟨a1, b1, c1, d1, f1, g1, rfl⟩ := six6 h2
  obtain ⟨a2, b2, c2, d2, f2, g2, rfl⟩ := six6 h3
  kernel_rfl
theorem zb_nil (s : ByteArray) : ZB (yz (yN s)) [] := ⟨ten0_len, [], [], [], by simp, OwB.nil _ _, OwB.nil _ _, OwB.nil _ _⟩
theorem yb_one {y : Hv} {C : List (Nat × Obj)} (h : ZB (yz y) C) : ∀ u ∈ yc y, u.oneCell' = true := by
  intro u hu
  rw [yc_eq] at hu
  simp only [List.mem_cons] at hu
  rcases hu with rfl | rfl | hu
  · rfl
  · rfl
  · exact zb_one h u hu
theorem ow_chg {w W V : World} {v : Value} {xs : List Hv} {C C' : List (Nat × Obj)} {y : Hv} (hO : Ow w W 47 35 v xs.length (xs.map yc).flatten C) (hZ : ∀ y ∈ xs, ZB (yz y) C) (hM : Mem W V C') (hz : ZB (yz y) C') (hn : xs.length ≤ 100000) {gs : Nat} (hg : V.heap.size = gs) :
    ∃ a m c V', (Builtin.append_ #[23, 23] 23 #[v, .slice (some ⟨gs, 0, none⟩) 1 1]).run Tryz.prog (V.alloc (.cells (yc y).toArray 47)) = .ok (.slice a m c) V' ∧
      Ow w V' 47 35 (.slice a m c) (xs ++ [y]).length ((xs ++ [y]).map yc).flatten (C ++ C') ∧ ∀ x ∈ xs ++ [y], ZB (yz x) (C ++ C') := by
  subst hg
  have h1 := (hO.join hM).after ((Below.refl V.heap.size V).alloc (Nat.le_refl _) (.cells (yc y).toArray 47))
  obtain ⟨v', V', hr, hO'⟩ := ow_append (ty := 23) Tryz.underlying23 infoH (by kernel_rfl) (by decide) h1 ⟨V.heap.size, 0, none⟩ 1 1 (yc y) (by rw [yc_len hz.1]) (fun j u hj => by
    rw [Addr.add_mid, Nat.zero_add, World.cell?_alloc_new]
    simpa using hj) (yb_one hz) (by unfold maxLen; omega) (by omega)
  obtain ⟨B, hB, -⟩ := hO'.owb
  obtain ⟨a, m, c, rfl⟩ := owb_slice hB
  refine ⟨a, m, c, V', hr, ?_, fun x hx => ?_⟩
  · rw [List.length_append, List.map_append, List.flatten_append]
    simpa using hO'
  · rcases List.mem_append.1 hx with hx | hx
    · exact (hZ x hx).more fun p hp => by simp [hp]
    · rw [List.mem_singleton] at hx
      subst hx
      exact hz.more fun p hp => by simp [hp]
theorem ow_yv {w W : World} {v : Value} {xs : List Hv} {C : List (Nat × Obj)} (hO : Ow w W 47 35 v xs.length (xs.map yc).flatten C) (hZ : ∀ y ∈ xs, ZB (yz y) C) : YV W v xs := by
  obtain ⟨B, hB, hM⟩ := hO.owb
  refine ⟨owb_rw' (fun x hx => ?_) (by rw [List.length_map]; exact hB) fun p hp => hM.at_ p (by simp [hp]), fun y hy => zb_rws (hZ y hy) fun p hp => hM.at_ p (by simp [hp])⟩
  obtain ⟨y, hy, rfl⟩ := List.mem_map.mp hx
  exact yc_len (hZ y hy).1
theorem two_maps {w : World} {g h : Nat} : Rw (w.alloc (.cells #[.map (some g), .map (some h)] 51 (0, 0))) 1 (.slice (some ⟨w.heap.size, 0, none⟩) 2 2) [[.map (some g)], [.map (some h)]] := by
  refine ⟨some ⟨w.heap.size, 0, none⟩, 2, rfl, Nat.le_refl _, by omega, nofun, Or.inr ⟨w.heap.size, 0, rfl, fun i hi j u hj => ?_⟩⟩
  have hi2 : i = 0 ∨ i = 1 := by simp at hi; omega
  rw [World.cell?_alloc_new]
  rcases hi2 with rfl | rfl
  · have hj0 : j = 0 := by
      have := (List.getElem?_eq_some_iff.mp hj).1
      simp [List.getD] at this
      exact this
    subst hj0
    simpa [List.getD] using hj
  · have hj0 : j = 0 := by
      have := (List.getElem?_eq_some_iff.mp hj).1
      simp [List.getD] at this
      exact this
    subst hj0
    simpa [List.getD] using hj
theorem look_fst (n : List UInt8) (M : List Tv) : look nk n (M.map Prod.fst) = (look fk n M).map Prod.fst := (map_look (f := fk) (g := nk) (h := Prod.fst) (fun _ => rfl) n M).symm
end Df
end Go.Proofs.YtbccadbnaggkhaaGreat

