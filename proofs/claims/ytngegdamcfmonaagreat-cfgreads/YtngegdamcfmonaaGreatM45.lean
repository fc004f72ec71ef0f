/-
  Settings as bytes: the document's OpenConfig: stores into its box.
-/
import Derived.Test.YtngegdamcfmonaaGreatM44
import Derived.Test.YtngegdamcfmonaaGreatM36
namespace Go.Proofs.YtngegdamcfmonaaGreat
open Go.RowKit
open Sm
open Cf
set_option linter.unusedVariables false
set_option linter.unusedSimpArgs false
set_option maxRecDepth 20000

theorem cc_ip (t : Cgf) (u : Value) (y : Int) : (cc t u).toArray.setIfInBounds 0 (.int .u32 y) = (cc { t with ip := y } u).toArray := rfl
theorem cc_mac (t : Cgf) (u : Value) (y : List Int) (h : CLen t) (hy : y.length = 6) : stL (cc t u).toArray 1 (y.map (Value.int .u8)) = (cc { t with mac := y } u).toArray :=
  stL_mid _ (y.map (Value.int .u8)) (t.mac.map (Value.int .u8)) [.int .u32 t.ip] (by rw [List.length_map, List.length_map, h.mac, hy])
theorem cc_omac (t : Cgf) (u : Value) (y : List Int) (h : CLen t) (hy : y.length = 6) : stL (cc t u).toArray 7 (y.map (Value.int .u8)) = (cc { t with omac := y } u).toArray := by
  have := stL_mid (t.nmac.map (Value.int .u8) ++ (t.key.map (Value.int .u8) ++ [.int .u32 t.drain, u])) (y.map (Value.int .u8)) (t.omac.map (Value.int .u8)) (.int .u32 t.ip :: t.mac.map (Value.int .u8)) (by rw [List.length_map, List.length_map, h.omac, hy])
  rw [show (.int .u32 t.ip :: t.mac.map (Value.int .u8) : List Value).length = 7 by simp [h.mac]] at this
  simpa [cc] using this
theorem cc_nmac (t : Cgf) (u : Value) (y : List Int) (h : CLen t) (hy : y.length = 6) : stL (cc t u).toArray 13 (y.map (Value.int .u8)) = (cc { t with nmac := y } u).toArray := by
  have := stL_mid (t.key.map (Value.int .u8) ++ [.int .u32 t.drain, u]) (y.map (Value.int .u8)) (t.nmac.map (Value.int .u8)) (.int .u32 t.ip :: (t.mac.map (Value.int .u8) ++ t.omac.map (Value.int .u8))) (by rw [List.length_map, List.length_map, h.nmac, hy])
  rw [show (.int .u32 t.ip :: (t.mac.map (Value.int .u8) ++ t.omac.map (Value.int .u8)) : List Value).length = 13 by simp [h.mac, h.omac]] at this
  simpa [cc] using this
theorem cc_key (t : Cgf) (u : Value) (y : List Int) (h : CLen t) (hy : y.length = 8) : stL (cc t u).toArray 19 (y.map (Value.int .u8)) = (cc { t with key := y } u).toArray := by
  have := stL_mid [.int .u32 t.drain, u] (y.map (Value.int .u8)) (t.key.map (Value.int .u8)) (.int .u32 t.ip :: (t.mac.map (Value.int .u8) ++ (t.omac.map (Value.int .u8) ++ t.nmac.map (Value.int .u8)))) (by rw [List.length_map, List.length_map, h.key, hy])
  rw [show (.int .u32 t.ip :: (t.mac.map (Value.int .u8) ++ (t.omac.map (Value.int .u8) ++ t.nmac.map (Value.int .u8))) : List Value).length = 19 by simp [h.mac, h.omac, h.nmac]] at this
  simpa [cc] using this
theorem cc_put {t t' : Cgf} {p p' : Value} {o : Nat} {v : Value} (h : CLen t) (e : ∀ ip a b c d f g a1 b1 c1 d1 f1 g1 a2 b2 c2 d2 f2 g2 k1 k2 k3 k4 k5 k6 k7 k8 dr te,
    t = ⟨ip, [a, b, c, d, f, g], [a1, b1, c1, d1, f1, g1], [a2, b2, c2, d2, f2, g2], [k1, k2, k3, k4, k5, k6, k7, k8], dr, te⟩ → (cc t p).set o v = cc t' p') : (cc t p).toArray.setIfInBounds o v = (cc t' p').toArray := by
  rw [List.setIfInBounds_toArray, cset h e]
theorem cc_drain (t : Cgf) (u : Value) (y : Int) (h : CLen t) : (cc t u).toArray.setIfInBounds 27 (.int .u32 y) = (cc { t with drain := y } u).toArray :=
  cc_put h (by rintro ip a b c d f g a1 b1 c1 d1 f1 g1 a2 b2 c2 d2 f2 g2 k1 k2 k3 k4 k5 k6 k7 k8 dr te rfl; rfl)
theorem cc_ten (t : Cgf) (u u' : Value) (h : CLen t) : (cc t u).toArray.setIfInBounds 28 u' = (cc t u').toArray :=
  cc_put h (by rintro ip a b c d f g a1 b1 c1 d1 f1 g1 a2 b2 c2 d2 f2 g2 k1 k2 k3 k4 k5 k6 k7 k8 dr te rfl; rfl)
/-- The tenants' cell. -/
theorem cc_at28 {t : Cgf} (h : CLen t) (u : Value) : (cc t u).toArray[28]? = some u := by
  obtain ⟨ip, m1, m2, m3, k, dr, te⟩ := t
  obtain ⟨h1, h2, h3, h4⟩ := h
  obtain ⟨a, b, c, d, f, g, rfl⟩ := six6 h1
  obtain ⟨a1, b1, c1, d1, f1, g1, rfl⟩ := six6 h2
  obtain ⟨a2, b2, c2, d2, f2, g2, rfl⟩ := six6 h3
  obtain ⟨k1, k2, k3, k4, k5, k6, k7, k8, rfl⟩ := eight8 h4
  rfl
theorem build_C (V : World) : (Instr.build 28 #[]).run Tryz.prog V = .ok (.agg cz) V := by kernel_rfl
/-- Read to the end. -/
def cwhole : Option (List Int) → Cgf → Option Cgf
  | some [], x => some x
  | some (_ :: _), _ => none
  | none, _ => none
theorem cdec_whole (l : List Int) : cdec l = cwhole (rc (some l)).2 (rc (some l)).1 := by
  rcases cdec_rc l with ⟨h1, h2⟩ | ⟨x, r, h1, h2, h3⟩
  · simp only [cdec, h1, h2, cwhole]
  · rw [h2, h3]
    cases r with
    | nil => simp only [cdec, h1, cwhole]
    | cons b r => simp only [cdec, h1, cwhole]
theorem TsB.moreC {u : Value} {ts : List Ten} {B C D : List (Nat × Obj)} (h : TsB u ts B C) (hs : ∀ x ∈ C, x ∈ D) : TsB u ts B D := by
  obtain ⟨zs, h1, h2, h3⟩ := h
  exact ⟨zs, h1, h2, fun z hz => (h3 z hz).more hs⟩
theorem bsliceT (z : Tv) (hl : TLen z.1) (V : World) : (Instr.buildSlice 26 1 #[(0, .agg (zc z).toArray)]).run Tryz.prog V = .ok (.slice (some ⟨V.heap.size, 0, none⟩) 1 1) (V.alloc (.cells (zc z).toArray 33)) := by
  obtain ⟨⟨n, vn, key, vt, vm, ho, po, lo, hi, fi, st, tw, se, qu, ra, bu⟩, p, s, q⟩ := z
  obtain ⟨h1, h2, h3⟩ := hl
  obtain ⟨a, b, c, d, f, g, x, y, rfl⟩ := eight8 h1
  obtain ⟨a1, b1, c1, d1, f1, g1, rfl⟩ := six6 h2
  obtain ⟨a2, b2, c2, d2, f2, g2, rfl⟩ := six6 h3
  obtain ⟨os, tape, heap⟩ := V
  kernel_rfl
theorem wpList_bsl {ops : Array Oper} {rest : List Oper} {o : Oper} {a : Act} {w w' : World} {Q : Exit → Act → World → Prop} (hw : Region.wanted o (yielded ops a.tmps) = true) (ty : TypeId) (n : Nat) (parts : Array (Nat × Operand)) (ho : o.op = .buildSlice ty n parts) {vs : Array (Nat × Value)} {v : Value}
    (hr : (Instr.buildSlice ty n vs).run Tryz.prog w = .ok v w') (hv : (parts.map fun (i, x) => (i, a.eval x)) = vs) (h : wpList Tryz.prog ops Q rest (a.put o.dst v) w') : wpList Tryz.prog ops Q (o :: rest) a w :=
  wpList_wanted hw fun _ hK => by
    subst hv
    unfold Oper.wp execOp
    simp only [ho, Sem.run_bind, hr, Result.andThen_ok, Sem.run_pure]
    exact hK _ _ h
end Go.Proofs.YtngegdamcfmonaaGreat

