/-
  Settings as bytes: the field of a list's elements (lych/api.Tenant, uint32).
-/
import Derived.Test.YtbccadbnaggkhaaGreatKE07
import Derived.Deep.MidRow
import Derived.Deep.WholeRow
namespace Go.Proofs.YtbccadbnaggkhaaGreat
open Go.RowKit
open Sm
open Cf
set_option linter.unusedVariables false
set_option maxRecDepth 20000

set_option maxHeartbeats 8000000 in
theorem iwr_TU {w W : World} {v : Value} {l : List Int} {L : List (Nat × Obj)} (h : Out w W v l L) (bo bi ko kw kr ks : Nat) (cw cr cs : Array Value) (p p' : Addr) (sv : Value) (xs : List (List Value)) (hx : ∀ x ∈ xs, ∃ z, x = [Value.int .u32 z])
    (co : ∀ V, Mem w V L → V.cell? ⟨bo, 0, none⟩ = some (.func (.func ko) #[] #[]))
    (ci : ∀ V, Mem w V L → V.cell? ⟨bi, 0, none⟩ = some (.func (.func kw) #[] cw) ∧ V.cell? ⟨bi, 1, none⟩ = some (.func (.func kr) #[] cr) ∧ V.cell? ⟨bi, 2, none⟩ = some (.func (.func ks) #[] cs))
    (eo : ∀ args V, (callFunc ko args).run Tryz.prog V = .ok (.enter ko args) V) (ho : ∀ V, Calls Tryz.prog ko #[.pointer (some p)] V fun e V' => e = .returned (.pointer (some p')) ∧ V = V')
    (ew : ∀ args V, (callFunc kw args).run Tryz.prog V = .ok (.enter kw args) V)
    (cx : ∀ V, Mem w V L → V.cell? p' = some sv) (hrow : ∀ V, Mem w V L → Rw V 1 sv xs) (enc : Nat → List Int)
    (hw : ∀ i, i < min xs.length 255 → ∀ ge v l V, Out w V v l ((ge, .cells (xs.getD i []).toArray 26 (0, 0)) :: L) → l.length + (enc i).length ≤ 1000000000 → Calls Tryz.prog kw (#[v, .pointer (some ⟨ge, 0, none⟩)] ++ cw) V fun e V' => ∃ v', e = .returned v' ∧ Out w V' v' (l ++ enc i) L)
    (hb : l.length + (cat enc (min xs.length 255)).length ≤ 1000000000) :
    Calls Tryz.prog 107 #[v, .pointer (some p), .pointer (some ⟨bo, 0, none⟩), .pointer (some ⟨bi, 0, none⟩)] W fun e W' => ∃ v', e = .returned v' ∧ Out w W' v' (l ++ cat enc (min xs.length 255)) L := by
  have c2 := co _ h.mem
  have c3 := cx _ h.mem
  obtain ⟨a, c, rfl, hlc, hcb, ha, -⟩ := hrow _ h.mem
  have CC := counted_TU W a xs.length c hlc hcb ha
  obtain ⟨n, hn⟩ : ∃ n, min xs.length 255 = n := ⟨_, rfl⟩
  have hn1 : n ≤ 255 := by omega
  have hn2 : n ≤ xs.length := by omega
  rw [hn] at CC hw hb ⊢
  have HO : Hid (Out w W v l L) := h
  have HRW : Hid (∀ V, Mem w V L → ∀ i, i < n → ∃ b off, a = some ⟨b, off, none⟩ ∧ V.rangeAt b (off + i * 1) (xs.getD i [])) := by
    intro V hV i hi
    obtain ⟨a', c', e, _, _, _, hr⟩ := hrow V hV
    simp only [Value.slice.injEq] at e
    obtain ⟨rfl, -, rfl⟩ := e
    rcases hr with e | ⟨b, off, rfl, hc⟩
    · rw [e] at hn2; simp at hn2; omega
    · exact ⟨b, off, rfl, fun j u hj => hc i (by omega) j u hj⟩
  have HX : Hid (∀ x ∈ xs, ∃ z, x = [Value.int .u32 z]) := hx
  clear h co cx hrow hlc hcb ha hn hx
  go_enter Tryz.func107, Tryz.ntmps107
  go_wp2_with fail
  refine (ho _).mono ?_
  rintro e V ⟨rfl, rfl⟩
  go_wp2_with fail
  refine CC.mono ?_
  rintro e V ⟨rfl, rfl⟩
  go_wp2_with fail
  go_loopw [0, 16] (fun u0 u16 w' => ∃ i : Nat, i ≤ n ∧ u16 = .int .i64 i ∧ Hid (Out w w' u0 (l ++ cat enc i) L)) (fun u0 u16 w' => n - (intOf u16).toNat)
  case atStart => exact ⟨0, Nat.zero_le _, rfl, by rw [cat, List.append_nil]; exact HO⟩
  case round =>
    obtain ⟨i, hi, rfl, HR⟩ := hrel
    clear c2 c3 CC HO
    by_cases hlt : i < n
    · have h1 : (i : Int) < n := by omega
      obtain ⟨d0, d1, d2⟩ := ci _ HR.out.mem
      obtain ⟨b, off, rfl, hra⟩ := HRW.out _ HR.out.mem i hlt
      have hmem : xs.getD i [] ∈ xs := by
        rw [List.getD_eq_getElem?_getD, List.getElem?_eq_getElem (by omega), Option.getD_some]
        exact List.getElem_mem _
      have HW : Hid (∀ V ge, Out w V u0 (l ++ cat enc i) ((ge, .cells (xs.getD i []).toArray 26 (0, 0)) :: L) → Calls Tryz.prog kw (#[u0, .pointer (some ⟨ge, 0, none⟩)] ++ cw) V fun e V' => ∃ v', e = .returned v' ∧ Out w V' v' (l ++ cat enc (i + 1)) L) := by
        intro V ge hV
        have := hw i hlt ge u0 _ V hV (by rw [List.length_append]; have := cat_le enc i n hlt; omega)
        rwa [List.append_assoc] at this
      have hsh := HX.out _ hmem
      generalize xs.getD i [] = x at hra hsh HW
      clear hw hmem HRW HX
      obtain ⟨z, rfl⟩ := hsh
      have d3 : wr.cell? ⟨b, off + i, none⟩ = some (.int .u32 z) := by have := hra 0 _ rfl; simpa using this
      have HO2 := HR.out.add (o := .cells #[.int .u32 z] 26 (0, 0)) (g := wr.heap.size) rfl
      have d5 := (ci _ HO2.mem.sub).1
      go_wp2_with fail
      refine (HW.out _ wr.heap.size HO2).mono ?_
      rintro e V ⟨v', rfl, hH⟩
      have HH : Hid (Out w V v' (l ++ cat enc (i + 1)) L) := hH
      clear hH HW HR HO2
      go_wp2_with fail
      go_roundw
      case rel => exact ⟨i + 1, by omega, by go_num, HH⟩
      case measure => simp [intOf]; omega
    · have h1 : ¬ ((i : Int) < n) := by omega
      obtain rfl : i = n := by omega
      go_wp2_with fail
      go_ret
      exact ⟨_, rfl, HR.out⟩

set_option maxHeartbeats 4000000 in
theorem ird_TU {σ : Type} {w : World} {L : List (Nat × Obj)} {J : σ → World → Prop} (hst : ∀ s V V', J s V → Below V.heap.size V V' → J s V') (hJL : ∀ s V, J s V → Mem w V L) (bo bi ko kw kr ks : Nat) (cw cr cs : Array Value) (p p' : Addr)
    (sa : Option Addr) (n sc : Nat) (hn : n ≤ 255) (hb : Nat) (hsa : 0 < n → sa = some ⟨hb, 0, none⟩)
    (co : ∀ V, Mem w V L → V.cell? ⟨bo, 0, none⟩ = some (.func (.func ko) #[] #[]))
    (ci : ∀ V, Mem w V L → V.cell? ⟨bi, 0, none⟩ = some (.func (.func kw) #[] cw) ∧ V.cell? ⟨bi, 1, none⟩ = some (.func (.func kr) #[] cr) ∧ V.cell? ⟨bi, 2, none⟩ = some (.func (.func ks) #[] cs))
    (eo : ∀ args V, (callFunc ko args).run Tryz.prog V = .ok (.enter ko args) V) (ho : ∀ V, Calls Tryz.prog ko #[.pointer (some p)] V fun e V' => e = .returned (.pointer (some p')) ∧ V = V')
    (er : ∀ args V, (callFunc kr args).run Tryz.prog V = .ok (.enter kr args) V)
    (dec : Nat → List Int → σ → Option (σ × List Int))
    (hr : ∀ i, i < n → ∀ s l a c V, J s V → Sl w a l c → Calls Tryz.prog kr (#[.slice a l.length c, .pointer (some ⟨hb, i * 1, none⟩)] ++ cr) V (RPost w L J (dec i l s)))
    (s : σ) (l : List Int) (a : Option Addr) (c : Nat) (W : World) (h : J s W) (hS : Sl w a l c) (cx : W.cell? p' = some (.slice sa n sc)) :
    Calls Tryz.prog 108 #[.slice a l.length c, .pointer (some p), .pointer (some ⟨bo, 0, none⟩), .pointer (some ⟨bi, 0, none⟩)] W (RPost w L J (sq dec 0 n l s)) := by
  have c0 := co _ (hJL _ _ h)
  obtain ⟨R, hR⟩ : ∃ R, sq dec 0 n l s = R := ⟨_, rfl⟩
  rw [hR]
  have HCI : Hid (∀ V, Mem w V L → V.cell? ⟨bi, 1, none⟩ = some (.func (.func kr) #[] cr)) := fun V hV => (ci V hV).2.1
  have HJL : Hid (∀ s V, J s V → Mem w V L) := hJL
  clear ci co hJL
  go_enter Tryz.func108, Tryz.ntmps108
  go_wp2_with fail
  refine (ho _).mono ?_
  rintro e V ⟨rfl, rfl⟩
  go_wp2_with fail
  go_loopw [0, 19] (fun u0 u19 w' => ∃ (i : Nat) (s' : σ) (l' : List Int) (a' : Option Addr) (c' : Nat), i ≤ n ∧ u19 = .int .i64 i ∧ u0 = .slice a' l'.length c' ∧ Hid (J s' w' ∧ Sl w a' l' c' ∧ sq dec i (n - i) l' s' = R)) (fun u0 u19 w' => n - (intOf u19).toNat)
  case atStart => exact ⟨0, s, l, a, c, Nat.zero_le _, rfl, rfl, h, hS, by simpa using hR⟩
  case round =>
    obtain ⟨i, s', l', a', c', hi, rfl, rfl, HR⟩ := hrel
    obtain ⟨hJ, hSl, hsq⟩ := HR.out
    clear c0 cx
    by_cases hlt : i < n
    · have h1 : (i : Int) < n := by omega
      obtain rfl := hsa (by omega)
      have d1 := HCI.out _ (HJL.out _ _ hJ)
      have d2 := HCI.out _ (HJL.out _ _ hJ).drew
      have HW : Hid (∀ V, Below wr.heap.size wr V → Calls Tryz.prog kr (#[.slice a' l'.length c', .pointer (some ⟨hb, i * 1, none⟩)] ++ cr) V (RPost w L J (dec i l' s'))) := fun V hV => hr i hlt s' l' a' c' V (hst _ _ _ hJ hV) hSl
      rw [show n - i = (n - (i + 1)) + 1 by omega, sq] at hsq
      clear hr hst hJ hSl hR HR h hS
      generalize l'.length = m at HW
      simp only [Nat.mul_one] at HW
      cases hd : dec i l' s' with
      | none =>
        rw [hd] at hsq HW
        simp only at hsq
        subst hsq
        have CW := HW.out _ ((Below.refl _ wr).drew)
        go_upto_region 5 with fail
        go_region_held3 (fun V => V.cell? ⟨bi, 1, none⟩ = some (.func (.func kr) #[] cr)) (first | assumption | exact HCI.out _ hM | go_keep)
          (first | (go_at_fn kr; refine CW.mono ?_; rintro e V ⟨rfl, hM⟩))
        clear HW CW
        go_wp2_with fail
        go_ret2
        exact ⟨rfl, hM⟩
      | some x =>
        obtain ⟨s2, l2⟩ := x
        rw [hd] at hsq HW
        simp only at hsq
        have CW := HW.out _ ((Below.refl _ wr).drew)
        go_upto_region 5 with fail
        go_region_held3 (fun V => V.cell? ⟨bi, 1, none⟩ = some (.func (.func kr) #[] cr)) (first | assumption | exact HCI.out _ (HJL.out _ _ hJ2) | go_keep)
          (first | (go_at_fn kr; refine CW.mono ?_; rintro e V ⟨a2, c2, rfl, hS2, hJ2⟩))
        have HH : Hid (J s2 V ∧ Sl w a2 l2 c2 ∧ sq dec (i + 1) (n - (i + 1)) l2 s2 = R) := ⟨hJ2, hS2, hsq⟩
        clear HW CW hJ2 hS2 hsq hd
        go_wp2_with fail
        go_roundw
        case rel => exact ⟨i + 1, s2, l2, a2, c2, by omega, by go_num, rfl, HH⟩
        case measure => simp [intOf]; omega
    · have h1 : ¬ ((i : Int) < n) := by omega
      obtain rfl : i = n := by omega
      rw [Nat.sub_self, sq] at hsq
      subst hsq
      clear HR
      go_wp2_with fail
      go_ret2
      exact ⟨_, _, rfl, hSl, hJ⟩
end Go.Proofs.YtbccadbnaggkhaaGreat

