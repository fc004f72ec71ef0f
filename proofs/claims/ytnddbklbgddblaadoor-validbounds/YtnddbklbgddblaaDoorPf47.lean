/-
  The statements' seat of settings: they may be; what a call made, read as settings.
-/
import Derived.Test.YtnddbklbgddblaaDoorPf46
import Derived.Test.YtnddbklbgddblaaDoorPf44
import Derived.Test.YtnddbklbgddblaaDoorPf41
namespace Go.Proofs.YtnddbklbgddblaaDoor
open Go.RowKit
open La (adr adr_range)
open Va
set_option linter.unusedVariables false
set_option linter.unusedSimpArgs false
set_option maxRecDepth 20000

namespace Va
/-- The seat's settings. -/
abbrev sc (f : Int) (ts : List Ten) : Cgf := ⟨adr 10 9 0 200, [2, 1, 0, 0, 0, 0], [2, 2, 0, 0, 0, 0], [2, 3, 0, 0, 0, 0], [200, 0, 0, 0, 0, 0, 0, 0], f, ts⟩
theorem sc_len (f : Int) (ts : List Ten) : CLen (sc f ts) := ⟨rfl, rfl, rfl, rfl⟩
theorem lss_seat (a b : Nat) : lss ⟨#[UInt8.ofNat (97 + a % 8)]⟩ ⟨#[UInt8.ofNat (97 + b % 8)]⟩ = decide (a % 8 < b % 8) := by
  have key : ∀ m n : Fin 8, Op.bytesLess [UInt8.ofNat (97 + m.val)] [UInt8.ofNat (97 + n.val)] = decide (m.val < n.val) := by decide
  unfold lss
  rw [Lib.toList_data, Lib.toList_data]
  exact key ⟨a % 8, by omega⟩ ⟨b % 8, by omega⟩
theorem getD_some {ts : List Ten} {i : Nat} {t : Ten} (h : ts[i]? = some t) : ts.getD i ten0 = t := by simp [List.getD, h]
theorem mem_take {ts : List Ten} {i : Nat} {o : Ten} (h : o ∈ ts.take i) : ∃ j, j < i ∧ ts[j]? = some o := by
  obtain ⟨j, hj, e⟩ := List.mem_iff_getElem.mp h
  have hj' : j < i ∧ j < ts.length := by simp at hj; omega
  refine ⟨j, hj'.1, ?_⟩
  rw [List.getElem?_eq_getElem hj'.2]
  simp at e
  rw [e]
theorem SQ.own {i : Nat} {t : Ten} (h : SQ i t) {x : Int} (hx : x ∈ t.pool ++ snd' t.stat) : x = adr 5 5 i 1 ∨ x = adr 5 5 i 2 ∨ x = adr 5 6 i 9 := by
  rcases List.mem_append.mp hx with hx | hx
  · rcases h.pool x hx with e | e
    · exact Or.inl e
    · exact Or.inr (Or.inl e)
  · obtain ⟨p, hp, rfl⟩ := List.mem_map.mp hx
    rw [h.stat p hp]; exact Or.inr (Or.inr rfl)
theorem SQ.place {f : Int} {ts : List Ten} {i : Nat} {t : Ten} (hi : i < 8) (ht : ts[i]? = some t) (h : SQ i t) (hp : ∀ j o, j < i → ts[j]? = some o → SQ j o) : POk (sc f ts) i := by
  have e := getD_some ht
  refine ⟨by show TOk (ts.getD i ten0); rw [e]; exact h.ok, ?_, fun o ho => ?_⟩
  · by_cases h0 : i = 0
    · exact Or.inl h0
    · right
      obtain ⟨o, ho⟩ : ∃ o, ts[i - 1]? = some o := ⟨_, List.getElem?_eq_getElem (by have := (List.getElem?_eq_some_iff.mp ht).1; omega)⟩
      show lss (ts.getD (i - 1) ten0).name (ts.getD i ten0).name = true
      rw [e, getD_some ho, h.name, (hp (i - 1) o (by omega) ho).name, lss_seat]
      exact decide_eq_true (by omega)
  · obtain ⟨j, hj, hjo⟩ := mem_take ho
    show o.vni ≠ (ts.getD i ten0).vni
    rw [e, h.vni, (hp j o hj hjo).vni]
    omega
theorem chk_seat {f : Int} {ts : List Ten} (hf : f ≤ 1000) (hl : ts.length ≤ 8) (h : ∀ j t, ts[j]? = some t → SQ j t) : chk (sc f ts) = 0 := by
  refine chk_ok ⟨by show adr 10 9 0 200 ≠ 0; decide, hf, by show ts.length ≤ 16; omega⟩ (fun i hi => ?_)
  have hi' : i < ts.length := hi
  obtain ⟨t, ht⟩ : ∃ t, ts[i]? = some t := ⟨_, List.getElem?_eq_getElem hi'⟩
  have hq := h i t ht
  refine (hq.place (by omega) ht (fun j o _ ho => h j o ho)).none hi (fun x hx => ?_)
  have hx' : x ∈ t.pool ++ snd' t.stat := by have := getD_some ht; rw [← this]; exact hx
  have hx2 := hq.own hx'
  refine ⟨fun e => ?_, fun o ho hm => ?_⟩
  · have e' : x = adr 10 9 0 200 := e
    simp only [adr] at hx2 e'
    omega
  · obtain ⟨j, hj, hjo⟩ := mem_take ho
    have hx3 := (h j o hjo).own hm
    simp only [adr] at hx2 hx3
    omega
end Va
theorem cv_ys {w X : World} {c : Cgf} {u : Value} {ys : List Ty} {B C : List (Nat × Obj)} (hcl : CLen c) (ez : ys.map (fun y => y.1.1) = c.ten) (hB : OwB 39 33 u ys.length (ys.map (fun y => zc y.1)).flatten B) (hz : ∀ y ∈ ys, ZB y.1 C) (hM : Mem w X (B ++ C)) : CV X (.agg (cc c u).toArray) c := by
  have h := cvs_tsb (u := u) hcl (B := B) (C := C) ⟨ys.map (·.1), by rw [List.map_map]; exact ez, by rw [List.length_map, List.map_map]; exact hB, fun z hz' => by obtain ⟨y, hy, rfl⟩ := List.mem_map.mp hz'; exact hz y hy⟩ hM
  exact h w X (Nat.le_refl _) hM.below (fun b _ _ => rfl)
theorem zx_zb {ys : List Ty} (h : ∀ y ∈ ys, ZX y.1 y.2) {C : List (Nat × Obj)} (hs : ∀ x ∈ ys.flatMap (·.2), x ∈ C) : ∀ y ∈ ys, ZB y.1 C := fun y hy => (h y hy).zb (fun x hx => hs x (List.mem_flatMap.mpr ⟨y, hy, hx⟩))
theorem zx_tv {w X : World} {t : Ten} {p s q : Value} {C K : List (Nat × Obj)} (h : ZX (t, p, s, q) C) (hX : Mem w X (C ++ K)) : TV X (.agg (zc (t, p, s, q)).toArray) t := by
  obtain ⟨k0, B1, B2, B3, rfl, k1, k2, k3⟩ := h
  have m1 : Mem w X (B1 ++ ((B2 ++ B3) ++ K)) := hX.perm (by
    classical
    rw [List.perm_iff_count]; intro z; simp only [List.count_append]; omega)
  have m2 : Mem w X (B2 ++ ((B1 ++ B3) ++ K)) := hX.perm (by
    classical
    rw [List.perm_iff_count]; intro z; simp only [List.count_append]; omega)
  have m3 : Mem w X (B3 ++ ((B1 ++ B2) ++ K)) := hX.perm (by
    classical
    rw [List.perm_iff_count]; intro z; simp only [List.count_append]; omega)
  refine ⟨k0, p, s, q, rfl, owb_rw (T := 22) ?_ ?_ m1, owb_rw (T := 52) ?_ ?_ m2, owb_rw (T := 52) ?_ ?_ m3⟩
  · intro x hx; obtain ⟨y, -, rfl⟩ := List.mem_map.mp hx; rfl
  · rw [show (ux t.pool).length = t.pool.length by simp [ux]]; exact k1
  · intro x hx; obtain ⟨y, -, rfl⟩ := List.mem_map.mp hx; rfl
  · rw [show (px t.stat).length = t.stat.length by simp [px]]; exact k2
  · intro x hx; obtain ⟨y, -, rfl⟩ := List.mem_map.mp hx; rfl
  · rw [show (px t.twi).length = t.twi.length by simp [px]]; exact k3
theorem two_ys {ys : List Ty} (h : ys.length = 2) : ∃ t0 p0 s0 q0 C0 t1 p1 s1 q1 C1, ys = [((t0, p0, s0, q0), C0), ((t1, p1, s1, q1), C1)] := by
  match ys, h with
  | [((t0, p0, s0, q0), C0), ((t1, p1, s1, q1), C1)], _ => exact ⟨t0, p0, s0, q0, C0, t1, p1, s1, q1, C1, rfl⟩
end Go.Proofs.YtnddbklbgddblaaDoor

