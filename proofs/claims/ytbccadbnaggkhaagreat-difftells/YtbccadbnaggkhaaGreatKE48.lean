/-
  P15.2 at every two lists of tenants.
-/
import Derived.Test.YtbccadbnaggkhaaGreatKE39
import Derived.Test.YtbccadbnaggkhaaGreatKE47
namespace Go.Proofs.YtbccadbnaggkhaaGreat
open Go.RowKit
open Sm
open Cf
open Df
set_option linter.unusedVariables false
set_option linter.unusedSimpArgs false
set_option maxRecDepth 20000

theorem Df.rdiffT {w : World} {v u : Value} {A B : List Ten} (ha : TSV w v A) (hb : TSV w u B) (hA : ∀ t ∈ A, TIn t) (hB : ∀ t ∈ B, TIn t) (la : A.length ≤ 400) (lb : B.length ≤ 400) :
    Calls Tryz.prog 18 #[v, u] w fun e V => ∃ a n c xs, e = .returned (.slice a n c) ∧ YV V (.slice a n c) xs ∧ xs.map Prod.fst = dif (byn nk A) (byn nk B) ∧ Below w.heap.size w V := by
  obtain ⟨zs, rfl, hz⟩ := TSV.zv ha
  obtain ⟨ys, rfl, hy⟩ := TSV.zv hb
  refine (rdiff_any hz hy (fun z h => hA _ (List.mem_map.2 ⟨z, h, rfl⟩)) (fun z h => hB _ (List.mem_map.2 ⟨z, h, rfl⟩)) (by simpa using la) (by simpa using lb)).mono ?_
  rintro e V ⟨r, rfl, xs, h1, h2, h3⟩
  obtain ⟨a, c, rfl, -⟩ := h1.parts
  exact ⟨a, _, c, xs, rfl, h1, h2, h3⟩
set_option maxHeartbeats 8000000 in
theorem tells15_law {w : World} {va vb : Value} {A B : List Ten} (ha : TSV w va A) (hb : TSV w vb B) (hA : ∀ t ∈ A, TBy t) (hB : ∀ t ∈ B, TBy t) :
    Calls Tryz.prog 4 #[va, vb] w fun e w' => e = .returned (.bool true) ∧ Below w.heap.size w w' := by
  have HA : Hid (∀ V, Below w.heap.size w V → TSV V va A) := fun V hV => ha.at_ hV (Nat.le_refl _)
  have HB : Hid (∀ V, Below w.heap.size w V → TSV V vb B) := fun V hV => hb.at_ hV (Nat.le_refl _)
  have HI : Hid (L15 A B [] → (∀ t ∈ A, TIn t) ∧ (∀ t ∈ B, TIn t) ∧ A.length ≤ 20 ∧ B.length ≤ 20) := fun h => ⟨tin_lgts ha hA h.2.2.1, tin_lgts hb hB h.2.2.2, h.2.2.1.1, h.2.2.2.1⟩
  obtain ⟨aa, an, ac, rfl⟩ := ha.slice
  obtain ⟨ba, bn, bc, rfl⟩ := hb.slice
  clear ha hb hA hB
  go_enter Tryz.func4, Tryz.ntmps4
  go_wp2_with fail
  refine (known15_any w).mono ?_
  rintro e W1 ⟨rfl, hb1⟩
  have C1 := light15_any (HA.out W1 hb1) (HB.out W1 hb1) (yv_nil W1)
  rw [List.map_nil] at C1
  have HB1 : Hid (Below w.heap.size w W1) := hb1
  clear hb1
  by_cases q : L15 A B []
  rotate_left
  · rw [decide_eq_false q] at C1
    clear HA HB HI
    go_wp2_with fail
    refine C1.mono ?_
    rintro e W2 ⟨rfl, hb2⟩
    have HB2 : Hid (Below w.heap.size w W2) := HB1.out.trans (hb2.mono HB1.out.size)
    clear C1 hb2 HB1
    go_wp2_with fail
    go_ret
    exact ⟨rfl, HB2.out⟩
  rw [decide_eq_true q] at C1
  obtain ⟨hA, hB, la, lb⟩ := HI.out q
  clear HI q
  go_wp2_with fail
  refine C1.mono ?_
  rintro e W2 ⟨rfl, hb2⟩
  have hw2 := HB1.out.trans (hb2.mono HB1.out.size)
  have HB2 : Hid (Below w.heap.size w W2) := hw2
  have C2 := diffT (HA.out W2 hw2) (HB.out W2 hw2) hA hB (by omega) (by omega)
  have HHI : Hid ((∀ t ∈ A, TIn t) ∧ (∀ t ∈ B, TIn t) ∧ A.length ≤ 20 ∧ B.length ≤ 20) := ⟨hA, hB, la, lb⟩
  clear C1 HB1 hb2 hw2 hA hB la lb
  go_wp2_with fail
  refine C2.mono ?_
  rintro e W3 ⟨ca, cc', xs, rfl, hY, hx, hb3, -⟩
  obtain ⟨hA, hB, la, lb⟩ := HHI.out
  have hw3 := HB2.out.trans (hb3.mono HB2.out.size)
  have C3 := rdiffT (HA.out W3 hw3) (HB.out W3 hw3) hA hB (by omega) (by omega)
  have HIN : Hid (∀ h ∈ dif (byn nk A) (byn nk B), TIn h.t) := fun h hh => (hin_dif (tin_byn hA) (tin_byn hB) h hh).1
  generalize (dif (byn nk A) (byn nk B)) = l at *
  have HY : Hid (YV W3 (.slice ca l.length cc') xs ∧ xs.map Prod.fst = l) := ⟨hY, hx⟩
  have HB3 : Hid (Below w.heap.size w W3) := hw3
  clear C2 HB2 hb3 hw3 hY hA hB la lb hx HA HB HHI
  go_wp2_with fail
  refine C3.mono ?_
  rintro e W4 ⟨da, dn, dc, ys, rfl, hZ, hy, hb4⟩
  have C4 := hchs_yes (HY.out.1.at_ hb4) hZ HY.out.2 hy HIN.out
  have HB4 : Hid (Below w.heap.size w W4) := HB3.out.trans (hb4.mono HB3.out.size)
  clear C3 HB3 hb4 hZ hy HIN HY
  go_wp2_with fail
  refine C4.mono ?_
  rintro e W5 ⟨rfl, hb5⟩
  have HB5 : Hid (Below w.heap.size w W5) := HB4.out.trans (hb5.mono HB4.out.size)
  clear C4 hb5 HB4
  go_wp2_with fail
  go_ret
  exact ⟨rfl, HB5.out⟩
end Go.Proofs.YtbccadbnaggkhaaGreat

