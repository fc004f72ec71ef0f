/-
  What icmp.Echo, icmp.Error answer, and the document's own lychref1.Echo, lychref1.Error.
-/
import Derived.Test.YtjalpbkfpjfigaaGreatIcmpWords
namespace Go.Proofs.YtjalpbkfpjfigaaGreat
open Go.RowKit
open Sm
set_option linter.unusedVariables false

set_option maxHeartbeats 1000000 in
/-- What icmp.Echo answers, whatever it is handed. -/
theorem mecho_any {w : World} {B : Nat} {v : Value} {q : Mg} (hv : MgV w B v q) :
    Calls Tryz.prog 110 #[v] w fun e w' => e = .returned (.bool (mecho q)) ∧ Below w.heap.size w w' := by
  obtain ⟨bo, cb, rfl, -⟩ := hv
  obtain ⟨t, k, c, r, body⟩ := q
  have HB : Hid (∀ o, Below w.heap.size w (w.alloc o)) := fun o => (Below.refl _ _).alloc (Nat.le_refl _) _
  simp only [mecho]
  generalize body.length = nb
  by_cases h0 : t = 0
  · subst h0
    go_enter Tryz.func110, Tryz.ntmps110
    go_wp2
    go_ret
    exact ⟨by simp <;> rfl, HB.out _⟩
  have n0 : (t == 0) = false := by simp [h0]
  by_cases h8 : t = 8
  · subst h8
    go_enter Tryz.func110, Tryz.ntmps110
    go_wp2
    go_ret
    exact ⟨by simp <;> rfl, HB.out _⟩
  have n8 : (t == 8) = false := by simp [h8]
  go_enter Tryz.func110, Tryz.ntmps110
  go_wp2
  go_ret
  exact ⟨by simp [h0, h8], HB.out _⟩

set_option maxHeartbeats 1000000 in
/-- What icmp.Error answers, whatever it is handed. -/
theorem merror_any {w : World} {B : Nat} {v : Value} {q : Mg} (hv : MgV w B v q) :
    Calls Tryz.prog 111 #[v] w fun e w' => e = .returned (.bool (merror q)) ∧ Below w.heap.size w w' := by
  obtain ⟨bo, cb, rfl, -⟩ := hv
  obtain ⟨t, k, c, r, body⟩ := q
  have HB : Hid (∀ o, Below w.heap.size w (w.alloc o)) := fun o => (Below.refl _ _).alloc (Nat.le_refl _) _
  simp only [merror]
  generalize body.length = nb
  by_cases h3 : t = 3
  · subst h3
    go_enter Tryz.func111, Tryz.ntmps111
    go_wp2
    go_ret
    exact ⟨rfl, HB.out _⟩
  have n3 : (t == 3) = false := by simp [h3]
  by_cases h11 : t = 11
  · subst h11
    go_enter Tryz.func111, Tryz.ntmps111
    go_wp2
    go_ret
    exact ⟨rfl, HB.out _⟩
  have n11 : (t == 11) = false := by simp [h11]
  by_cases h12 : t = 12
  · subst h12
    go_enter Tryz.func111, Tryz.ntmps111
    go_wp2
    go_ret
    exact ⟨rfl, HB.out _⟩
  have n12 : (t == 12) = false := by simp [h12]
  go_enter Tryz.func111, Tryz.ntmps111
  go_wp2
  go_ret
  exact ⟨by simp [h3, h11, h12], HB.out _⟩

set_option maxHeartbeats 1000000 in
/-- What lychref1.Echo answers, whatever it is handed. -/
theorem rmecho_any {w : World} {B : Nat} {v : Value} {q : Mg} (hv : MgV w B v q) :
    Calls Tryz.prog 48 #[v] w fun e w' => e = .returned (.bool (mecho q)) ∧ Below w.heap.size w w' := by
  obtain ⟨bo, cb, rfl, -⟩ := hv
  obtain ⟨t, k, c, r, body⟩ := q
  have HB : Hid (∀ o, Below w.heap.size w (w.alloc o)) := fun o => (Below.refl _ _).alloc (Nat.le_refl _) _
  simp only [mecho]
  generalize body.length = nb
  by_cases h8 : t = 8
  · subst h8
    go_enter Tryz.func48, Tryz.ntmps48
    go_wp2
    go_ret
    exact ⟨by simp <;> rfl, HB.out _⟩
  have n8 : (t == 8) = false := by simp [h8]
  by_cases h0 : t = 0
  · subst h0
    go_enter Tryz.func48, Tryz.ntmps48
    go_wp2
    go_ret
    exact ⟨by simp <;> rfl, HB.out _⟩
  have n0 : (t == 0) = false := by simp [h0]
  go_enter Tryz.func48, Tryz.ntmps48
  go_wp2
  go_ret
  exact ⟨by simp [h0, h8], HB.out _⟩

set_option maxHeartbeats 1000000 in
/-- What lychref1.Error answers, whatever it is handed. -/
theorem rmerror_any {w : World} {B : Nat} {v : Value} {q : Mg} (hv : MgV w B v q) :
    Calls Tryz.prog 49 #[v] w fun e w' => e = .returned (.bool (merror q)) ∧ Below w.heap.size w w' := by
  obtain ⟨bo, cb, rfl, -⟩ := hv
  obtain ⟨t, k, c, r, body⟩ := q
  have HB : Hid (∀ o, Below w.heap.size w (w.alloc o)) := fun o => (Below.refl _ _).alloc (Nat.le_refl _) _
  simp only [merror]
  generalize body.length = nb
  by_cases h3 : t = 3
  · subst h3
    go_enter Tryz.func49, Tryz.ntmps49
    go_wp2
    go_ret
    exact ⟨rfl, HB.out _⟩
  have n3 : (t == 3) = false := by simp [h3]
  by_cases h11 : t = 11
  · subst h11
    go_enter Tryz.func49, Tryz.ntmps49
    go_wp2
    go_ret
    exact ⟨rfl, HB.out _⟩
  have n11 : (t == 11) = false := by simp [h11]
  go_enter Tryz.func49, Tryz.ntmps49
  go_wp2
  go_ret
  exact ⟨by simp [h3, h11] <;> rfl, HB.out _⟩
end Go.Proofs.YtjalpbkfpjfigaaGreat
