/-
  The walk of lychlaw2.EthOnce where the bytes are at most 2000: it answers true.
-/
import Derived.Test.YtkkpjpelcnebeaaKnown
import Derived.Test.YtkkpjpelcnebeaaBytes
import Derived.Test.YtkkpjpelcnebeaaAll
namespace Go.Proofs.Ytkkpjpelcnebeaa
open Go.RowKit
open Sm
set_option linter.unusedVariables false

theorem twelve {x0 x1 x2 x3 x4 x5 x6 x7 x8 x9 x10 x11 x12 x13 : Int} {body : List Int} (h : IsBytes (x0 :: x1 :: x2 :: x3 :: x4 :: x5 :: x6 :: x7 :: x8 :: x9 :: x10 :: x11 :: x12 :: x13 :: body)) : IsBytes [x0, x1, x2, x3, x4, x5, x6, x7, x8, x9, x10, x11] := by
  intro i
  match i with
  | 0 => exact h 0
  | 1 => exact h 1
  | 2 => exact h 2
  | 3 => exact h 3
  | 4 => exact h 4
  | 5 => exact h 5
  | 6 => exact h 6
  | 7 => exact h 7
  | 8 => exact h 8
  | 9 => exact h 9
  | 10 => exact h 10
  | 11 => exact h 11
  | i + 12 => simp [List.getD]

set_option maxHeartbeats 1000000 in
theorem once_bad {w : World} {a : Option Addr} {l : List Int} (h : Row w a l) (n cap : Nat) (hn : l.length = n) (h2 : n ≤ 2000) (hb : 1600 < n ∨ n < 14) :
    Calls Try.prog 5 #[.slice a n cap] w fun e w' => e = .returned (.bool true) ∧ Below w.heap.size w w' := by
  have hk := known_any w
  have hni : (n : Int) ≤ 2000 := by omega
  have hp : ∀ w1 : World, ∃ er : Int, (er = 23 ∨ er = 20) ∧ Calls Try.prog 8 #[.slice a n cap] w1 fun e w' => e = .returned (.tuple #[.agg eth0, .int .i64 er]) ∧ Below w1.heap.size w1 w' := by
    intro w1
    rcases hb with hb | hb
    · exact ⟨23, Or.inl rfl, parse_big a n cap w1 hb⟩
    · exact ⟨20, Or.inr rfl, parse_short a n cap w1 hb⟩
  clear hb h hn
  go_enter Try.func5, Try.ntmps5
  go_wp2_with fail
  refine hk.mono ?_
  rintro e w1 ⟨rfl, hbel1⟩
  have HB1 : Hid (Below w.heap.size w w1) := hbel1
  clear hk hbel1
  go_wp2_with fail
  obtain ⟨er, her, hp⟩ := hp w1
  refine hp.mono ?_
  rintro e w2 ⟨rfl, hb2⟩
  have HB2 : Hid (Below w.heap.size w w2) := HB1.out.trans (hb2.mono HB1.out.size)
  have hne : (er == 0) = false := by rcases her with rfl | rfl <;> rfl
  clear hp hb2 HB1 her
  go_wp2_with fail
  go_ret
  exact ⟨rfl, HB2.out.alloc HB2.out.size _⟩

set_option maxHeartbeats 1000000 in
theorem once_ok {w : World} {b off : Nat} {x0 x1 x2 x3 x4 x5 x6 x7 x8 x9 x10 x11 x12 x13 : Int} {body : List Int} (h : Row w (some ⟨b, off, none⟩) (x0 :: x1 :: x2 :: x3 :: x4 :: x5 :: x6 :: x7 :: x8 :: x9 :: x10 :: x11 :: x12 :: x13 :: body)) (n m cap : Nat) (hm : body.length = m) (hn : n = m + 14) (h1 : m ≤ 1586) (hc : n ≤ cap) :
    Calls Try.prog 5 #[.slice (some ⟨b, off, none⟩) n cap] w fun e w' => e = .returned (.bool true) ∧ Below w.heap.size w w' := by
  have hk := known_any w
  have hni : (n : Int) ≤ 2000 := by omega
  have HR : Hid (Row w (some ⟨b, off, none⟩) (x0 :: x1 :: x2 :: x3 :: x4 :: x5 :: x6 :: x7 :: x8 :: x9 :: x10 :: x11 :: x12 :: x13 :: body)) := h
  have HM : Hid (body.length = m) := hm
  have HN : Hid (n = m + 14) := hn
  obtain ⟨r0, r1⟩ : 0 ≤ x12 ∧ x12 ≤ 255 := h.bytes 12
  obtain ⟨r2, r3⟩ : 0 ≤ x13 ∧ x13 ≤ 255 := h.bytes 13
  have HX := twelve h.bytes
  have HL : Hid ((x0 :: x1 :: x2 :: x3 :: x4 :: x5 :: x6 :: x7 :: x8 :: x9 :: x10 :: x11 :: x12 :: x13 :: body).length = n) := by show _ = _; simp only [List.length_cons]; omega
  clear h hm hn
  go_enter Try.func5, Try.ntmps5
  go_wp2_with fail
  refine hk.mono ?_
  rintro e w1 ⟨rfl, hbel1⟩
  have HB1 : Hid (Below w.heap.size w w1) := hbel1
  have HR1 : Hid (Row w1 (some ⟨b, off, none⟩) (x0 :: x1 :: x2 :: x3 :: x4 :: x5 :: x6 :: x7 :: x8 :: x9 :: x10 :: x11 :: x12 :: x13 :: body)) := HR.out.below hbel1 (Nat.le_refl _)
  clear hk hbel1
  go_wp2_with fail
  refine (parse_ok b off cap w1 x0 x1 x2 x3 x4 x5 x6 x7 x8 x9 x10 x11 x12 x13 body HR1.out n m HM.out HN.out h1 hc).mono ?_
  rintro e w2 ⟨a2, c2, rfl, hr2, -, hb2⟩
  have HB2 : Hid (Below w.heap.size w w2) := HB1.out.trans (hb2.mono HB1.out.size)
  have HR2 : Hid (Row w2 a2 body) := hr2
  have HQ2 : Hid (Row w2 (some ⟨b, off, none⟩) (x0 :: x1 :: x2 :: x3 :: x4 :: x5 :: x6 :: x7 :: x8 :: x9 :: x10 :: x11 :: x12 :: x13 :: body)) := HR1.out.below hb2 (Nat.le_refl _)
  clear hb2 hr2 HB1 HR1
  go_wp2_with fail
  refine (bytes_ok (HR2.out.below ((Below.refl _ _).alloc (Nat.le_refl _) _) (Nat.le_refl _)) m c2 HM.out h1 x0 x1 x2 x3 x4 x5 x6 x7 x8 x9 x10 x11 (x12 * 256 + x13) (by omega) (by omega) n HN.out HX).mono ?_
  rintro e w3 ⟨g, rfl, hr3, hb3⟩
  rw [show (x12 * 256 + x13) / 256 = x12 by omega, show (x12 * 256 + x13) % 256 = x13 by omega] at hr3
  have HR3 : Hid (Row w3 (some ⟨g, 0, none⟩) (x0 :: x1 :: x2 :: x3 :: x4 :: x5 :: x6 :: x7 :: x8 :: x9 :: x10 :: x11 :: x12 :: x13 :: body)) := hr3
  have HQ3 : Hid (Row w3 (some ⟨b, off, none⟩) (x0 :: x1 :: x2 :: x3 :: x4 :: x5 :: x6 :: x7 :: x8 :: x9 :: x10 :: x11 :: x12 :: x13 :: body)) := (HQ2.out.below ((Below.refl _ _).alloc (Nat.le_refl _) _) (Nat.le_refl _)).below hb3 (Nat.le_refl _)
  have HB3 : Hid (Below w.heap.size w w3) := (HB2.out.alloc HB2.out.size _).trans (hb3.mono (by have := HB2.out.size; simp; omega))
  clear hr3 hb3 HQ2 HR2 HB2
  go_wp2_with fail
  refine (hbytes_yes HR3.out HQ3.out n n HL.out HL.out n cap).mono ?_
  rintro e w4 ⟨rfl, rfl⟩
  go_wp2_with fail
  go_ret
  exact ⟨rfl, HB3.out⟩

theorem once_core {w : World} {a : Option Addr} {l : List Int} (h : Row w a l) (n cap : Nat) (hn : l.length = n) (h2 : n ≤ 2000) (hc : n ≤ cap) :
    Calls Try.prog 5 #[.slice a n cap] w fun e w' => e = .returned (.bool true) ∧ Below w.heap.size w w' := by
  by_cases hb : 1600 < n ∨ n < 14
  · exact once_bad h n cap hn h2 hb
  · obtain ⟨x0, x1, x2, x3, x4, x5, x6, x7, x8, x9, x10, x11, x12, x13, body, rfl⟩ := split14 l (by omega)
    rcases h.cells with e | ⟨b, off, rfl, -⟩
    · cases e
    exact once_ok h n body.length cap rfl (by simp only [List.length_cons] at hn; omega) (by simp only [List.length_cons] at hn; omega) hc
end Go.Proofs.Ytkkpjpelcnebeaa
