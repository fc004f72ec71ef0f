/-
  The walk of lychlaw2.EthReads where the bytes are at most 2000: it answers true.
-/
import Derived.Test.YtkkpjpelcnebeaaAll
import Derived.Test.YtkkpjpelcnebeaaKnown
namespace Go.Proofs.Ytkkpjpelcnebeaa
open Go.RowKit
open Sm
set_option linter.unusedVariables false

theorem bytes_noughts (m : Nat) : IsBytes (List.replicate m 0) := by
  intro i
  by_cases h : i < m
  · simp [List.getD, h]
  · simp [List.getD, h]
theorem map_noughts (l : List Int) (m : Nat) : l.map (Value.int .u8) ++ List.replicate m (Value.int .u8 0) = (l ++ List.replicate m 0).map (Value.int .u8) := by simp

set_option maxHeartbeats 1000000 in
theorem reads_core {w : World} {a : Option Addr} {l : List Int} (h : Row w a l) (n cap : Nat) (hn : l.length = n) (hnil : a = none → cap = 0) (h2 : n ≤ 2000) (x : Int) (r0 : 0 ≤ x) (r1 : x ≤ 65535) :
    Calls Try.prog 3 #[.slice a n cap, .int .u16 x] w fun e w' => e = .returned (.bool true) ∧ Below w.heap.size w w' := by
  have hk := known_any w
  obtain ⟨m, hm⟩ : ∃ m : Nat, (m : Int) = x % 2000 := ⟨(x % 2000).toNat, by omega⟩
  have hm2 : m < 2000 := by omega
  have HM : Hid ((m : Int) = x % 2000) := hm
  have HR : Hid (Row w a l) := h
  have HN : Hid (l.length = n) := hn
  have HC : Hid (a = none → cap = 0) := hnil
  clear h hn hnil hm
  have hni : (n : Int) ≤ 2000 := by omega
  go_enter Try.func3, Try.ntmps3
  go_wp2_with fail
  refine hk.mono ?_
  rintro e w1 ⟨rfl, hbel1⟩
  have HB1 : Hid (Below w.heap.size w w1) := hbel1
  clear hk hbel1
  go_wp2_with (first
    | (at_builtin; refine wpList_append_more _ rfl _ (.tmp 14) rfl w1.heap.size _ 0 [] rfl (World.ownsRow_nil _ _ _ _) a cap n l rfl HN.out HC.out (HR.out.below HB1.out (Nat.le_refl _)) (by omega) (Nat.le_refl _) ?_; intro v2 w2 hown2 hbel2)
    | (at_builtin; refine wpList_append_zeros (tn := 23) (kn := .u16) Try.underlying23 _ rfl (.tmp 15) (.tmp 17) rfl w1.heap.size v2 (0 + n) _ rfl hown2 _ m rfl HM.out.symm (by omega) hbel2.size ?_; intro v3 w3 hown3 hgrow3))
  have hb3 : Below w1.heap.size w1 w3 := hbel2.trans (own_grown hown2 hgrow3 hbel2.size)
  rw [List.nil_append, map_noughts, Nat.zero_add] at hown3
  obtain ⟨ao, c3, rfl, hrow3, -, -, hc3⟩ := own_read hown3 (by simp [HN.out]) (bytes_append HR.out.bytes (bytes_noughts m)) (by simp [HN.out]; omega)
  have HB3 : Hid (Below w.heap.size w w3) := HB1.out.trans (hb3.mono HB1.out.size)
  have HR3 : Hid (Row w3 ao (l ++ List.replicate m 0)) := hrow3
  have HL3 : Hid ((l ++ List.replicate m 0).length = n + m) := by show _ = _; simp [HN.out]
  clear hown3 hgrow3 hown2 hbel2 hb3 hrow3 HB1 HR HC HM
  have hp := parse_all HR3.out (n + m) c3 HL3.out hc3
  have hq : ∀ w' : World, Row w' ao (l ++ List.replicate m 0) → _ := fun w' hr => reth_all hr (n + m) c3 HL3.out hc3
  generalize fld (l ++ List.replicate m 0) 0 = y0 at hp hq
  generalize fld (l ++ List.replicate m 0) 1 = y1 at hp hq
  generalize fld (l ++ List.replicate m 0) 2 = y2 at hp hq
  generalize fld (l ++ List.replicate m 0) 3 = y3 at hp hq
  generalize fld (l ++ List.replicate m 0) 4 = y4 at hp hq
  generalize fld (l ++ List.replicate m 0) 5 = y5 at hp hq
  generalize fld (l ++ List.replicate m 0) 6 = y6 at hp hq
  generalize fld (l ++ List.replicate m 0) 7 = y7 at hp hq
  generalize fld (l ++ List.replicate m 0) 8 = y8 at hp hq
  generalize fld (l ++ List.replicate m 0) 9 = y9 at hp hq
  generalize fld (l ++ List.replicate m 0) 10 = y10 at hp hq
  generalize fld (l ++ List.replicate m 0) 11 = y11 at hp hq
  generalize fld (l ++ List.replicate m 0) 12 = y12 at hp hq
  generalize fld (l ++ List.replicate m 0) 13 = y13 at hp hq
  generalize ferr (l ++ List.replicate m 0) = er at hp hq
  generalize fbody (l ++ List.replicate m 0) = body at hp hq
  refine hp.mono ?_
  rintro e w4 ⟨a4, c4, rfl, hr4, hb4⟩
  have HR4 : Hid (Row w4 a4 body) := hr4
  have HQ : Hid (Row w4 ao (l ++ List.replicate m 0)) := HR3.out.below hb4 (Nat.le_refl _)
  have HB4 : Hid (Below w.heap.size w w4) := HB3.out.trans (hb4.mono HB3.out.size)
  clear hr4 hb4 hp HR3 HB3
  go_wp2_with fail
  refine (hq _ (HQ.out.below ((Below.refl _ _).alloc (Nat.le_refl _) _) (Nat.le_refl _))).mono ?_
  rintro e w5 ⟨a5, c5, rfl, hr5, hb5⟩
  have kc : ∀ i, w5.cell? ⟨w4.heap.size, i, none⟩ = (ethA y0 y1 y2 y3 y4 y5 y6 y7 y8 y9 y10 y11 (y12 * 256 + y13) (.slice a4 body.length c4))[i]? := fun i => by
    rw [hb5.cell (p := ⟨w4.heap.size, i, none⟩) (by simp), World.cell?_alloc_new]
  have hz : w4.heap.size < w5.heap.size := by have := hb5.size; simp at this; omega
  have HR5 : Hid (Row w5 a5 body) := hr5
  have HR45 : Hid (Row w5 a4 body) := (HR4.out.below ((Below.refl _ _).alloc (Nat.le_refl _) _) (Nat.le_refl _)).below hb5 (Nat.le_refl _)
  have HB5 : Hid (Below w.heap.size w w5) := (HB4.out.alloc HB4.out.size _).trans (hb5.mono (by have := HB4.out.size; simp; omega))
  have hws : w.heap.size ≤ w5.heap.size := HB5.out.size
  clear hb5 hr5 HR4 HQ HB4 hq
  go_wp2_with fail
  refine (heth_yes (l := body) (HR45.out.below ((Below.refl _ _).alloc (Nat.le_refl _) _) (Nat.le_refl _)) (HR5.out.below ((Below.refl _ _).alloc (Nat.le_refl _) _) (Nat.le_refl _)) _ _ rfl rfl c4 c5 y0 y1 y2 y3 y4 y5 y6 y7 y8 y9 y10 y11 _).mono ?_
  rintro e w6 ⟨rfl, hb6⟩
  go_wp2_with fail
  go_ret
  exact ⟨rfl, (HB5.out.alloc hws _).trans (hb6.mono (by simp; omega))⟩
end Go.Proofs.Ytkkpjpelcnebeaa
