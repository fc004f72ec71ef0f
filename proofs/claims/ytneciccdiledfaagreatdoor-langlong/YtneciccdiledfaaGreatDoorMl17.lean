/-
  Addresses' texts: the program's IpText.
  Settings as bytes: whether two lists are the same (uint32).
  Settings as bytes: whether two lists are the same (lych/api.Pair).
-/
import Derived.Test.YtneciccdiledfaaGreatDoorMl14
import Derived.Test.YtneciccdiledfaaGreatDoorMl03
import Derived.Test.YtneciccdiledfaaGreatDoorMl06
import Derived.Test.YtneciccdiledfaaGreatDoorMl15
import Derived.Test.YtneciccdiledfaaGreatDoorMl16
namespace Go.Proofs.YtneciccdiledfaaGreatDoor
open Go.RowKit
open Ad
open Go.Lib (decDigits)
set_option linter.unusedVariables false

/-- A row of strings. -/
abbrev sa (l : List (List UInt8)) : Array Value := (l.map fun p => Value.string ⟨p.toArray⟩).toArray
theorem sa_at {l : List (List UInt8)} {i : Nat} {x : List UInt8} (h : l[i]? = some x) : (sa l)[i]? = some (.string ⟨x.toArray⟩) := by simp [sa, h]
theorem sa_set (l : List (List UInt8)) (i : Nat) (x : List UInt8) : (sa l).setIfInBounds i (.string ⟨x.toArray⟩) = sa (l.set i x) := by simp [sa, List.map_set]
theorem make_strs (n : Nat) (h : n ≤ 1000) (w : World) : (Instr.makeSlice 54 (.int .i64 (n : Int)) (.int .i64 (n : Int))).run Tryz.prog w = .ok (.slice (some ⟨w.heap.size, 0, none⟩) n n) (w.alloc (.cells (sa (List.replicate n [])) 9)) := by
  have e : sa (List.replicate n []) = madeCells #[.string ⟨#[]⟩] n := by
    apply Array.ext
    · simp [sa, madeCells]
    · intro i h1 h2
      simp [sa, madeCells, Nat.mod_one]
  rw [e]
  exact run_make_row' 54 9 (.string ⟨#[]⟩) 16 Tryz.underlying54 info_str rfl .i64 .i64 n (by omega) (by omega) w
theorem Mem.str {w W : World} {g : Nat} {T : TypeId} {L : List (Nat × Obj)} {l : List (List UInt8)} (h : Mem w W ((g, .cells (sa l) T (0, 0)) :: L)) (j : Nat) (x : List UInt8) :
    Mem w (W.setCell ⟨g, j, none⟩ (.string ⟨x.toArray⟩)) ((g, .cells (sa (l.set j x)) T (0, 0)) :: L) := by
  have := h.set 0 rfl j (.string ⟨x.toArray⟩)
  rw [sa_set] at this
  exact this
theorem itoa_dec (n : Nat) : Lib.itoa (n : Int) = decDigits n := by
  unfold Lib.itoa
  rw [if_neg (by omega), Int.toNat_natCast]
theorem joinTail_le (c : UInt8) : ∀ (r : List (List UInt8)), (∀ p ∈ r, p.length ≤ 100) → (Lib.joinTail [c] r).length ≤ 101 * r.length
  | [], _ => by simp [Lib.joinTail]
  | p :: r, h => by
    have ih := joinTail_le c r (fun q hq => h q (by simp [hq]))
    have hp := h p (by simp)
    simp only [Lib.joinTail, List.map_cons, List.flatten_cons, List.length_append, List.length_cons, List.length_nil] at ih ⊢
    omega
theorem join_le (c : UInt8) (l : List (List UInt8)) (h : ∀ p ∈ l, p.length ≤ 100) : (Lib.join l [c]).length ≤ 101 * l.length := by
  cases l with
  | nil => simp [Lib.join_nil]
  | cons p r =>
    have := joinTail_le c r (fun q hq => h q (by simp [hq]))
    have hp := h p (by simp)
    rw [Lib.join_cons, List.length_append, List.length_cons]
    omega
theorem join_row {w W : World} {g : Nat} {T : TypeId} {L : List (Nat × Obj)} {l : List (List UInt8)} (hM : Mem w W ((g, .cells (sa l) T (0, 0)) :: L)) (c : UInt8) (n : Nat) (hn : l.length = n) (hn1 : n ≤ 100) (hp : ∀ p ∈ l, p.length ≤ 100) :
    Calls Tryz.prog 93 #[.slice (some ⟨g, 0, none⟩) n n, .string ⟨#[c]⟩] W fun e w' => e = .returned (.string ⟨(Lib.join l [c]).toArray⟩) ∧ Below W.heap.size W w' := by
  have hmm : (l.map fun p => (⟨p.toArray⟩ : ByteArray)).map (·.data.toList) = l := by simp [List.map_map, Function.comp_def]
  have hjl := join_le c l hp
  have h := join_any (w := W) (g := g) (c := n) (n := n) (l.map fun p => ⟨p.toArray⟩) (by simp [hn]) ⟨#[c]⟩ (by
    intro i x hi
    rw [Nat.zero_add, hM.cell 0 rfl]
    rw [List.getElem?_map] at hi
    cases hx : l[i]? with
    | none => rw [hx] at hi; cases hi
    | some y =>
      rw [hx] at hi
      obtain rfl := Option.some.inj hi
      exact sa_at hx) (hM.lt (p := (g, .cells (sa l) T (0, 0))) (by simp)) (Nat.le_refl _) (by omega) (by rw [hmm]; show (Lib.join l [c]).length ≤ _; omega)
  rw [hmm] at h
  exact h
/-- The four bytes of an address. -/
def ipb (a : Nat) : Nat → Nat
  | 0 => a / 16777216
  | 1 => a / 65536 % 256
  | 2 => a / 256 % 256
  | _ => a % 256
def ipp (a i : Nat) : List (List UInt8) := (List.range 4).map fun j => if j < i then decDigits (ipb a j) else []

set_option maxHeartbeats 4000000 in
set_option maxRecDepth 20000 in
theorem iptext_any {w : World} (hV : Vs w) (a : Nat) (ha : a ≤ 4294967295) :
    Calls Tryz.prog 59 #[.int .u32 (a : Int)] w fun e w' => e = .returned (.string ⟨(ipt a).toArray⟩) ∧ Below w.heap.size w w' := by
  have hmk : (Instr.makeSlice 54 (.int .i64 4) (.int .i64 4)).run Tryz.prog w = .ok (.slice (some ⟨w.heap.size, 0, none⟩) 4 4) (w.alloc (.cells (sa (List.replicate 4 [])) 9)) := make_strs 4 (by omega) w
  have hM0 : Mem w (w.alloc (.cells (sa (List.replicate 4 [])) 9)) [(w.heap.size, .cells (sa (List.replicate 4 [])) 9 (0, 0))] := (Mem.nil w).push w.heap.size _ rfl
  generalize w.alloc (.cells (sa (List.replicate 4 [])) 9) = w1 at hmk hM0
  obtain ⟨g, hg⟩ : ∃ g, w.heap.size = g := ⟨_, rfl⟩
  rw [hg] at hmk hM0
  go_enter Tryz.func59, Tryz.ntmps59
  go_wp2_with fail
  go_loopw [9] (fun jj w' => ∃ (j : Nat), jj = .int .i64 j ∧ j ≤ 4 ∧ Mem w w' [(g, .cells (sa (ipp a j)) 9 (0, 0))]) (fun jj _ => 4 - (intOf jj).toNat)
  case atStart => exact ⟨0, rfl, by omega, hM0⟩
  case round =>
    obtain ⟨j, rfl, hj4, hMr⟩ := hrel
    clear hM0 hmk
    have hor : j = 0 ∨ j = 1 ∨ j = 2 ∨ j = 3 ∨ j = 4 := by omega
    rcases hor with rfl | rfl | rfl | rfl | rfl
    · have cI := itoa_any (hV.below hMr.below) (a / 16777216) (by omega)
      rw [itoa_dec, show ((a / 16777216 : Nat) : Int) = (a : Int) / 16777216 by omega] at cI
      have hcell : wr.cell? ⟨g, 0, none⟩ = some (.string ⟨#[]⟩) := by rw [hMr.cell 0 rfl]; rfl
      have hnext : (ipp a 0).set 0 (decDigits (a / 16777216)) = ipp a 1 := rfl
      go_wp2_with fail
      refine cI.mono ?_
      rintro e w2 ⟨rfl, hb2⟩
      have hM2 := hMr.after hb2
      have hcell2 : w2.cell? ⟨g, 0, none⟩ = some (.string ⟨#[]⟩) := by rw [hM2.cell 0 rfl]; rfl
      have hfz := hM2.free 0 rfl 0
      have hM3 := hM2.str 0 (decDigits (a / 16777216))
      rw [hnext] at hM3
      generalize (⟨(decDigits (a / 16777216)).toArray⟩ : ByteArray) = S at hM3
      go_wp2_with fail
      go_roundw
      case rel => exact ⟨1, by first | rfl | trivial, by omega, hM3⟩
      case measure => simp [intOf]
    · have cI := itoa_any (hV.below hMr.below) (a / 65536 % 256) (by omega)
      rw [itoa_dec, show ((a / 65536 % 256 : Nat) : Int) = (a : Int) / 65536 % 256 by omega] at cI
      have hcell : wr.cell? ⟨g, 1, none⟩ = some (.string ⟨#[]⟩) := by rw [hMr.cell 0 rfl]; rfl
      have hnext : (ipp a 1).set 1 (decDigits (a / 65536 % 256)) = ipp a 2 := rfl
      go_wp2_with fail
      refine cI.mono ?_
      rintro e w2 ⟨rfl, hb2⟩
      have hM2 := hMr.after hb2
      have hcell2 : w2.cell? ⟨g, 1, none⟩ = some (.string ⟨#[]⟩) := by rw [hM2.cell 0 rfl]; rfl
      have hfz := hM2.free 0 rfl 1
      have hM3 := hM2.str 1 (decDigits (a / 65536 % 256))
      rw [hnext] at hM3
      generalize (⟨(decDigits (a / 65536 % 256)).toArray⟩ : ByteArray) = S at hM3
      go_wp2_with fail
      go_roundw
      case rel => exact ⟨2, by first | rfl | trivial, by omega, hM3⟩
      case measure => simp [intOf]
    · have cI := itoa_any (hV.below hMr.below) (a / 256 % 256) (by omega)
      rw [itoa_dec, show ((a / 256 % 256 : Nat) : Int) = (a : Int) / 256 % 256 by omega] at cI
      have hcell : wr.cell? ⟨g, 2, none⟩ = some (.string ⟨#[]⟩) := by rw [hMr.cell 0 rfl]; rfl
      have hnext : (ipp a 2).set 2 (decDigits (a / 256 % 256)) = ipp a 3 := rfl
      go_wp2_with fail
      refine cI.mono ?_
      rintro e w2 ⟨rfl, hb2⟩
      have hM2 := hMr.after hb2
      have hcell2 : w2.cell? ⟨g, 2, none⟩ = some (.string ⟨#[]⟩) := by rw [hM2.cell 0 rfl]; rfl
      have hfz := hM2.free 0 rfl 2
      have hM3 := hM2.str 2 (decDigits (a / 256 % 256))
      rw [hnext] at hM3
      generalize (⟨(decDigits (a / 256 % 256)).toArray⟩ : ByteArray) = S at hM3
      go_wp2_with fail
      go_roundw
      case rel => exact ⟨3, by first | rfl | trivial, by omega, hM3⟩
      case measure => simp [intOf]
    · have cI := itoa_any (hV.below hMr.below) (a % 256) (by omega)
      rw [itoa_dec, show ((a % 256 : Nat) : Int) = (a : Int) % 256 by omega] at cI
      have hcell : wr.cell? ⟨g, 3, none⟩ = some (.string ⟨#[]⟩) := by rw [hMr.cell 0 rfl]; rfl
      have hnext : (ipp a 3).set 3 (decDigits (a % 256)) = ipp a 4 := rfl
      go_wp2_with fail
      refine cI.mono ?_
      rintro e w2 ⟨rfl, hb2⟩
      have hM2 := hMr.after hb2
      have hcell2 : w2.cell? ⟨g, 3, none⟩ = some (.string ⟨#[]⟩) := by rw [hM2.cell 0 rfl]; rfl
      have hfz := hM2.free 0 rfl 3
      have hM3 := hM2.str 3 (decDigits (a % 256))
      rw [hnext] at hM3
      generalize (⟨(decDigits (a % 256)).toArray⟩ : ByteArray) = S at hM3
      go_wp2_with fail
      go_roundw
      case rel => exact ⟨4, by first | rfl | trivial, by omega, hM3⟩
      case measure => simp [intOf]
    · have cJ := join_row hMr 46 4 (by simp [ipp]) (by omega) (by
        intro p hp
        simp only [ipp, List.mem_map, List.mem_range] at hp
        obtain ⟨i, hi, rfl⟩ := hp
        rw [if_pos hi]
        have := dec_len (ipb a i) (by unfold ipb; split <;> omega)
        omega)
      rw [show Lib.join (ipp a 4) [46] = ipt a from rfl] at cJ
      go_wp2_with fail
      refine cJ.mono ?_
      rintro e w2 ⟨rfl, hb2⟩
      go_wp2_with fail
      go_ret
      exact ⟨rfl, hMr.below.trans (hb2.mono hMr.below.size)⟩
end Go.Proofs.YtneciccdiledfaaGreatDoor

namespace Go.Proofs.YtneciccdiledfaaGreatDoor
open Go.RowKit
open Sm
open Cf
set_option linter.unusedVariables false
set_option maxRecDepth 20000

end Go.Proofs.YtneciccdiledfaaGreatDoor

namespace Go.Proofs.YtneciccdiledfaaGreatDoor
open Go.RowKit
open Sm
open Cf
set_option linter.unusedVariables false
set_option maxRecDepth 20000

end Go.Proofs.YtneciccdiledfaaGreatDoor

