/-
  The library's contracts that this program uses, at its own numbers.
  Plain mathematics of addresses as text, with no program in it: decimal and hexadecimal numbers, texts cut at a sign, and that each address has its one text.
  Plain mathematics of the Internet's checksum, with no program in it: folding is the residue by 65535 (with the two noughts told apart), and a sum with end-around carry folds to what the plain sum folds to.
-/
import Derived.Shelf.Unicode.ValidAny
import Derived.Shelf.Unicode.DecodeSlow
import Derived.Shelf.Unicode.DecodeAny
import Derived.Test.YtnddbklbgddblaaDoorProg
import Derived.Lib.Split
import Derived.Laws.BitsLemmas
import Derived.Laws.BitsAllLaws
namespace Go.Proofs
open Go.Shelf
open Go.RowKit Go.Lib in
def Tryd.lays196_ren : Go.Shelf.Ren := ⟨fun | 196 => 82 | 259 => 91 | n => n, fun | 9 => 9 | 4 => 4 | 3 => 3 | 5 => 5 | 12 => 12 | 119 => 92 | 0 => 0 | 46 => 69 | 139 => 95 | 138 => 94 | 53 => 96 | n => n, fun | 3 => 0 | 4 => 1 | n => n⟩
theorem Tryd.lays196 : Go.Proofs.Lays.n196 Tryd.prog Tryd.lays196_ren := {
  mixed := by kernel_rfl
  f196 := Tryd.func82.trans (congrArg some (by kernel_rfl))
  f259 := Tryd.func91.trans (congrArg some (by kernel_rfl))
  t0 := Tryd.underlying0
  a0 := Tryd.isAgg0
  z0 := Tryd.sizeOf0
  v0 := Tryd.zeroValue0
  t3 := Tryd.underlying3
  a3 := Tryd.isAgg3
  z3 := Tryd.sizeOf3
  v3 := Tryd.zeroValue3
  t4 := Tryd.underlying4
  a4 := Tryd.isAgg4
  z4 := Tryd.sizeOf4
  v4 := Tryd.zeroValue4
  t5 := Tryd.underlying5
  a5 := Tryd.isAgg5
  z5 := Tryd.sizeOf5
  v5 := Tryd.zeroValue5
  t9 := Tryd.underlying9
  a9 := Tryd.isAgg9
  z9 := Tryd.sizeOf9
  v9 := Tryd.zeroValue9
  t12 := Tryd.underlying12
  a12 := Tryd.isAgg12
  z12 := Tryd.sizeOf12
  v12 := Tryd.zeroValue12
  t46 := Tryd.underlying69
  a46 := Tryd.isAgg69
  z46 := Tryd.sizeOf69
  v46 := Tryd.zeroValue69
  t53 := Tryd.underlying96
  a53 := Tryd.isAgg96
  z53 := Tryd.sizeOf96
  v53 := Tryd.zeroValue96
  t119 := Tryd.underlying92
  a119 := Tryd.isAgg92
  z119 := Tryd.sizeOf92
  t138 := Tryd.underlying94
  a138 := Tryd.isAgg94
  z138 := Tryd.sizeOf94
  v138 := Tryd.zeroValue94
  t139 := Tryd.underlying95
  a139 := Tryd.isAgg95
  z139 := Tryd.sizeOf95
  v139 := Tryd.zeroValue95
  g3 := by kernel_rfl
  g4 := by kernel_rfl }
end Go.Proofs

namespace Go.Proofs.YtnddbklbgddblaaDoor
namespace Ad
set_option linter.unusedVariables false

/-- The number that digits write, from n on; none behind one that is greater than most. -/
def numGo (most : Nat) : Nat → List UInt8 → Option Nat
  | n, [] => some n
  | n, b :: l => if 48 ≤ b.toNat ∧ b.toNat ≤ 57 then (if most < 10 * n + (b.toNat - 48) then none else numGo most (10 * n + (b.toNat - 48)) l) else none
def num (l : List UInt8) (most : Nat) : Option Nat := if l = [] ∨ (1 < l.length ∧ l.head? = some 48) then none else numGo most 0 l
/-- What is answered: the number, or nought; the error, or none. -/
def nv (o : Option Nat) : Int := ((o.getD 0 : Nat) : Int)
theorem drop_cons (s : ByteArray) (i : Nat) (h : i < s.size) : s.data.toList.drop i = s[i]'h :: s.data.toList.drop (i + 1) := by
  have hl : i < s.data.toList.length := by rw [Array.length_toList]; exact h
  rw [List.drop_eq_getElem_cons hl]
  congr 1
theorem drop_end (s : ByteArray) (i : Nat) (h : ¬ i < s.size) : s.data.toList.drop i = [] := by
  apply List.drop_eq_nil_of_le
  rw [Array.length_toList]; show s.size ≤ i; omega

def hx (n : Nat) : Option Nat := if 48 ≤ n ∧ n ≤ 57 then some (n - 48) else if 97 ≤ n ∧ n ≤ 102 then some (n - 87) else none
/-- The digit of a value. -/
def hdg (n : Nat) : Nat := if n < 10 then 48 + n else 87 + n
def two : List UInt8 → Option Nat
  | [a, b] => match hx a.toNat, hx b.toNat with
    | some x, some y => some (16 * x + y)
    | _, _ => none
  | _ => none
theorem text_len (s : ByteArray) : s.data.toList.length = s.size := by rw [Array.length_toList]; rfl
/-- A text two digits by two. -/
def twos : List UInt8 → Option (List Int)
  | [] => some []
  | [_] => none
  | a :: b :: t => match two [a, b], twos t with
    | some x, some r => some ((x : Int) :: r)
    | _, _ => none
def key (s : List UInt8) : Option (List Int) := if s.length = 16 then twos s else none
theorem six {r : List Int} (h : r.length = 6) : ∃ a b c d e f, r = [a, b, c, d, e, f] := by
  match r, h with
  | [a, b, c, d, e, f], _ => exact ⟨a, b, c, d, e, f, rfl⟩
end Ad
end Go.Proofs.YtnddbklbgddblaaDoor

namespace Go.Proofs.YtnddbklbgddblaaDoor
namespace Sm

theorem wraps_u32 (n : Int) (h0 : 0 ≤ n) (h1 : n < 2 ^ 32) : IntKind.u32.wrap n = n := by rw [IntKind.wrap_u32]; omega
/-- The i-th word of a list of bytes. -/
def wd (l : List Int) (i : Nat) : Int := l.getD (2 * i) 0 * 256 + l.getD (2 * i + 1) 0
def IsBytes (l : List Int) : Prop := ∀ i : Nat, 0 ≤ l.getD i 0 ∧ l.getD i 0 ≤ 255
/-- One word put on, with the carry at the end. -/
def addc (s w : Int) : Int := if s + w ≤ 4294967295 then s + w else s + w - 4294967295
/-- The first k words put on s. -/
def acc (l : List Int) (s : Int) : Nat → Int
  | 0 => s
  | k + 1 => addc (acc l s k) (wd l k)
end Sm
end Go.Proofs.YtnddbklbgddblaaDoor

