/-
  Numbers as text: the program's Num and the document's own, at every text.
  Rows of bytes in memory: what a slice of bytes reads as, rows that the call itself made, and bytes or noughts appended to them. Of no one program.
  Plain mathematics: a text cut at a sign, at all of them, or at so many.
-/
import Derived.Test.YtneciccdiledfaaGreatDoorRows
import Derived.Test.YtneciccdiledfaaGreatDoorMw01
import Derived.WalkKit
import Derived.WalkSpells
import Derived.WalkLawsBesides
import Derived.LoopTactic
import Derived.Below
import Derived.Laws.AppendOwnNone
import Derived.Lib.AppendZerosOnto
import Derived.Lib.SplitLaws
namespace Go.Proofs.YtneciccdiledfaaGreatDoor
open Go.RowKit
open Ad
set_option linter.unusedVariables false

theorem isDigit_any (r : Int) (w : World) : Calls Tryz.prog 115 #[.int .i32 r] w fun e w' => e = .returned (.bool (decide (48 ≤ r ∧ r ≤ 57))) ∧ w = w' := by
  by_cases h1 : 48 ≤ r
  · by_cases h2 : r ≤ 57
    · have hd : decide (48 ≤ r ∧ r ≤ 57) = true := by simp; omega
      rw [hd]
      go_enter Tryz.func115, Tryz.ntmps115
      go_wp2
      go_ret
      exact ⟨by first | rfl | simp [h2], rfl⟩
    · have hd : decide (48 ≤ r ∧ r ≤ 57) = false := by simp; omega
      rw [hd]
      go_enter Tryz.func115, Tryz.ntmps115
      go_wp2
      go_ret
      exact ⟨by first | rfl | simp [h2], rfl⟩
  · have hd : decide (48 ≤ r ∧ r ≤ 57) = false := by simp; omega
    rw [hd]
    go_enter Tryz.func115, Tryz.ntmps115
    go_wp2
    go_ret
    exact ⟨rfl, rfl⟩

theorem wrap32' {x : Int} (h0 : -2147483648 ≤ x) (h1 : x ≤ 2147483647) : IntKind.i32.wrap x = x := by
  simp [IntKind.wrap, IntKind.bits, IntKind.signed]; omega
theorem wrap64u {x : Int} (h0 : 0 ≤ x) (h1 : x ≤ 18446744073709551615) : IntKind.u64.wrap x = x := by
  simp [IntKind.wrap, IntKind.bits, IntKind.signed]; omega
theorem wrap32u {x : Int} (h0 : 0 ≤ x) (h1 : x ≤ 4294967295) : IntKind.u32.wrap x = x := by
  simp [IntKind.wrap, IntKind.bits, IntKind.signed]; omega
theorem wrap8u {x : Int} (h0 : 0 ≤ x) (h1 : x ≤ 255) : IntKind.u8.wrap x = x := by
  simp [IntKind.wrap, IntKind.bits, IntKind.signed]; omega
theorem wrap64 {x : Int} (h0 : -9223372036854775808 ≤ x) (h1 : x ≤ 9223372036854775807) : IntKind.i64.wrap x = x := by
  simp [IntKind.wrap, IntKind.bits, IntKind.signed]; omega
theorem iter_below (w : World) (s : ByteArray) (p : Nat) : Below w.heap.size w (w.iter s p) := (Below.refl _ w).alloc (Nat.le_refl _) _
theorem size_pos_iff (s : ByteArray) : s.toList == ([] : List UInt8) ↔ s.size = 0 := by
  rw [ByteArray.toList_eq]
  have : s.data.toList.length = s.size := by rw [Array.length_toList]; rfl
  simp only [beq_iff_eq]
  constructor
  · intro h; rw [h] at this; exact this.symm
  · intro h; rw [h] at this; exact List.eq_nil_of_length_eq_zero this
set_option maxHeartbeats 4000000 in
set_option maxRecDepth 20000 in
theorem num_go (s : ByteArray) (most : Nat) (hm : most ≤ 4294967295) (hs : s.size ≤ 140737488355328) (w : World) (h0 : 0 < s.size) (hz : s.size = 1 ∨ 1 < s.size ∧ (s[0]'h0).toNat ≠ 48) :
    Calls Tryz.prog 100 #[.string s, .int .u32 most] w fun e w' => e = .returned (.tuple #[.int .u32 (nv (numGo most 0 s.data.toList)), .int .i64 (ne (numGo most 0 s.data.toList))]) ∧ Below w.heap.size w w' := by
  have he : (s.toList == ([] : List UInt8)) = false := by
    have := size_pos_iff s
    cases hb : (s.toList == ([] : List UInt8))
    · rfl
    · have := this.1 hb; omega
  have hlen : s.data.toList.length = s.size := by rw [Array.length_toList]; rfl
  have hzz : s.size = 1 ∨ 1 < s.size ∧ (((s[0]'h0).toNat : Int) == 48) = false := by
    rcases hz with h | ⟨h, h2⟩
    · exact Or.inl h
    · exact Or.inr ⟨h, by simp; omega⟩
  clear hz
  rcases hzz with h1 | ⟨h1, hz⟩
  all_goals
    obtain ⟨R, hR⟩ : ∃ R, numGo most 0 s.data.toList = R := ⟨_, rfl⟩
    rw [hR]
    have hmz : (0 : Int) ≤ most := by omega
    have hmz2 : (most : Int) ≤ 4294967295 := by omega
    go_enter Tryz.func100, Tryz.ntmps100
    go_wp2_with fail
    go_loopw [6] (fun v w' => ∃ (pos n : Nat), w' = w.iter s pos ∧ v = .int .u64 n ∧ n ≤ most ∧ numGo most n (s.data.toList.drop pos) = R) (fun _ w' => s.size - w'.iterPos w.heap.size)
    case atStart => exact ⟨0, 0, rfl, rfl, Nat.zero_le _, by simpa using hR⟩
    case round =>
      obtain ⟨pos, n, rfl, rfl, hn, hc⟩ := hrel
      by_cases hp : pos < s.size
      · rw [drop_cons s pos hp] at hc
        by_cases ha : (s[pos]'hp).toNat < 128
        · have hnx : ∀ ty, (Instr.next (.pointer (some ⟨w.heap.size, 0, none⟩)) true ty).run Tryz.prog (w.iter s pos) = _ := fun ty => run_next_ascii w s pos ty hp ha
          generalize s[pos]'hp = b at hc ha hnx
          by_cases hd : 48 ≤ b.toNat ∧ b.toNat ≤ 57
          · have hdec : decide ((48 : Int) ≤ (b.toNat : Int) ∧ (b.toNat : Int) ≤ 57) = true := by simp; omega
            have cD := isDigit_any (b.toNat : Int)
            rw [hdec] at cD
            have e1 : IntKind.i32.wrap ((b.toNat : Int) - 48) = (b.toNat : Int) - 48 := wrap32' (by omega) (by omega)
            have e2 : IntKind.u64.wrap ((b.toNat : Int) - 48) = (b.toNat : Int) - 48 := wrap64u (by omega) (by omega)
            have e3 : IntKind.u64.wrap (10 * (n : Int)) = 10 * (n : Int) := wrap64u (by omega) (by omega)
            have e4 : IntKind.u64.wrap (10 * (n : Int) + ((b.toNat : Int) - 48)) = 10 * (n : Int) + ((b.toNat : Int) - 48) := wrap64u (by omega) (by omega)
            have e5 : IntKind.u64.wrap (most : Int) = most := wrap64u (by omega) (by omega)
            by_cases hov : most < 10 * n + (b.toNat - 48)
            · rw [numGo_over hd hov] at hc
              subst hc
              have hovz : (most : Int) < 10 * (n : Int) + ((b.toNat : Int) - 48) := by omega
              go_wp2_with fail
              refine (cD _).mono ?_
              rintro e w' ⟨rfl, rfl⟩
              go_wp2_with fail
              exact bodyPost_ret (v := .tuple #[.int .u32 0, .int .i64 60]) (by simp [results, Tryz.results100, go_sem]) rfl ⟨rfl, iter_below _ _ _⟩
            · rw [numGo_on hd hov] at hc
              have hovz : ¬ (most : Int) < 10 * (n : Int) + ((b.toNat : Int) - 48) := by omega
              go_wp2_with fail
              refine (cD _).mono ?_
              rintro e w' ⟨rfl, rfl⟩
              go_wp2_with fail
              go_roundw
              case rel => exact ⟨pos + 1, 10 * n + (b.toNat - 48), rfl, by congr 1; omega, by omega, hc⟩
              case measure => simp; omega
          · have hdec : decide ((48 : Int) ≤ (b.toNat : Int) ∧ (b.toNat : Int) ≤ 57) = false := by simp; omega
            have cD := isDigit_any (b.toNat : Int)
            rw [hdec] at cD
            rw [numGo_stop hd] at hc
            subst hc
            go_wp2_with fail
            refine (cD _).mono ?_
            rintro e w' ⟨rfl, rfl⟩
            go_wp2_with fail
            exact bodyPost_ret (v := .tuple #[.int .u32 0, .int .i64 60]) (by simp [results, Tryz.results100, go_sem]) rfl ⟨rfl, iter_below _ _ _⟩
        · have hnx : ∀ ty, (Instr.next (.pointer (some ⟨w.heap.size, 0, none⟩)) true ty).run Tryz.prog (w.iter s pos) = _ := fun ty => run_next_any w s pos ty hp
          have hh := (decode_high s pos hp (by omega)).1
          rw [numGo_stop (by omega)] at hc
          subst hc
          generalize (Utf8.decode s pos).1 = r at hnx hh
          generalize (Utf8.decode s pos).2 = q at hnx
          have hdec : decide ((48 : Int) ≤ (r : Int) ∧ (r : Int) ≤ 57) = false := by simp; omega
          have cD := isDigit_any (r : Int)
          rw [hdec] at cD
          go_wp2_with fail
          refine (cD _).mono ?_
          rintro e w' ⟨rfl, rfl⟩
          go_wp2_with fail
          exact bodyPost_ret (v := .tuple #[.int .u32 0, .int .i64 60]) (by simp [results, Tryz.results100, go_sem]) rfl ⟨rfl, iter_below _ _ _⟩
      · have hnx : ∀ ty, (Instr.next (.pointer (some ⟨w.heap.size, 0, none⟩)) true ty).run Tryz.prog (w.iter s pos) = _ := fun ty => run_next_end w s pos ty hp
        rw [drop_end s pos hp] at hc
        have e6 : IntKind.u32.wrap (n : Int) = n := wrap32u (by omega) (by omega)
        go_wp2_with fail
        subst hc
        exact bodyPost_ret (v := .tuple #[.int .u32 n, .int .i64 0]) (by simp [results, Tryz.results100, go_sem]) rfl ⟨rfl, iter_below _ _ _⟩
theorem num_none (s : ByteArray) (most : Nat) (w : World) (h : s.size = 0 ∨ ∃ h0 : 0 < s.size, 1 < s.size ∧ (s[0]'h0).toNat = 48) :
    Calls Tryz.prog 100 #[.string s, .int .u32 most] w fun e w' => e = .returned (.tuple #[.int .u32 0, .int .i64 60]) ∧ Below w.heap.size w w' := by
  rcases h with h | ⟨h0, h1, hz⟩
  · have he : (s.toList == ([] : List UInt8)) = true := (size_pos_iff s).2 h
    go_enter Tryz.func100, Tryz.ntmps100
    go_wp2_with fail
    exact bodyPost_ret (v := .tuple #[.int .u32 0, .int .i64 60]) (by simp [results, Tryz.results100, go_sem]) rfl ⟨rfl, Below.refl _ _⟩
  · have he : (s.toList == ([] : List UInt8)) = false := by
      have := size_pos_iff s
      cases hb : (s.toList == ([] : List UInt8))
      · rfl
      · have := this.1 hb; omega
    have hz : (((s[0]'h0).toNat : Int) == 48) = true := by simp; omega
    go_enter Tryz.func100, Tryz.ntmps100
    go_wp2_with fail
    exact bodyPost_ret (v := .tuple #[.int .u32 0, .int .i64 60]) (by simp [results, Tryz.results100, go_sem]) rfl ⟨rfl, Below.refl _ _⟩
theorem head_at (s : ByteArray) (h0 : 0 < s.size) : s.data.toList.head? = some (s[0]'h0) := by
  have := drop_cons s 0 h0
  rw [List.drop_zero] at this
  rw [this]; rfl
theorem size_len (s : ByteArray) : s.data.toList.length = s.size := by rw [Array.length_toList]; rfl
theorem num_cases (s : ByteArray) (most : Nat) : (num s.data.toList most = none ∧ (s.size = 0 ∨ ∃ h0 : 0 < s.size, 1 < s.size ∧ (s[0]'h0).toNat = 48)) ∨ (num s.data.toList most = numGo most 0 s.data.toList ∧ ∃ h0 : 0 < s.size, s.size = 1 ∨ 1 < s.size ∧ (s[0]'h0).toNat ≠ 48) := by
  unfold num
  have hl := size_len s
  by_cases h0 : 0 < s.size
  · have hh := head_at s h0
    have hne : s.data.toList ≠ [] := by intro e; rw [e] at hl; simp at hl; omega
    by_cases h1 : 1 < s.size
    · by_cases hz : (s[0]'h0).toNat = 48
      · refine Or.inl ⟨if_pos (Or.inr ⟨by omega, ?_⟩), Or.inr ⟨h0, h1, hz⟩⟩
        rw [hh]; congr 1; exact UInt8.toNat_inj.1 hz
      · refine Or.inr ⟨if_neg ?_, h0, Or.inr ⟨h1, hz⟩⟩
        rintro (e | ⟨_, e⟩)
        · exact hne e
        · rw [hh] at e
          exact hz (by rw [Option.some.inj e]; rfl)
    · refine Or.inr ⟨if_neg ?_, h0, Or.inl (by omega)⟩
      rintro (e | ⟨e, _⟩)
      · exact hne e
      · omega
  · refine Or.inl ⟨if_pos (Or.inl ?_), Or.inl (by omega)⟩
    apply List.eq_nil_of_length_eq_zero; omega
theorem num_any (s : ByteArray) (most : Nat) (hm : most ≤ 4294967295) (hs : s.size ≤ 140737488355328) (w : World) :
    Calls Tryz.prog 100 #[.string s, .int .u32 most] w fun e w' => e = .returned (.tuple #[.int .u32 (nv (num s.data.toList most)), .int .i64 (ne (num s.data.toList most))]) ∧ Below w.heap.size w w' := by
  rcases num_cases s most with ⟨e, h⟩ | ⟨e, h0, h⟩
  · rw [e]; exact num_none s most w h
  · rw [e]; exact num_go s most hm hs w h0 h
end Go.Proofs.YtneciccdiledfaaGreatDoor

namespace Go.Proofs.YtneciccdiledfaaGreatDoor
open Go.RowKit
open Sm
set_option linter.unusedVariables false

/-- A slice whose elements are the bytes l. -/
structure Row (w : World) (a : Option Addr) (l : List Int) : Prop where
  bytes : IsBytes l
  len : l.length ≤ 140737488351232
  cells : l = [] ∨ ∃ b off, a = some ⟨b, off, none⟩ ∧ ∀ i, i < l.length → w.cell? ⟨b, off + i, none⟩ = some (.int .u8 (l.getD i 0))

theorem cell_lt {w : World} {p : Addr} {v : Value} (h : w.cell? p = some v) : p.block < w.heap.size := by
  by_cases hc : p.block < w.heap.size
  · exact hc
  · have : w.heap[p.block]? = none := by simp; omega
    simp [World.cell?, this] at h

theorem Row.below {w w' : World} {a : Option Addr} {l : List Int} (h : Row w a l) {B : Nat} (hb : Below B w w') (hB : w.heap.size ≤ B) : Row w' a l := by
  refine ⟨h.bytes, h.len, ?_⟩
  rcases h.cells with e | ⟨b, off, rfl, hc⟩
  · exact Or.inl e
  · refine Or.inr ⟨b, off, rfl, fun i hi => ?_⟩
    have := cell_lt (hc i hi)
    rw [hb.cell (p := ⟨b, off + i, none⟩) (by simp at this ⊢; omega)]
    exact hc i hi

theorem info5 : (Tryz.prog.info? 5).map (fun i => (i.zero, i.size, i.bytes)) = some (some (.int .u8 0), 1, 1) := by kernel_rfl

theorem row_nil (w : World) : Row w none [] := ⟨fun i => by simp, by simp, Or.inl rfl⟩

/-- A slice of the call's own that holds the bytes l. -/
def OwnB (w : World) (B g cap : Nat) (l : List Int) : Prop := w.ownsRow B 5 1 (.slice (some ⟨g, 0, none⟩) l.length cap) l.length (l.map (Value.int .u8))

theorem getD_eq {l : List Int} {i : Nat} (h : i < l.length) : l.getD i 0 = l[i] := by simp [List.getD, List.getElem?_eq_getElem h]

theorem OwnB.cell {w : World} {B g cap : Nat} {l : List Int} (h : OwnB w B g cap l) (i : Nat) (hi : i < l.length) : w.cell? ⟨g, i, none⟩ = some (.int .u8 (l.getD i 0)) := by
  rw [World.ownsRow.cellAt h i (by omega), getD_eq hi]
  simp [hi]

theorem OwnB.row {w : World} {B g cap : Nat} {l : List Int} (h : OwnB w B g cap l) (hb : IsBytes l) (hl : l.length ≤ 140737488351232) : Row w (some ⟨g, 0, none⟩) l :=
  ⟨hb, hl, Or.inr ⟨g, 0, rfl, fun i hi => by rw [Nat.zero_add]; exact h.cell i hi⟩⟩

theorem OwnB.free {w : World} {B g cap : Nat} {l : List Int} (h : OwnB w B g cap l) (j : Nat) : w.frozen? ⟨g, j, none⟩ = false := World.ownsRow.frozenAt h j

theorem Row.news {w : World} {b off : Nat} {l : List Int} (h : Row w (some ⟨b, off, none⟩) l) :
    ∀ (j : Nat) (u : Value), (l.map (Value.int .u8))[j]? = some u → w.cell? ((⟨b, off, none⟩ : Addr).add j) = some u := by
  intro j u hj
  have hjl : j < l.length := by
    have := (List.getElem?_eq_some_iff.mp hj).1
    simpa using this
  have e : ((⟨b, off, none⟩ : Addr).add j) = ⟨b, off + j, none⟩ := by
    by_cases e : j = 0
    · subst e; simp [Addr.add]
    · simp [Addr.add, e]
  rcases h.cells with e' | ⟨b', off', e', hc⟩
  · subst e'; simp at hjl
  · simp only [Option.some.injEq, Addr.mk.injEq] at e'
    obtain ⟨rfl, rfl, -⟩ := e'
    rw [e, hc j hjl]
    rw [getD_eq hjl]
    simpa [hjl] using hj

theorem wpList_wanted {P : Program} {ops : Array Oper} {Q : Exit → Act → World → Prop} {a : Act} {w : World} {rest : List Oper} {o : Oper} (hw : Region.wanted o (yielded ops a.tmps) = true)
    (h : ∀ K : Act → World → Prop, (∀ a w, wpList P ops Q rest a w → K a w) → o.wp P a w K Q) : wpList P ops Q (o :: rest) a w :=
  wpList_step fun K hK => by rw [if_pos hw]; exact h K hK

theorem wp_append_out {o : Oper} {a : Act} {w : World} {K : Act → World → Prop} {Q : Exit → Act → World → Prop} (s x : Operand) (t tn : TypeId)
    (ho : o.op = .call { callee := .builtin .append, args := #[s, x], argTypes := #[t, tn] }) {vs vx : Value} (hs : a.eval s = vs) (hx : a.eval x = vx)
    {v' : Value} {w' : World} (hr : (Builtin.append_ #[t, tn] o.type #[vs, vx]).run Tryz.prog w = .ok v' w') (h : K (a.put o.dst v') w') : o.wp Tryz.prog a w K Q :=
  Lib.wp_append_run w s x t tn ho vs vx hs hx v' w' hr h

namespace Sm
end Sm

theorem own_ge {w : World} {B n : Nat} {e : TypeId} {v : Value} {xs : List Value} (h : w.ownsRow B e 1 v n xs) : ∀ k, v.ownBlock = some k → B ≤ k := by
  intro k hk
  obtain ⟨h1, h2⟩ := h
  rcases h2 with ⟨rfl, h3⟩ | ⟨g, cap, cur, rfl, hg, r⟩
  · cases hk
  · cases hk; exact hg

end Go.Proofs.YtneciccdiledfaaGreatDoor

namespace Go.Proofs.YtneciccdiledfaaGreatDoor
namespace Ad
set_option linter.unusedVariables false

def cut (c : UInt8) : List UInt8 → List (List UInt8)
  | [] => [[]]
  | x :: l => if x = c then [] :: cut c l else match cut c l with
    | [] => [[x]]
    | p :: r => (x :: p) :: r
theorem cut_free (c : UInt8) : ∀ {l : List UInt8}, (∀ x ∈ l, x ≠ c) → cut c l = [l]
  | [], _ => rfl
  | x :: l, h => by
    rw [cut, if_neg (h x (by simp)), cut_free c (fun y hy => h y (by simp [hy]))]
theorem cut_at (c : UInt8) (t : List UInt8) : ∀ {p : List UInt8}, (∀ x ∈ p, x ≠ c) → cut c (p ++ c :: t) = p :: cut c t
  | [], _ => by rw [List.nil_append, cut, if_pos rfl]
  | x :: p, h => by
    rw [List.cons_append, cut, if_neg (h x (by simp)), cut_at c t (fun y hy => h y (by simp [hy]))]
theorem cut_pos (c : UInt8) : ∀ (l : List UInt8), 0 < (cut c l).length
  | [] => by simp [cut]
  | x :: l => by
    rw [cut]
    split
    · simp
    · split <;> simp
theorem first_cut (c : UInt8) (l : List UInt8) : (∀ x ∈ l, x ≠ c) ∨ ∃ p t, l = p ++ c :: t ∧ ∀ x ∈ p, x ≠ c := by
  induction l with
  | nil => exact Or.inl (by simp)
  | cons x l ih =>
    by_cases hx : x = c
    · exact Or.inr ⟨[], l, by simp [hx], by simp⟩
    · rcases ih with h | ⟨p, t, h1, h2⟩
      · refine Or.inl fun y hy => ?_
        rcases List.mem_cons.1 hy with rfl | hy
        · exact hx
        · exact h y hy
      · refine Or.inr ⟨x :: p, t, by rw [h1]; rfl, fun y hy => ?_⟩
        rcases List.mem_cons.1 hy with rfl | hy
        · exact hx
        · exact h2 y hy
theorem cut_len_le (c : UInt8) : ∀ (l : List UInt8), (cut c l).length ≤ l.length + 1
  | [] => by simp [cut]
  | x :: l => by
    have ih := cut_len_le c l
    rw [cut]
    split
    · simp only [List.length_cons]; omega
    · split
      · simp
      · rename_i h; rw [h] at ih; simp only [List.length_cons] at ih ⊢; omega
theorem index_free {c : UInt8} {l : List UInt8} (h : ∀ x ∈ l, x ≠ c) : Lib.index l [c] = -1 := by
  apply Lib.index_none
  intro j _
  cases e : Lib.occAt l [c] j with
  | false => rfl
  | true => exact absurd rfl (h c (List.mem_of_getElem? (Lib.occAt_head rfl e)))
theorem index_cut {c : UInt8} {p t : List UInt8} (h : ∀ x ∈ p, x ≠ c) : Lib.index (p ++ c :: t) [c] = p.length := by
  apply Lib.index_first
  · simp
  · rw [Lib.occAt_iff_take _ _ _ (by simp)]
    simp
  · intro j hj
    cases e : Lib.occAt (p ++ c :: t) [c] j with
    | false => rfl
    | true =>
      have := Lib.occAt_head rfl e
      rw [List.getElem?_append_left hj] at this
      exact absurd rfl (h c (List.mem_of_getElem? this))
theorem split_cut (c : UInt8) : ∀ (k : Nat) (l : List UInt8), ((cut c l).length ≤ k + 1 ∧ Lib.splitK [c] 0 k l = cut c l) ∨ (k + 1 < (cut c l).length ∧ (Lib.splitK [c] 0 k l).length = k + 1)
  | 0, l => by
    rcases first_cut c l with h | ⟨p, t, rfl, h⟩
    · rw [cut_free c h]; exact Or.inl ⟨by simp, rfl⟩
    · rw [cut_at c t h]
      have := cut_pos c t
      exact Or.inr ⟨by simp only [List.length_cons]; omega, rfl⟩
  | k + 1, l => by
    rcases first_cut c l with h | ⟨p, t, rfl, h⟩
    · rw [cut_free c h]
      refine Or.inl ⟨by simp, ?_⟩
      rw [Lib.splitK, index_free h]; rfl
    · have e : Lib.splitK [c] 0 (k + 1) (p ++ c :: t) = p :: Lib.splitK [c] 0 k t := by
        have hne : ¬ ((((p.length : Nat) : Int) == -1) = true) := by
          intro hh
          have := beq_iff_eq.1 hh
          omega
        rw [Lib.splitK, index_cut h, if_neg hne]
        have h1 : (p ++ c :: t).take (((p.length : Nat) : Int).toNat + 0) = p := by simp
        have h2 : (p ++ c :: t).drop (((p.length : Nat) : Int).toNat + [c].length) = t := by
          rw [show ((p.length : Nat) : Int).toNat + [c].length = (p ++ [c]).length by simp, show p ++ c :: t = (p ++ [c]) ++ t by simp, List.drop_left]
        rw [h1, h2]
      rw [e, cut_at c t h]
      rcases split_cut c k t with ⟨h1, h2⟩ | ⟨h1, h2⟩
      · exact Or.inl ⟨by simp only [List.length_cons]; omega, by rw [h2]⟩
      · exact Or.inr ⟨by simp only [List.length_cons]; omega, by simp only [List.length_cons]; omega⟩
theorem split_n (c : UInt8) (s : ByteArray) (n m : Nat) (hm : m < n) :
    ((Lib.splitB ⟨#[c]⟩ 0 (min n (s.size + 1) - 1) s).length = m ∧ (Lib.splitB ⟨#[c]⟩ 0 (min n (s.size + 1) - 1) s).map (·.data.toList) = cut c s.data.toList ∧ (cut c s.data.toList).length = m) ∨
    ((Lib.splitB ⟨#[c]⟩ 0 (min n (s.size + 1) - 1) s).length ≠ m ∧ (cut c s.data.toList).length ≠ m) := by
  have hd := Lib.splitB_data ⟨#[c]⟩ 0 (min n (s.size + 1) - 1) s
  have hl : (Lib.splitB ⟨#[c]⟩ 0 (min n (s.size + 1) - 1) s).length = (Lib.splitK [c] 0 (min n (s.size + 1) - 1) s.data.toList).length := by
    rw [← List.length_map (f := fun x : ByteArray => x.data.toList), hd]
  have hle := cut_len_le c s.data.toList
  rw [text_len] at hle
  rcases split_cut c (min n (s.size + 1) - 1) s.data.toList with ⟨h1, h2⟩ | ⟨h1, h2⟩
  · rw [h2] at hl
    by_cases e : (cut c s.data.toList).length = m
    · exact Or.inl ⟨by rw [hl, e], by rw [hd]; exact h2, e⟩
    · exact Or.inr ⟨by rw [hl]; exact e, e⟩
  · refine Or.inr ⟨by rw [hl, h2]; omega, by omega⟩
end Ad
end Go.Proofs.YtneciccdiledfaaGreatDoor

