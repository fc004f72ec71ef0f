/-
  Numbers as text: the program's Num and the document's own, at every text.
-/
import Derived.Test.YtkkbnagfndphpaaDoorRows
import Derived.Test.YtkkbnagfndphpaaDoorAdMath
import Derived.WalkKit
import Derived.WalkSpells
import Derived.WalkLawsBesides
import Derived.LoopTactic
import Derived.Below
namespace Go.Proofs.YtkkbnagfndphpaaDoor
open Go.RowKit
open Ad
set_option linter.unusedVariables false

theorem isDigit_any (r : Int) (w : World) : Calls Tryd.prog 30 #[.int .i32 r] w fun e w' => e = .returned (.bool (decide (48 ≤ r ∧ r ≤ 57))) ∧ w = w' := by
  by_cases h1 : 48 ≤ r
  · by_cases h2 : r ≤ 57
    · have hd : decide (48 ≤ r ∧ r ≤ 57) = true := by simp; omega
      rw [hd]
      go_enter Tryd.func30, Tryd.ntmps30
      go_wp2
      go_ret
      exact ⟨by first | rfl | simp [h2], rfl⟩
    · have hd : decide (48 ≤ r ∧ r ≤ 57) = false := by simp; omega
      rw [hd]
      go_enter Tryd.func30, Tryd.ntmps30
      go_wp2
      go_ret
      exact ⟨by first | rfl | simp [h2], rfl⟩
  · have hd : decide (48 ≤ r ∧ r ≤ 57) = false := by simp; omega
    rw [hd]
    go_enter Tryd.func30, Tryd.ntmps30
    go_wp2
    go_ret
    exact ⟨rfl, rfl⟩

theorem wrap32' {x : Int} (h0 : -2147483648 ≤ x) (h1 : x ≤ 2147483647) : IntKind.i32.wrap x = x := by
  simp [IntKind.wrap, IntKind.bits, IntKind.signed]; omega
theorem wrap64u {x : Int} (h0 : 0 ≤ x) (h1 : x ≤ 18446744073709551615) : IntKind.u64.wrap x = x := by
  simp [IntKind.wrap, IntKind.bits, IntKind.signed]; omega
theorem wrap32u {x : Int} (h0 : 0 ≤ x) (h1 : x ≤ 4294967295) : IntKind.u32.wrap x = x := by
  simp [IntKind.wrap, IntKind.bits, IntKind.signed]; omega
theorem wrap8u {x : Int} (h0 : 0 ≤ x) (h1 : x ≤ 255) : IntKind.u8.wrap x = x := by
  simp [IntKind.wrap, IntKind.bits, IntKind.signed]; omega
theorem wrap64 {x : Int} (h0 : -9223372036854775808 ≤ x) (h1 : x ≤ 9223372036854775807) : IntKind.i64.wrap x = x := by
  simp [IntKind.wrap, IntKind.bits, IntKind.signed]; omega
theorem iter_below (w : World) (s : ByteArray) (p : Nat) : Below w.heap.size w (w.iter s p) := (Below.refl _ w).alloc (Nat.le_refl _) _
theorem size_pos_iff (s : ByteArray) : s.toList == ([] : List UInt8) ↔ s.size = 0 := by
  rw [ByteArray.toList_eq]
  have : s.data.toList.length = s.size := by rw [Array.length_toList]; rfl
  simp only [beq_iff_eq]
  constructor
  · intro h; rw [h] at this; exact this.symm
  · intro h; rw [h] at this; exact List.eq_nil_of_length_eq_zero this
set_option maxHeartbeats 4000000 in
set_option maxRecDepth 20000 in
theorem num_go (s : ByteArray) (most : Nat) (hm : most ≤ 4294967295) (hs : s.size ≤ 140737488355328) (w : World) (h0 : 0 < s.size) (hz : s.size = 1 ∨ 1 < s.size ∧ (s[0]'h0).toNat ≠ 48) :
    Calls Tryd.prog 15 #[.string s, .int .u32 most] w fun e w' => e = .returned (.tuple #[.int .u32 (nv (numGo most 0 s.data.toList)), .int .i64 (ne (numGo most 0 s.data.toList))]) ∧ Below w.heap.size w w' := by
  have he : (s.toList == ([] : List UInt8)) = false := by
    have := size_pos_iff s
    cases hb : (s.toList == ([] : List UInt8))
    · rfl
    · have := this.1 hb; omega
  have hlen : s.data.toList.length = s.size := by rw [Array.length_toList]; rfl
  have hzz : s.size = 1 ∨ 1 < s.size ∧ (((s[0]'h0).toNat : Int) == 48) = false := by
    rcases hz with h | ⟨h, h2⟩
    · exact Or.inl h
    · exact Or.inr ⟨h, by simp; omega⟩
  clear hz
  rcases hzz with h1 | ⟨h1, hz⟩
  all_goals
    obtain ⟨R, hR⟩ : ∃ R, numGo most 0 s.data.toList = R := ⟨_, rfl⟩
    rw [hR]
    have hmz : (0 : Int) ≤ most := by omega
    have hmz2 : (most : Int) ≤ 4294967295 := by omega
    go_enter Tryd.func15, Tryd.ntmps15
    go_wp2_with fail
    go_loopw [6] (fun v w' => ∃ (pos n : Nat), w' = w.iter s pos ∧ v = .int .u64 n ∧ n ≤ most ∧ numGo most n (s.data.toList.drop pos) = R) (fun _ w' => s.size - w'.iterPos w.heap.size)
    case atStart => exact ⟨0, 0, rfl, rfl, Nat.zero_le _, by simpa using hR⟩
    case round =>
      obtain ⟨pos, n, rfl, rfl, hn, hc⟩ := hrel
      by_cases hp : pos < s.size
      · rw [drop_cons s pos hp] at hc
        by_cases ha : (s[pos]'hp).toNat < 128
        · have hnx : ∀ ty, (Instr.next (.pointer (some ⟨w.heap.size, 0, none⟩)) true ty).run Tryd.prog (w.iter s pos) = _ := fun ty => run_next_ascii w s pos ty hp ha
          generalize s[pos]'hp = b at hc ha hnx
          by_cases hd : 48 ≤ b.toNat ∧ b.toNat ≤ 57
          · have hdec : decide ((48 : Int) ≤ (b.toNat : Int) ∧ (b.toNat : Int) ≤ 57) = true := by simp; omega
            have cD := isDigit_any (b.toNat : Int)
            rw [hdec] at cD
            have e1 : IntKind.i32.wrap ((b.toNat : Int) - 48) = (b.toNat : Int) - 48 := wrap32' (by omega) (by omega)
            have e2 : IntKind.u64.wrap ((b.toNat : Int) - 48) = (b.toNat : Int) - 48 := wrap64u (by omega) (by omega)
            have e3 : IntKind.u64.wrap (10 * (n : Int)) = 10 * (n : Int) := wrap64u (by omega) (by omega)
            have e4 : IntKind.u64.wrap (10 * (n : Int) + ((b.toNat : Int) - 48)) = 10 * (n : Int) + ((b.toNat : Int) - 48) := wrap64u (by omega) (by omega)
            have e5 : IntKind.u64.wrap (most : Int) = most := wrap64u (by omega) (by omega)
            by_cases hov : most < 10 * n + (b.toNat - 48)
            · rw [numGo_over hd hov] at hc
              subst hc
              have hovz : (most : Int) < 10 * (n : Int) + ((b.toNat : Int) - 48) := by omega
              go_wp2_with fail
              refine (cD _).mono ?_
              rintro e w' ⟨rfl, rfl⟩
              go_wp2_with fail
              exact bodyPost_ret (v := .tuple #[.int .u32 0, .int .i64 60]) (by simp [results, Tryd.results15, go_sem]) rfl ⟨rfl, iter_below _ _ _⟩
            · rw [numGo_on hd hov] at hc
              have hovz : ¬ (most : Int) < 10 * (n : Int) + ((b.toNat : Int) - 48) := by omega
              go_wp2_with fail
              refine (cD _).mono ?_
              rintro e w' ⟨rfl, rfl⟩
              go_wp2_with fail
              go_roundw
              case rel => exact ⟨pos + 1, 10 * n + (b.toNat - 48), rfl, by congr 1; omega, by omega, hc⟩
              case measure => simp; omega
          · have hdec : decide ((48 : Int) ≤ (b.toNat : Int) ∧ (b.toNat : Int) ≤ 57) = false := by simp; omega
            have cD := isDigit_any (b.toNat : Int)
            rw [hdec] at cD
            rw [numGo_stop hd] at hc
            subst hc
            go_wp2_with fail
            refine (cD _).mono ?_
            rintro e w' ⟨rfl, rfl⟩
            go_wp2_with fail
            exact bodyPost_ret (v := .tuple #[.int .u32 0, .int .i64 60]) (by simp [results, Tryd.results15, go_sem]) rfl ⟨rfl, iter_below _ _ _⟩
        · have hnx : ∀ ty, (Instr.next (.pointer (some ⟨w.heap.size, 0, none⟩)) true ty).run Tryd.prog (w.iter s pos) = _ := fun ty => run_next_any w s pos ty hp
          have hh := (decode_high s pos hp (by omega)).1
          rw [numGo_stop (by omega)] at hc
          subst hc
          generalize (Utf8.decode s pos).1 = r at hnx hh
          generalize (Utf8.decode s pos).2 = q at hnx
          have hdec : decide ((48 : Int) ≤ (r : Int) ∧ (r : Int) ≤ 57) = false := by simp; omega
          have cD := isDigit_any (r : Int)
          rw [hdec] at cD
          go_wp2_with fail
          refine (cD _).mono ?_
          rintro e w' ⟨rfl, rfl⟩
          go_wp2_with fail
          exact bodyPost_ret (v := .tuple #[.int .u32 0, .int .i64 60]) (by simp [results, Tryd.results15, go_sem]) rfl ⟨rfl, iter_below _ _ _⟩
      · have hnx : ∀ ty, (Instr.next (.pointer (some ⟨w.heap.size, 0, none⟩)) true ty).run Tryd.prog (w.iter s pos) = _ := fun ty => run_next_end w s pos ty hp
        rw [drop_end s pos hp] at hc
        have e6 : IntKind.u32.wrap (n : Int) = n := wrap32u (by omega) (by omega)
        go_wp2_with fail
        subst hc
        exact bodyPost_ret (v := .tuple #[.int .u32 n, .int .i64 0]) (by simp [results, Tryd.results15, go_sem]) rfl ⟨rfl, iter_below _ _ _⟩
theorem num_none (s : ByteArray) (most : Nat) (w : World) (h : s.size = 0 ∨ ∃ h0 : 0 < s.size, 1 < s.size ∧ (s[0]'h0).toNat = 48) :
    Calls Tryd.prog 15 #[.string s, .int .u32 most] w fun e w' => e = .returned (.tuple #[.int .u32 0, .int .i64 60]) ∧ Below w.heap.size w w' := by
  rcases h with h | ⟨h0, h1, hz⟩
  · have he : (s.toList == ([] : List UInt8)) = true := (size_pos_iff s).2 h
    go_enter Tryd.func15, Tryd.ntmps15
    go_wp2_with fail
    exact bodyPost_ret (v := .tuple #[.int .u32 0, .int .i64 60]) (by simp [results, Tryd.results15, go_sem]) rfl ⟨rfl, Below.refl _ _⟩
  · have he : (s.toList == ([] : List UInt8)) = false := by
      have := size_pos_iff s
      cases hb : (s.toList == ([] : List UInt8))
      · rfl
      · have := this.1 hb; omega
    have hz : (((s[0]'h0).toNat : Int) == 48) = true := by simp; omega
    go_enter Tryd.func15, Tryd.ntmps15
    go_wp2_with fail
    exact bodyPost_ret (v := .tuple #[.int .u32 0, .int .i64 60]) (by simp [results, Tryd.results15, go_sem]) rfl ⟨rfl, Below.refl _ _⟩
theorem head_at (s : ByteArray) (h0 : 0 < s.size) : s.data.toList.head? = some (s[0]'h0) := by
  have := drop_cons s 0 h0
  rw [List.drop_zero] at this
  rw [this]; rfl
theorem size_len (s : ByteArray) : s.data.toList.length = s.size := by rw [Array.length_toList]; rfl
/-- When a text is no number at its first look, and when it is asked digit by digit. -/
theorem num_cases (s : ByteArray) (most : Nat) : (num s.data.toList most = none ∧ (s.size = 0 ∨ ∃ h0 : 0 < s.size, 1 < s.size ∧ (s[0]'h0).toNat = 48)) ∨ (num s.data.toList most = numGo most 0 s.data.toList ∧ ∃ h0 : 0 < s.size, s.size = 1 ∨ 1 < s.size ∧ (s[0]'h0).toNat ≠ 48) := by
  unfold num
  have hl := size_len s
  by_cases h0 : 0 < s.size
  · have hh := head_at s h0
    have hne : s.data.toList ≠ [] := by intro e; rw [e] at hl; simp at hl; omega
    by_cases h1 : 1 < s.size
    · by_cases hz : (s[0]'h0).toNat = 48
      · refine Or.inl ⟨if_pos (Or.inr ⟨by omega, ?_⟩), Or.inr ⟨h0, h1, hz⟩⟩
        rw [hh]; congr 1; exact UInt8.toNat_inj.1 hz
      · refine Or.inr ⟨if_neg ?_, h0, Or.inr ⟨h1, hz⟩⟩
        rintro (e | ⟨_, e⟩)
        · exact hne e
        · rw [hh] at e
          exact hz (by rw [Option.some.inj e]; rfl)
    · refine Or.inr ⟨if_neg ?_, h0, Or.inl (by omega)⟩
      rintro (e | ⟨e, _⟩)
      · exact hne e
      · omega
  · refine Or.inl ⟨if_pos (Or.inl ?_), Or.inl (by omega)⟩
    apply List.eq_nil_of_length_eq_zero; omega
/-- Num of package addr, at every text. -/
theorem num_any (s : ByteArray) (most : Nat) (hm : most ≤ 4294967295) (hs : s.size ≤ 140737488355328) (w : World) :
    Calls Tryd.prog 15 #[.string s, .int .u32 most] w fun e w' => e = .returned (.tuple #[.int .u32 (nv (num s.data.toList most)), .int .i64 (ne (num s.data.toList most))]) ∧ Below w.heap.size w w' := by
  rcases num_cases s most with ⟨e, h⟩ | ⟨e, h0, h⟩
  · rw [e]; exact num_none s most w h
  · rw [e]; exact num_go s most hm hs w h0 h
end Go.Proofs.YtkkbnagfndphpaaDoor
