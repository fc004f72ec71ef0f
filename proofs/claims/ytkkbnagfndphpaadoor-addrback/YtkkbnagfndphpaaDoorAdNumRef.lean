/-
  Numbers as text: the document's own Num, at every text, and a number's own text.
-/
import Derived.Test.YtkkbnagfndphpaaDoorAdNum
namespace Go.Proofs.YtkkbnagfndphpaaDoor
open Go.RowKit
open Ad
set_option linter.unusedVariables false

set_option maxHeartbeats 4000000 in
set_option maxRecDepth 20000 in
theorem rnum_go (s : ByteArray) (most : Nat) (hm : most ≤ 4294967295) (hs : s.size ≤ 140737488355328) (w : World) (h0 : 0 < s.size) (hz : s.size = 1 ∨ 1 < s.size ∧ (s[0]'h0).toNat ≠ 48) :
    Calls Tryd.prog 16 #[.string s, .int .u32 most] w fun e w' => e = .returned (.tuple #[.int .u32 (nv (numGo most 0 s.data.toList)), .int .i64 (ne (numGo most 0 s.data.toList))]) ∧ w = w' := by
  have he : (s.toList == ([] : List UInt8)) = false := by
    have := size_pos_iff s
    cases hb : (s.toList == ([] : List UInt8))
    · rfl
    · have := this.1 hb; omega
  have hlen : s.data.toList.length = s.size := by rw [Array.length_toList]; rfl
  have hzz : s.size = 1 ∨ 1 < s.size ∧ (((s[0]'h0).toNat : Int) == 48) = false := by
    rcases hz with h | ⟨h, h2⟩
    · exact Or.inl h
    · exact Or.inr ⟨h, by simp; omega⟩
  clear hz
  rcases hzz with h1 | ⟨h1, hz⟩
  all_goals
    obtain ⟨R, hR⟩ : ∃ R, numGo most 0 s.data.toList = R := ⟨_, rfl⟩
    rw [hR]
    have hmz : (0 : Int) ≤ most := by omega
    have hmz2 : (most : Int) ≤ 4294967295 := by omega
    go_enter Tryd.func16, Tryd.ntmps16
    go_wp2_with fail
    go_loopw [6, 7] (fun v j w' => ∃ (pos n : Nat), w' = w ∧ v = .int .u64 n ∧ j = .int .i64 pos ∧ pos ≤ s.size ∧ n ≤ most ∧ numGo most n (s.data.toList.drop pos) = R) (fun _ j _ => s.size - (intOf j).toNat)
    case atStart => exact ⟨0, 0, rfl, rfl, rfl, Nat.zero_le _, Nat.zero_le _, by simpa using hR⟩
    case round =>
      obtain ⟨pos, n, rfl, rfl, rfl, hps, hn, hc⟩ := hrel
      have e7 : IntKind.i64.wrap ((pos : Int) + 1) = (pos : Int) + 1 := wrap64 (by omega) (by omega)
      by_cases hp : pos < s.size
      · rw [drop_cons s pos hp] at hc
        have hpz : (pos : Int) < s.size := by omega
        have hix : ∀ W, (Instr.index 9 (.string s) (.int .i64 pos)).run Tryd.prog W = .ok (.int .u8 ((s[pos]'hp).toNat : Int)) W := by
          intro W
          rw [run_index_string W 9 s .i64 pos Tryd.underlying9, dif_pos ⟨by omega, hpz⟩]
          simp
        have hb256 : (s[pos]'hp).toNat < 256 := UInt8.toNat_lt _
        generalize s[pos]'hp = b at hc hix hb256
        have e1 : IntKind.u8.wrap ((b.toNat : Int) - 48) = ((b.toNat : Int) - 48) % 256 := by simp [IntKind.wrap, IntKind.bits, IntKind.signed]
        by_cases hd : 48 ≤ b.toNat ∧ b.toNat ≤ 57
        · have e1 : IntKind.u8.wrap ((b.toNat : Int) - 48) = (b.toNat : Int) - 48 := wrap8u (by omega) (by omega)
          have e2 : IntKind.u64.wrap ((b.toNat : Int) - 48) = (b.toNat : Int) - 48 := wrap64u (by omega) (by omega)
          have e3 : IntKind.u64.wrap (10 * (n : Int)) = 10 * (n : Int) := wrap64u (by omega) (by omega)
          have e4 : IntKind.u64.wrap (10 * (n : Int) + ((b.toNat : Int) - 48)) = 10 * (n : Int) + ((b.toNat : Int) - 48) := wrap64u (by omega) (by omega)
          have e5 : IntKind.u64.wrap (most : Int) = most := wrap64u (by omega) (by omega)
          have d1 : ¬ (b.toNat : Int) < 48 := by omega
          have d2 : ¬ (57 : Int) < b.toNat := by omega
          by_cases hov : most < 10 * n + (b.toNat - 48)
          · rw [numGo_over hd hov] at hc
            subst hc
            have hovz : (most : Int) < 10 * (n : Int) + ((b.toNat : Int) - 48) := by omega
            go_wp2_with fail
            exact bodyPost_ret (v := .tuple #[.int .u32 0, .int .i64 60]) (by simp [results, Tryd.results16, go_sem]) rfl ⟨rfl, rfl⟩
          · rw [numGo_on hd hov] at hc
            have hovz : ¬ (most : Int) < 10 * (n : Int) + ((b.toNat : Int) - 48) := by omega
            go_wp2_with fail
            go_roundw
            case rel => exact ⟨pos + 1, 10 * n + (b.toNat - 48), by first | rfl | trivial, by congr 1; omega, by first | rfl | trivial, by omega, by omega, hc⟩
            case measure => simp [intOf]; omega
        · rw [numGo_stop hd] at hc
          subst hc
          by_cases d1 : (b.toNat : Int) < 48
          · go_wp2_with fail
            exact bodyPost_ret (v := .tuple #[.int .u32 0, .int .i64 60]) (by simp [results, Tryd.results16, go_sem]) rfl ⟨rfl, rfl⟩
          · have d2 : (57 : Int) < b.toNat := by omega
            go_wp2_with fail
            exact bodyPost_ret (v := .tuple #[.int .u32 0, .int .i64 60]) (by simp [results, Tryd.results16, go_sem]) rfl ⟨rfl, rfl⟩
      · have hpz : ¬ (pos : Int) < s.size := by omega
        rw [drop_end s pos hp] at hc
        have e6 : IntKind.u32.wrap (n : Int) = n := wrap32u (by omega) (by omega)
        go_wp2_with fail
        subst hc
        exact bodyPost_ret (v := .tuple #[.int .u32 n, .int .i64 0]) (by simp [results, Tryd.results16, go_sem]) rfl ⟨rfl, rfl⟩
theorem rnum_none (s : ByteArray) (most : Nat) (w : World) (h : s.size = 0 ∨ ∃ h0 : 0 < s.size, 1 < s.size ∧ (s[0]'h0).toNat = 48) :
    Calls Tryd.prog 16 #[.string s, .int .u32 most] w fun e w' => e = .returned (.tuple #[.int .u32 0, .int .i64 60]) ∧ w = w' := by
  rcases h with h | ⟨h0, h1, hz⟩
  · have he : (s.toList == ([] : List UInt8)) = true := (size_pos_iff s).2 h
    go_enter Tryd.func16, Tryd.ntmps16
    go_wp2_with fail
    exact bodyPost_ret (v := .tuple #[.int .u32 0, .int .i64 60]) (by simp [results, Tryd.results16, go_sem]) rfl ⟨rfl, rfl⟩
  · have he : (s.toList == ([] : List UInt8)) = false := by
      have := size_pos_iff s
      cases hb : (s.toList == ([] : List UInt8))
      · rfl
      · have := this.1 hb; omega
    have hz : (((s[0]'h0).toNat : Int) == 48) = true := by simp; omega
    go_enter Tryd.func16, Tryd.ntmps16
    go_wp2_with fail
    exact bodyPost_ret (v := .tuple #[.int .u32 0, .int .i64 60]) (by simp [results, Tryd.results16, go_sem]) rfl ⟨rfl, rfl⟩
/-- The document's own Num, at every text. -/
theorem rnum_any (s : ByteArray) (most : Nat) (hm : most ≤ 4294967295) (hs : s.size ≤ 140737488355328) (w : World) :
    Calls Tryd.prog 16 #[.string s, .int .u32 most] w fun e w' => e = .returned (.tuple #[.int .u32 (nv (num s.data.toList most)), .int .i64 (ne (num s.data.toList most))]) ∧ w = w' := by
  rcases num_cases s most with ⟨e, h⟩ | ⟨e, h0, h⟩
  · rw [e]; exact rnum_none s most w h
  · rw [e]; exact rnum_go s most hm hs w h0 h
end Go.Proofs.YtkkbnagfndphpaaDoor
