/-
  What each function of package sum (and each of the document's own, lychref1) answers, as contracts: whatever the arguments, in whatever memory.
-/
import Derived.Test.YtjalpbkfpjfigaaGreatBase
namespace Go.Proofs.YtjalpbkfpjfigaaGreat
open Go.RowKit
open Sm
set_option linter.unusedVariables false

set_option maxHeartbeats 400000 in
theorem halves_any (x : Int) (w : World) (h0 : 0 ≤ x) (h1 : x ≤ 4294967295) :
    Calls Tryz.prog 117 #[.int .u32 x] w fun e w' => e = .returned (.int .u32 (x / 65536 + x % 65536)) ∧ w = w' := by
  have hb := sm_low32 x h0 h1
  go_enter Tryz.func117, Tryz.ntmps117
  go_wp2
  go_ret
  exact ⟨ret_int (by omega), rfl⟩

set_option maxHeartbeats 400000 in
theorem fold_any (x : Int) (w : World) (h0 : 0 ≤ x) (h1 : x ≤ 4294967295) :
    Calls Tryz.prog 90 #[.int .u32 x] w fun e w' => e = .returned (.int .u16 (foldv x)) ∧ w = w' := by
  go_enter Tryz.func90, Tryz.ntmps90
  go_wp2
  go_loop [0] (fun t => ∃ y : Int, 0 ≤ y ∧ y ≤ 4294967295 ∧ foldv y = foldv x ∧ t = .int .u32 y) (fun t => (intOf t).toNat)
  case atStart => exact ⟨x, h0, h1, rfl, rfl⟩
  case round =>
    obtain ⟨y, hy0, hy1, hf, rfl⟩ := hrel
    have HF : Hid (foldv y = foldv x) := hf
    clear hf
    by_cases hy : 65536 ≤ y
    · have hne : (y / 65536 == 0) = false := by simp; omega
      go_wp2_with (go_at_call 117; refine (halves_any _ _ (by omega) (by omega)).mono ?_; rintro e w' ⟨rfl, rfl⟩)
      go_round
      case rel => exact ⟨_, by omega, by omega, (foldv_halves y hy0).trans HF.out, rfl⟩
      case measure => simp [intOf]; omega
    · have he : (y / 65536 == 0) = true := by simp; omega
      go_wp2
      go_ret
      exact ⟨ret_int (by rw [← HF.out, foldv_small y hy0 (by omega)]), rfl⟩

set_option maxHeartbeats 400000 in
theorem rfold_any (x : Int) (w : World) (h0 : 0 ≤ x) (h1 : x ≤ 4294967295) :
    Calls Tryz.prog 67 #[.int .u32 x] w fun e w' => e = .returned (.int .u16 (foldv x)) ∧ w = w' := by
  go_enter Tryz.func67, Tryz.ntmps67
  go_wp2
  go_loop [0] (fun t => ∃ y : Int, 0 ≤ y ∧ y ≤ 4294967295 ∧ foldv y = foldv x ∧ t = .int .u32 y) (fun t => (intOf t).toNat)
  case atStart => exact ⟨x, h0, h1, rfl, rfl⟩
  case round =>
    obtain ⟨y, hy0, hy1, hf, rfl⟩ := hrel
    have HF : Hid (foldv y = foldv x) := hf
    clear hf
    have hb := sm_low32 y hy0 hy1
    by_cases hy : 65536 ≤ y
    · have hne : (y / 65536 == 0) = false := by simp; omega
      go_wp2
      go_round
      case rel => exact ⟨_, by omega, by omega, (foldv_halves y hy0).trans HF.out, rfl⟩
      case measure => simp [intOf]; omega
    · have he : (y / 65536 == 0) = true := by simp; omega
      go_wp2
      go_ret
      exact ⟨ret_int (by rw [← HF.out, foldv_small y hy0 (by omega)]), rfl⟩


set_option maxHeartbeats 400000 in
theorem count_any (a : Option Addr) (len cap : Nat) (w : World) (hl : len ≤ 140737488351232) :
    Calls Tryz.prog 118 #[.slice a len cap] w fun e w' => e = .returned (.int .i64 (cnt len)) ∧ w = w' := by
  go_enter Tryz.func118, Tryz.ntmps118
  go_wp2
  go_ret
  exact ⟨ret_int (cnt_cast len).symm, rfl⟩

set_option maxHeartbeats 400000 in
theorem word_two (b off len cap : Nat) (i : Int) (c0 c1 : Int) (w : World) (hl : len ≤ 140737488351232) (hi0 : 0 ≤ i) (hi : 2 * i + 1 < len)
    (g0 : w.cell? ⟨b, off + (2 * i).toNat, none⟩ = some (.int .u8 c0)) (g1 : w.cell? ⟨b, off + (2 * i + 1).toNat, none⟩ = some (.int .u8 c1)) (h0 : 0 ≤ c0) (h1 : c0 ≤ 255) (h2 : 0 ≤ c1) (h3 : c1 ≤ 255) :
    Calls Tryz.prog 119 #[.slice (some ⟨b, off, none⟩) len cap, .int .i64 i] w fun e w' => e = .returned (.int .u16 (c0 * 256 + c1)) ∧ w = w' := by
  have hb := sm_word c0 c1 h0 h1 h2 h3
  go_enter Tryz.func119, Tryz.ntmps119
  go_wp2
  go_ret
  exact ⟨rfl, rfl⟩

set_option maxHeartbeats 400000 in
theorem word_one (b off len cap : Nat) (i : Int) (c0 : Int) (w : World) (hl : len ≤ 140737488351232) (hi0 : 0 ≤ i) (hi : 2 * i < len) (hj : len ≤ 2 * i + 1)
    (g0 : w.cell? ⟨b, off + (2 * i).toNat, none⟩ = some (.int .u8 c0)) (h0 : 0 ≤ c0) (h1 : c0 ≤ 255) :
    Calls Tryz.prog 119 #[.slice (some ⟨b, off, none⟩) len cap, .int .i64 i] w fun e w' => e = .returned (.int .u16 (c0 * 256)) ∧ w = w' := by
  go_enter Tryz.func119, Tryz.ntmps119
  go_wp2
  go_ret
  exact ⟨rfl, rfl⟩

theorem word_row {w : World} {a : Option Addr} {l : List Int} (h : Row w a l) (cap i : Nat) (hi : i < cnt l.length) :
    Calls Tryz.prog 119 #[.slice a l.length cap, .int .i64 i] w fun e w' => e = .returned (.int .u16 (wd l i)) ∧ w = w' := by
  have hz : l ≠ [] := by rintro rfl; simp [cnt] at hi
  rcases h.cells with e | ⟨b, off, rfl, hc⟩
  · exact absurd e hz
  · have hi' : 2 * i < l.length := by unfold cnt at hi; omega
    have b0 := h.bytes (2 * i)
    have b1 := h.bytes (2 * i + 1)
    have e0 : off + (2 * (i : Int)).toNat = off + 2 * i := by omega
    have e1 : off + (2 * (i : Int) + 1).toNat = off + (2 * i + 1) := by omega
    by_cases h1 : 2 * i + 1 < l.length
    · exact word_two b off l.length cap i _ _ w h.len (by omega) (by omega) (by rw [e0]; exact hc _ hi') (by rw [e1]; exact hc _ h1) b0.1 b0.2 b1.1 b1.2
    · refine (word_one b off l.length cap i _ w h.len (by omega) (by omega) (by omega) (by rw [e0]; exact hc _ hi') b0.1 b0.2).mono ?_
      rintro e w' ⟨rfl, rfl⟩
      refine ⟨ret_int ?_, rfl⟩
      have : l.getD (2 * i + 1) 0 = 0 := by simp [List.getD, List.getElem?_eq_none (show l.length ≤ 2 * i + 1 by omega)]
      unfold wd; omega

set_option maxHeartbeats 400000 in
theorem add_any {w : World} {a : Option Addr} {l : List Int} (h : Row w a l) (cap : Nat) (s : Int) (h0 : 0 ≤ s) (h1 : s ≤ 4294967295) :
    Calls Tryz.prog 91 #[.int .u32 s, .slice a l.length cap] w fun e w' => e = .returned (.int .u32 (acc l s (cnt l.length))) ∧ w = w' := by
  have hlen := h.len
  have hcl : cnt l.length ≤ l.length := by unfold cnt; omega
  obtain ⟨n, hn⟩ : ∃ n, n = cnt l.length := ⟨_, rfl⟩
  have hnl : n ≤ 140737488351232 := by omega
  have HN : Hid (n = cnt l.length) := hn
  rw [← hn]
  clear hcl hn
  go_enter Tryz.func91, Tryz.ntmps91
  go_wp2_with (go_at_call 118; refine (count_any _ _ _ _ hlen).mono ?_; rintro e w' ⟨rfl, rfl⟩; rw [← HN.out])
  go_loop [5, 11] (fun t i => ∃ k : Nat, k ≤ n ∧ i = .int .i64 k ∧ t = .int .u32 (acc l s k)) (fun _ i => n - (intOf i).toNat)
  case atStart => exact ⟨0, Nat.zero_le _, rfl, rfl⟩
  case round =>
    obtain ⟨k, hk, rfl, rfl⟩ := hrel
    have ra := acc_range h.bytes s h0 h1 k
    have rw' := wd_range h.bytes k
    obtain ⟨ra0, ra1⟩ := ra
    obtain ⟨rw0, rw1⟩ := rw'
    by_cases hlt : k < n
    · have HS : Hid (acc l s (k + 1) = addc (acc l s k) (wd l k)) := rfl
      by_cases hc : acc l s k + wd l k ≤ 4294967295
      · go_wp2_with (go_at_call 119; refine (word_row h _ _ (by rw [← HN.out]; exact hlt)).mono ?_; rintro e w' ⟨rfl, rfl⟩)
        go_round
        case rel => exact ⟨k + 1, by omega, by go_num, by rw [HS.out]; unfold addc; rw [if_pos hc]⟩
        case measure => simp [intOf]; omega
      · go_wp2_with (go_at_call 119; refine (word_row h _ _ (by rw [← HN.out]; exact hlt)).mono ?_; rintro e w' ⟨rfl, rfl⟩)
        go_round
        case rel => exact ⟨k + 1, by omega, by go_num, by rw [HS.out]; unfold addc; rw [if_neg (by omega)]; go_num⟩
        case measure => simp [intOf]; omega
    · go_wp2
      go_ret
      exact ⟨ret_int (by rw [show k = n by omega]), rfl⟩

set_option maxHeartbeats 400000 in
theorem of_any {w : World} {a : Option Addr} {l : List Int} (h : Row w a l) (cap : Nat) :
    Calls Tryz.prog 65 #[.slice a l.length cap] w fun e w' => e = .returned (.int .u16 (ofv l)) ∧ w = w' := by
  have ra := acc_range h.bytes 0 (by omega) (by omega) (cnt l.length)
  have HF : Hid (foldv (acc l 0 (cnt l.length)) = foldv (0 + tot l (cnt l.length))) := foldv_acc h.bytes 0 (by omega) (by omega) (cnt l.length)
  have hr := foldv_range (acc l 0 (cnt l.length))
  have hx := sm_not16 _ hr.1 hr.2
  have hs : IntKind.u16.signed = false := rfl
  go_enter Tryz.func65, Tryz.ntmps65
  go_wp2_with (first | (go_at_call 91; refine (add_any h _ _ (by omega) (by omega)).mono ?_; rintro e w' ⟨rfl, rfl⟩) | (go_at_call 90; refine (fold_any _ _ (by omega) (by omega)).mono ?_; rintro e w' ⟨rfl, rfl⟩))
  go_ret
  exact ⟨ret_int (by unfold ofv; rw [HF.out, Int.zero_add]), rfl⟩

set_option maxHeartbeats 400000 in
theorem update_any (old was now : Int) (w : World) (h0 : 0 ≤ old) (h1 : old ≤ 65535) (h2 : 0 ≤ was) (h3 : was ≤ 65535) (h4 : 0 ≤ now) (h5 : now ≤ 65535) :
    Calls Tryz.prog 94 #[.int .u16 old, .int .u16 was, .int .u16 now] w fun e w' => e = .returned (.int .u16 (updv old was now)) ∧ w = w' := by
  have x0 := sm_not16 old h0 h1
  have x1 := sm_not16 was h2 h3
  have hr := foldv_range (65535 - old + (65535 - was) + now)
  have x2 := sm_not16 _ hr.1 hr.2
  have hs : IntKind.u16.signed = false := rfl
  go_enter Tryz.func94, Tryz.ntmps94
  go_wp2_with (go_at_call 90; refine (fold_any _ _ (by omega) (by omega)).mono ?_; rintro e w' ⟨rfl, rfl⟩)
  go_ret
  exact ⟨rfl, rfl⟩

set_option maxHeartbeats 400000 in
theorem rupdate_any (old was now : Int) (w : World) (h0 : 0 ≤ old) (h1 : old ≤ 65535) (h2 : 0 ≤ was) (h3 : was ≤ 65535) (h4 : 0 ≤ now) (h5 : now ≤ 65535) :
    Calls Tryz.prog 42 #[.int .u16 old, .int .u16 was, .int .u16 now] w fun e w' => e = .returned (.int .u16 (updv old was now)) ∧ w = w' := by
  have x0 := sm_not16 old h0 h1
  have x1 := sm_not16 was h2 h3
  have hr := foldv_range (65535 - old + (65535 - was) + now)
  have x2 := sm_not16 _ hr.1 hr.2
  have hs : IntKind.u16.signed = false := rfl
  go_enter Tryz.func42, Tryz.ntmps42
  go_wp2_with (go_at_call 67; refine (rfold_any _ _ (by omega) (by omega)).mono ?_; rintro e w' ⟨rfl, rfl⟩)
  go_ret
  exact ⟨rfl, rfl⟩

theorem wrap16 (n : Int) : IntKind.u16.wrap n = n % 65536 := by simp [IntKind.wrap, IntKind.bits, IntKind.signed]

set_option maxHeartbeats 400000 in
theorem pseudo_any (src dst proto n : Int) (w : World) (h0 : 0 ≤ src) (h1 : src ≤ 4294967295) (h2 : 0 ≤ dst) (h3 : dst ≤ 4294967295) (h4 : 0 ≤ proto) (h5 : proto ≤ 255) :
    Calls Tryz.prog 114 #[.int .u32 src, .int .u32 dst, .int .u8 proto, .int .i64 n] w fun e w' => e = .returned (.int .u32 (psv src dst proto n)) ∧ w = w' := by
  have hn := wrap16 n
  have hr := foldv_range (src / 65536 + src % 65536 + (dst / 65536 + dst % 65536) + proto + n % 65536)
  go_enter Tryz.func114, Tryz.ntmps114
  go_wp2_with (first | (go_at_call 117; refine (halves_any _ _ (by omega) (by omega)).mono ?_; rintro e w' ⟨rfl, rfl⟩) | (go_at_call 90; refine (fold_any _ _ (by omega) (by omega)).mono ?_; rintro e w' ⟨rfl, rfl⟩))
  go_ret
  exact ⟨ret_int (by unfold psv; first | rfl | omega), rfl⟩

theorem psv_other (src dst proto n : Int) (m : Int) (h : m = n % 65536) : psv src dst proto n = foldv (src / 65536 + src % 65536 + dst / 65536 + dst % 65536 + proto + m) := by
  unfold psv; rw [h]; congr 1; omega
theorem low_wrap (n : Int) : bits .and .u64 (IntKind.u64.wrap n) 65535 = n % 65536 := by
  have e : IntKind.u64.wrap n = n % 18446744073709551616 := by simp [IntKind.wrap, IntKind.bits, IntKind.signed]
  rw [e, sm_low64 _ (by omega) (by omega)]; omega

set_option maxHeartbeats 400000 in
theorem rpseudo_any (src dst proto n : Int) (w : World) (h0 : 0 ≤ src) (h1 : src ≤ 4294967295) (h2 : 0 ≤ dst) (h3 : dst ≤ 4294967295) (h4 : 0 ≤ proto) (h5 : proto ≤ 255) :
    Calls Tryz.prog 69 #[.int .u32 src, .int .u32 dst, .int .u8 proto, .int .i64 n] w fun e w' => e = .returned (.int .u32 (psv src dst proto n)) ∧ w = w' := by
  have a0 := sm_low32 src h0 h1
  have a1 := sm_low32 dst h2 h3
  have a2 := low_wrap n
  have hr := foldv_range (src / 65536 + src % 65536 + dst / 65536 + dst % 65536 + proto + n % 65536)
  go_enter Tryz.func69, Tryz.ntmps69
  go_wp2_with (go_at_call 67; refine (rfold_any _ _ (by omega) (by omega)).mono ?_; rintro e w' ⟨rfl, rfl⟩)
  go_ret
  exact ⟨ret_int (psv_other src dst proto n _ rfl).symm, rfl⟩

/-- Where Place falls, among n of them. -/
def plc (at_ n : Int) : Int := if at_.tmod n < 0 then at_.tmod n + n else at_.tmod n
theorem plc_range (a n : Int) (hn : 0 < n) : 0 ≤ plc a n ∧ plc a n < n := by
  have h1 := Int.tmod_lt_of_pos a hn
  have h2 : -n < a.tmod n := by
    have := Int.lt_tmod_of_pos a hn
    omega
  unfold plc; split <;> omega

end Go.Proofs.YtjalpbkfpjfigaaGreat
