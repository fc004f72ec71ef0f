/-
  The chapter's examples.
-/
import Derived.Test.YtkkbnagfndphpaaDoorAdIpText
import Derived.Test.YtkkbnagfndphpaaDoorAdMac
import Derived.Test.YtkkbnagfndphpaaDoorAdName
namespace Go.Proofs.YtkkbnagfndphpaaDoor
open Go.RowKit
open Ad
set_option linter.unusedVariables false

/-- Two arrays that are the same. -/
theorem mac_same (x0 x1 x2 x3 x4 x5 : Int) (w : World) : (Op.equalIn 10000 30 (.agg #[.int .u8 x0, .int .u8 x1, .int .u8 x2, .int .u8 x3, .int .u8 x4, .int .u8 x5]) (.agg #[.int .u8 x0, .int .u8 x1, .int .u8 x2, .int .u8 x3, .int .u8 x4, .int .u8 x5])).run Tryd.prog w = .ok true w := by
  have u5 := Tryd.underlying5
  rw [show (10000 : Nat) = 9999 + 1 from rfl, Op.equalIn]
  simp only [Sem.run_bind, run_underlying Tryd.underlying30, Result.andThen_ok]
  simp only [Std.Legacy.Range.forIn_eq_forIn_range', Std.Legacy.Range.size, Nat.sub_zero, Nat.add_sub_cancel, Nat.div_one, List.range'_succ, List.range'_zero, List.forIn_cons, List.forIn_nil]
  go_simp
theorem key_same (x0 x1 x2 x3 x4 x5 x6 x7 : Int) (w : World) : (Op.equalIn 10000 35 (.agg #[.int .u8 x0, .int .u8 x1, .int .u8 x2, .int .u8 x3, .int .u8 x4, .int .u8 x5, .int .u8 x6, .int .u8 x7]) (.agg #[.int .u8 x0, .int .u8 x1, .int .u8 x2, .int .u8 x3, .int .u8 x4, .int .u8 x5, .int .u8 x6, .int .u8 x7])).run Tryd.prog w = .ok true w := by
  have u5 := Tryd.underlying5
  rw [show (10000 : Nat) = 9999 + 1 from rfl, Op.equalIn]
  simp only [Sem.run_bind, run_underlying Tryd.underlying35, Result.andThen_ok]
  simp only [Std.Legacy.Range.forIn_eq_forIn_range', Std.Legacy.Range.size, Nat.sub_zero, Nat.add_sub_cancel, Nat.div_one, List.range'_succ, List.range'_zero, List.forIn_cons, List.forIn_nil]
  go_simp
theorem kn_ip : ip [49, 48, 46, 48, 46, 48, 46, 50, 53, 53] = some 167772415 := by decide
theorem kn_no : ip [49, 48, 46, 48, 46, 48, 46, 50, 53, 54] = none := by decide
theorem kn_mac : mac [48, 50, 58, 48, 48, 58, 53, 101, 58, 49, 48, 58, 48, 48, 58, 48, 48] = some [2, 0, 94, 16, 0, 0] := by decide
theorem kn_name : nam [97, 45, 49] = true := by decide
theorem kn_noname : nam [45, 97] = false := by decide
theorem kn_text : ipt 167772415 = [49, 48, 46, 48, 46, 48, 46, 50, 53, 53] := (ip_lt kn_ip).2

set_option maxHeartbeats 4000000 in
set_option maxRecDepth 20000 in
theorem known_any {w : World} (hV : Vs w) : Calls Tryd.prog 8 #[] w fun e w' => e = .returned (.bool true) ∧ Below w.heap.size w w' := by
  have c1 : Calls Tryd.prog 9 #[.string ⟨#[49, 48, 46, 48, 46, 48, 46, 50, 53, 53]⟩] w fun e w' => e = .returned (.tuple #[.int .u32 167772415, .int .i64 0]) ∧ Below w.heap.size w w' := by
    have h := ip_any hV ⟨#[49, 48, 46, 48, 46, 48, 46, 50, 53, 53]⟩ (by decide)
    rw [show ip (⟨#[49, 48, 46, 48, 46, 48, 46, 50, 53, 53]⟩ : ByteArray).data.toList = some 167772415 from kn_ip] at h
    exact h
  go_enter Tryd.func8, Tryd.ntmps8
  go_wp2_with fail
  refine c1.mono ?_
  rintro e w1 ⟨rfl, hb1⟩
  have hV1 := hV.below hb1
  have c2 : Calls Tryd.prog 11 #[.string ⟨#[48, 50, 58, 48, 48, 58, 53, 101, 58, 49, 48, 58, 48, 48, 58, 48, 48]⟩] w1 fun e w' => e = .returned (.tuple #[.agg #[.int .u8 2, .int .u8 0, .int .u8 94, .int .u8 16, .int .u8 0, .int .u8 0], .int .i64 0]) ∧ Below w1.heap.size w1 w' := by
    have h := mac_any hV1 ⟨#[48, 50, 58, 48, 48, 58, 53, 101, 58, 49, 48, 58, 48, 48, 58, 48, 48]⟩ (by decide)
    rw [show mac (⟨#[48, 50, 58, 48, 48, 58, 53, 101, 58, 49, 48, 58, 48, 48, 58, 48, 48]⟩ : ByteArray).data.toList = some [2, 0, 94, 16, 0, 0] from kn_mac] at h
    exact h
  go_wp2_with fail
  refine c2.mono ?_
  rintro e w2 ⟨rfl, hb2⟩
  have hV2 := hV1.below hb2
  clear c1 c2
  have hM2 : Mem w2 (w2.alloc (.cells #[.int .u8 2, .int .u8 0, .int .u8 94, .int .u8 16, .int .u8 0, .int .u8 0] 30)) [(w2.heap.size, .cells #[.int .u8 2, .int .u8 0, .int .u8 94, .int .u8 16, .int .u8 0, .int .u8 0] 30 (0, 0))] := (Mem.nil w2).push w2.heap.size _ rfl
  have c3 : Calls Tryd.prog 9 #[.string ⟨#[49, 48, 46, 48, 46, 48, 46, 50, 53, 54]⟩] (w2.alloc (.cells #[.int .u8 2, .int .u8 0, .int .u8 94, .int .u8 16, .int .u8 0, .int .u8 0] 30)) fun e w' => e = .returned (.tuple #[.int .u32 0, .int .i64 60]) ∧ Below (w2.alloc (.cells #[.int .u8 2, .int .u8 0, .int .u8 94, .int .u8 16, .int .u8 0, .int .u8 0] 30)).heap.size (w2.alloc (.cells #[.int .u8 2, .int .u8 0, .int .u8 94, .int .u8 16, .int .u8 0, .int .u8 0] 30)) w' := by
    have h := ip_any (hV2.below hM2.below) ⟨#[49, 48, 46, 48, 46, 48, 46, 50, 53, 54]⟩ (by decide)
    rw [show ip (⟨#[49, 48, 46, 48, 46, 48, 46, 50, 53, 54]⟩ : ByteArray).data.toList = none from kn_no] at h
    exact h
  go_wp2_with fail
  refine c3.mono ?_
  rintro e w3 ⟨rfl, hb3⟩
  have hM3 := hM2.after hb3
  have hV3 := hV2.below hM3.below
  clear c3 hM2 hb3
  have d0 : w3.cell? ⟨w2.heap.size, 0, none⟩ = some (.int .u8 2) := hM3.cell 0 rfl 0
  have d1 : w3.cell? ⟨w2.heap.size, 1, none⟩ = some (.int .u8 0) := hM3.cell 0 rfl 1
  have d2 : w3.cell? ⟨w2.heap.size, 2, none⟩ = some (.int .u8 94) := hM3.cell 0 rfl 2
  have d3 : w3.cell? ⟨w2.heap.size, 3, none⟩ = some (.int .u8 16) := hM3.cell 0 rfl 3
  have d4 : w3.cell? ⟨w2.heap.size, 4, none⟩ = some (.int .u8 0) := hM3.cell 0 rfl 4
  have d5 : w3.cell? ⟨w2.heap.size, 5, none⟩ = some (.int .u8 0) := hM3.cell 0 rfl 5
  have q0 := mac_same 2 0 94 16 0 0
  have c4 : Calls Tryd.prog 19 #[.int .u32 167772415] w3 fun e w' => e = .returned (.string ⟨#[49, 48, 46, 48, 46, 48, 46, 50, 53, 53]⟩) ∧ Below w3.heap.size w3 w' := by
    have h := iptext_any hV3 167772415 (by omega)
    rw [kn_text] at h
    exact h
  go_wp2_with fail
  refine c4.mono ?_
  rintro e w4 ⟨rfl, hb4⟩
  have hV4 := hV3.below hb4
  have c5 : Calls Tryd.prog 17 #[.string ⟨#[97, 45, 49]⟩] w4 fun e w' => e = .returned (.bool true) ∧ Below w4.heap.size w4 w' := by
    have h := name_any hV4 ⟨#[97, 45, 49]⟩ (by decide)
    rw [show nam (⟨#[97, 45, 49]⟩ : ByteArray).data.toList = true from kn_name] at h
    exact h
  have hs : ((⟨#[49, 48, 46, 48, 46, 48, 46, 50, 53, 53]⟩ : ByteArray).toList == (⟨#[49, 48, 46, 48, 46, 48, 46, 50, 53, 53]⟩ : ByteArray).toList) = true := by simp
  go_wp2_with fail
  refine c5.mono ?_
  rintro e w5 ⟨rfl, hb5⟩
  have hV5 := hV4.below hb5
  have c6 : Calls Tryd.prog 17 #[.string ⟨#[45, 97]⟩] w5 fun e w' => e = .returned (.bool false) ∧ Below w5.heap.size w5 w' := by
    have h := name_any hV5 ⟨#[45, 97]⟩ (by decide)
    rw [show nam (⟨#[45, 97]⟩ : ByteArray).data.toList = false from kn_noname] at h
    exact h
  go_wp2_with fail
  refine c6.mono ?_
  rintro e w6 ⟨rfl, hb6⟩
  go_wp2_with fail
  go_ret
  have b2 := hb1.trans (hb2.mono hb1.size)
  have b3 := b2.trans (hM3.below.mono b2.size)
  have b4 := b3.trans (hb4.mono b3.size)
  have b5 := b4.trans (hb5.mono b4.size)
  exact ⟨rfl, b5.trans (hb6.mono b5.size)⟩
end Go.Proofs.YtkkbnagfndphpaaDoor
