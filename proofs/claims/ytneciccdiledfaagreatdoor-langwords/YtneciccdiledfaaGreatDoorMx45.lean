/-
  Settings as text: the document's own reader of a line: mac, key.
  Settings as text: the program's reader: a line behind the first.
  Settings as text: the program's Text, at all settings.
  Settings as text: the program's lines of a text.
-/
import Derived.Test.YtneciccdiledfaaGreatDoorMx44
import Derived.Test.YtneciccdiledfaaGreatDoorMx42
import Derived.Test.YtneciccdiledfaaGreatDoorMx39
import Derived.Test.YtneciccdiledfaaGreatDoorMx41
import Derived.RegionTactic
set_option linter.unusedVariables false
set_option linter.unusedSimpArgs false
set_option maxRecDepth 20000
namespace Go.Proofs.YtneciccdiledfaaGreatDoor
open Go.RowKit
open La
open Ad
theorem m6_len_of (s : List UInt8) : (m6 (mac s)).length = 6 := by
 cases e : mac s with
 | none => rfl
 | some l => exact (mac_back e).2.1
theorem k8_len_of (s : List UInt8) : (k8 (key s)).length = 8 := by
 cases e : key s with
 | none => rfl
 | some l => exact key_len e
set_option maxHeartbeats 2000000 in
theorem rlmac_any {w V : World} {g : Nat} {σ : Sg} {W K : List (Nat × Obj)} (h : Lg w V g σ W K) :
  Calls Tryz.prog 25 #[.pointer (some ⟨g, 0, none⟩)] V fun e V' => e = .returned (.agg (ab (m6 (val mac σ)))) ∧ Lg w V' g (vnx mac σ) W K := by
 obtain ⟨g0, hg0⟩ : ∃ g0, V.heap.size = g0 := ⟨_, rfl⟩
 have C := rword_any (h.push (.cells #[.int .u8 0, .int .u8 0, .int .u8 0, .int .u8 0, .int .u8 0, .int .u8 0] 25) hg0.symm)
 have hsz : (La.wd σ).1.size ≤ 40000 := by have := h.small; omega
 have hval : val mac σ = mac (La.wd σ).1.data.toList := rfl
 have hnx : vnx mac σ = if (mac (La.wd σ).1.data.toList).isSome then nxt σ else (nxt σ).fail (La.wd σ).2 := rfl
 rw [hval, hnx]
 clear hval hnx h
 generalize (La.wd σ).1 = x1 at C hsz ⊢
 generalize (La.wd σ).2 = x2 at C ⊢
 generalize nxt σ = τ at C ⊢
 have CI := fun V => rmac_any V x1 hsz
 have hlen : (m6 (mac x1.data.toList)).length = 6 := m6_len_of _
 have hev : mv (mac x1.data.toList) = .agg (ab (m6 (mac x1.data.toList))) := rfl
 rw [hev] at CI
 generalize m6 (mac x1.data.toList) = l at CI hlen ⊢
 obtain ⟨y1, y2, y3, y4, y5, y6, rfl⟩ := six hlen
 have hab : ab [y1, y2, y3, y4, y5, y6] = #[.int .u8 y1, .int .u8 y2, .int .u8 y3, .int .u8 y4, .int .u8 y5, .int .u8 y6] := rfl
 rw [hab] at CI ⊢
 have HG0 : Hid (V.heap.size = g0) := hg0
 clear hlen hev hab hg0
 cases hs : (mac x1.data.toList).isSome with
 | false =>
  simp only [le, hs, if_true, Bool.false_eq_true, if_false] at CI ⊢
  clear hs hsz
  go_enter Tryz.func25, Tryz.ntmps25
  go_wp2_with fail
  refine C.mono ?_
  rintro e V1 ⟨rfl, hL⟩
  obtain ⟨gw, hgw⟩ : ∃ gw, V1.heap.size = gw := ⟨_, rfl⟩
  have HP : Hid (Lg w (V1.alloc (.cells #[.string x1, .int .i64 x2] 79)) g τ W ((gw, (.cells #[.string x1, .int .i64 x2] 79)) :: (g0, (.cells #[.int .u8 0, .int .u8 0, .int .u8 0, .int .u8 0, .int .u8 0, .int .u8 0] 25)) :: K)) := hL.push _ hgw.symm
  have HG : Hid (V1.heap.size = gw) := hgw
  clear hL C hgw
  go_upto_region 2 with fail
  refine wp_letter (fun X => Lg w X g τ W ((gw, Obj.cells #[.string x1, .int .i64 x2] 79) :: (g0, Obj.cells #[.int .u8 0, .int .u8 0, .int .u8 0, .int .u8 0, .int .u8 0, .int .u8 0] 25) :: K)) (by exact HP.out) ?_
  intro V2 hR
  try simp only [HG.out]
  try simp only [HG0.out]
  have d0 : V2.cell? ⟨gw, 0, none⟩ = some (.string x1) := hR.cellK (i := 0) rfl 0
  have HR : Hid (Lg w V2 g τ W ((gw, (.cells #[.string x1, .int .i64 x2] 79)) :: (g0, (.cells #[.int .u8 0, .int .u8 0, .int .u8 0, .int .u8 0, .int .u8 0, .int .u8 0] 25)) :: K)) := hR
  have CJ := CI V2
  clear hR HP HG CI HG0
  go_wp2_with fail
  refine CJ.mono ?_
  rintro e V3 ⟨rfl, hB⟩
  obtain ⟨gm, hgm⟩ : ∃ gm, V3.heap.size = gm := ⟨_, rfl⟩
  have HP : Hid (Lg w (V3.alloc (.cells #[.int .u8 y1, .int .u8 y2, .int .u8 y3, .int .u8 y4, .int .u8 y5, .int .u8 y6] 25)) g τ W ((gm, (.cells #[.int .u8 y1, .int .u8 y2, .int .u8 y3, .int .u8 y4, .int .u8 y5, .int .u8 y6] 25)) :: (gw, (.cells #[.string x1, .int .i64 x2] 79)) :: (g0, (.cells #[.int .u8 0, .int .u8 0, .int .u8 0, .int .u8 0, .int .u8 0, .int .u8 0] 25)) :: K)) := (HR.out.after hB).push _ hgm.symm
  have HG : Hid (V3.heap.size = gm) := hgm
  clear CJ HR hgm hB d0
  go_upto_region 3 with fail
  refine wp_letter (fun X => Lg w X g τ W ((gm, Obj.cells #[.int .u8 y1, .int .u8 y2, .int .u8 y3, .int .u8 y4, .int .u8 y5, .int .u8 y6] 25) :: (gw, Obj.cells #[.string x1, .int .i64 x2] 79) :: (g0, Obj.cells #[.int .u8 0, .int .u8 0, .int .u8 0, .int .u8 0, .int .u8 0, .int .u8 0] 25) :: K)) (by exact HP.out) ?_
  intro V4 hL
  try simp only [HG.out]
  clear HP HG
  have d1 : V4.cell? ⟨gw, 1, none⟩ = some (.int .i64 x2) := hL.cellK (i := 1) rfl 1
  have CF := rfail_any hL x2
  clear hL
  go_wp2_with fail
  refine CF.mono ?_
  rintro e V5 ⟨rfl, hL⟩
  clear CF d1
  have e0 : V5.cell? ⟨gm, 0, none⟩ = some (.int .u8 y1) := hL.cellK (i := 0) rfl 0
  have e1 : V5.cell? ⟨gm, 1, none⟩ = some (.int .u8 y2) := hL.cellK (i := 0) rfl 1
  have e2 : V5.cell? ⟨gm, 2, none⟩ = some (.int .u8 y3) := hL.cellK (i := 0) rfl 2
  have e3 : V5.cell? ⟨gm, 3, none⟩ = some (.int .u8 y4) := hL.cellK (i := 0) rfl 3
  have e4 : V5.cell? ⟨gm, 4, none⟩ = some (.int .u8 y5) := hL.cellK (i := 0) rfl 4
  have e5 : V5.cell? ⟨gm, 5, none⟩ = some (.int .u8 y6) := hL.cellK (i := 0) rfl 5
  have f0 : V5.cell? ⟨g0, 0, none⟩ = some (.int .u8 0) := hL.cellK (i := 2) rfl 0
  have f1 : V5.cell? ⟨g0, 1, none⟩ = some (.int .u8 0) := hL.cellK (i := 2) rfl 1
  have f2 : V5.cell? ⟨g0, 2, none⟩ = some (.int .u8 0) := hL.cellK (i := 2) rfl 2
  have f3 : V5.cell? ⟨g0, 3, none⟩ = some (.int .u8 0) := hL.cellK (i := 2) rfl 3
  have f4 : V5.cell? ⟨g0, 4, none⟩ = some (.int .u8 0) := hL.cellK (i := 2) rfl 4
  have f5 : V5.cell? ⟨g0, 5, none⟩ = some (.int .u8 0) := hL.cellK (i := 2) rfl 5
  have fr := hL.freeK (i := 2) rfl
  have HL : Hid (Lg w V5 g (τ.fail x2) W ((gm, (.cells #[.int .u8 y1, .int .u8 y2, .int .u8 y3, .int .u8 y4, .int .u8 y5, .int .u8 y6] 25)) :: (gw, (.cells #[.string x1, .int .i64 x2] 79)) :: (g0, (.cells #[.int .u8 0, .int .u8 0, .int .u8 0, .int .u8 0, .int .u8 0, .int .u8 0] 25)) :: K)) := hL
  clear hL
  go_wp2_with fail
  refine post_let (fun X => Lg w X g (τ.fail x2) W ((gm, Obj.cells #[.int .u8 y1, .int .u8 y2, .int .u8 y3, .int .u8 y4, .int .u8 y5, .int .u8 y6] 25) :: (gw, Obj.cells #[.string x1, .int .i64 x2] 79) :: (g0, Obj.cells #[.int .u8 y1, .int .u8 y2, .int .u8 y3, .int .u8 y4, .int .u8 y5, .int .u8 y6] 25) :: K)) ((((((HL.out.set (i := 2) rfl 0 _).set (i := 2) rfl 1 _).set (i := 2) rfl 2 _).set (i := 2) rfl 3 _).set (i := 2) rfl 4 _).set (i := 2) rfl 5 _) ?_
  intro V6 hL
  have k0 : V6.cell? ⟨g0, 0, none⟩ = some (.int .u8 y1) := hL.cellK (i := 2) rfl 0
  have k1 : V6.cell? ⟨g0, 1, none⟩ = some (.int .u8 y2) := hL.cellK (i := 2) rfl 1
  have k2 : V6.cell? ⟨g0, 2, none⟩ = some (.int .u8 y3) := hL.cellK (i := 2) rfl 2
  have k3 : V6.cell? ⟨g0, 3, none⟩ = some (.int .u8 y4) := hL.cellK (i := 2) rfl 3
  have k4 : V6.cell? ⟨g0, 4, none⟩ = some (.int .u8 y5) := hL.cellK (i := 2) rfl 4
  have k5 : V6.cell? ⟨g0, 5, none⟩ = some (.int .u8 y6) := hL.cellK (i := 2) rfl 5
  exact bodyPost_ret (v := .agg #[.int .u8 y1, .int .u8 y2, .int .u8 y3, .int .u8 y4, .int .u8 y5, .int .u8 y6]) (by simp [results, Tryz.results25, go_sem, k0, k1, k2, k3, k4, k5]) rfl ⟨rfl, hL.drop1.drop1.drop1⟩
 | true =>
  simp only [le, hs, if_true, Bool.false_eq_true, if_false] at CI ⊢
  clear hs hsz
  go_enter Tryz.func25, Tryz.ntmps25
  go_wp2_with fail
  refine C.mono ?_
  rintro e V1 ⟨rfl, hL⟩
  obtain ⟨gw, hgw⟩ : ∃ gw, V1.heap.size = gw := ⟨_, rfl⟩
  have HP : Hid (Lg w (V1.alloc (.cells #[.string x1, .int .i64 x2] 79)) g τ W ((gw, (.cells #[.string x1, .int .i64 x2] 79)) :: (g0, (.cells #[.int .u8 0, .int .u8 0, .int .u8 0, .int .u8 0, .int .u8 0, .int .u8 0] 25)) :: K)) := hL.push _ hgw.symm
  have HG : Hid (V1.heap.size = gw) := hgw
  clear hL C hgw
  go_upto_region 2 with fail
  refine wp_letter (fun X => Lg w X g τ W ((gw, Obj.cells #[.string x1, .int .i64 x2] 79) :: (g0, Obj.cells #[.int .u8 0, .int .u8 0, .int .u8 0, .int .u8 0, .int .u8 0, .int .u8 0] 25) :: K)) (by exact HP.out) ?_
  intro V2 hR
  try simp only [HG.out]
  try simp only [HG0.out]
  have d0 : V2.cell? ⟨gw, 0, none⟩ = some (.string x1) := hR.cellK (i := 0) rfl 0
  have HR : Hid (Lg w V2 g τ W ((gw, (.cells #[.string x1, .int .i64 x2] 79)) :: (g0, (.cells #[.int .u8 0, .int .u8 0, .int .u8 0, .int .u8 0, .int .u8 0, .int .u8 0] 25)) :: K)) := hR
  have CJ := CI V2
  clear hR HP HG CI HG0
  go_wp2_with fail
  refine CJ.mono ?_
  rintro e V3 ⟨rfl, hB⟩
  obtain ⟨gm, hgm⟩ : ∃ gm, V3.heap.size = gm := ⟨_, rfl⟩
  have HP : Hid (Lg w (V3.alloc (.cells #[.int .u8 y1, .int .u8 y2, .int .u8 y3, .int .u8 y4, .int .u8 y5, .int .u8 y6] 25)) g τ W ((gm, (.cells #[.int .u8 y1, .int .u8 y2, .int .u8 y3, .int .u8 y4, .int .u8 y5, .int .u8 y6] 25)) :: (gw, (.cells #[.string x1, .int .i64 x2] 79)) :: (g0, (.cells #[.int .u8 0, .int .u8 0, .int .u8 0, .int .u8 0, .int .u8 0, .int .u8 0] 25)) :: K)) := (HR.out.after hB).push _ hgm.symm
  have HG : Hid (V3.heap.size = gm) := hgm
  clear CJ HR hgm hB d0
  go_upto_region 3 with fail
  refine wp_letter (fun X => Lg w X g τ W ((gm, Obj.cells #[.int .u8 y1, .int .u8 y2, .int .u8 y3, .int .u8 y4, .int .u8 y5, .int .u8 y6] 25) :: (gw, Obj.cells #[.string x1, .int .i64 x2] 79) :: (g0, Obj.cells #[.int .u8 0, .int .u8 0, .int .u8 0, .int .u8 0, .int .u8 0, .int .u8 0] 25) :: K)) (by exact HP.out) ?_
  intro V4 hL
  try simp only [HG.out]
  clear HP HG
  have e0 : V4.cell? ⟨gm, 0, none⟩ = some (.int .u8 y1) := hL.cellK (i := 0) rfl 0
  have e1 : V4.cell? ⟨gm, 1, none⟩ = some (.int .u8 y2) := hL.cellK (i := 0) rfl 1
  have e2 : V4.cell? ⟨gm, 2, none⟩ = some (.int .u8 y3) := hL.cellK (i := 0) rfl 2
  have e3 : V4.cell? ⟨gm, 3, none⟩ = some (.int .u8 y4) := hL.cellK (i := 0) rfl 3
  have e4 : V4.cell? ⟨gm, 4, none⟩ = some (.int .u8 y5) := hL.cellK (i := 0) rfl 4
  have e5 : V4.cell? ⟨gm, 5, none⟩ = some (.int .u8 y6) := hL.cellK (i := 0) rfl 5
  have f0 : V4.cell? ⟨g0, 0, none⟩ = some (.int .u8 0) := hL.cellK (i := 2) rfl 0
  have f1 : V4.cell? ⟨g0, 1, none⟩ = some (.int .u8 0) := hL.cellK (i := 2) rfl 1
  have f2 : V4.cell? ⟨g0, 2, none⟩ = some (.int .u8 0) := hL.cellK (i := 2) rfl 2
  have f3 : V4.cell? ⟨g0, 3, none⟩ = some (.int .u8 0) := hL.cellK (i := 2) rfl 3
  have f4 : V4.cell? ⟨g0, 4, none⟩ = some (.int .u8 0) := hL.cellK (i := 2) rfl 4
  have f5 : V4.cell? ⟨g0, 5, none⟩ = some (.int .u8 0) := hL.cellK (i := 2) rfl 5
  have fr := hL.freeK (i := 2) rfl
  have HL : Hid (Lg w V4 g τ W ((gm, (.cells #[.int .u8 y1, .int .u8 y2, .int .u8 y3, .int .u8 y4, .int .u8 y5, .int .u8 y6] 25)) :: (gw, (.cells #[.string x1, .int .i64 x2] 79)) :: (g0, (.cells #[.int .u8 0, .int .u8 0, .int .u8 0, .int .u8 0, .int .u8 0, .int .u8 0] 25)) :: K)) := hL
  clear hL
  go_wp2_with fail
  refine post_let (fun X => Lg w X g τ W ((gm, Obj.cells #[.int .u8 y1, .int .u8 y2, .int .u8 y3, .int .u8 y4, .int .u8 y5, .int .u8 y6] 25) :: (gw, Obj.cells #[.string x1, .int .i64 x2] 79) :: (g0, Obj.cells #[.int .u8 y1, .int .u8 y2, .int .u8 y3, .int .u8 y4, .int .u8 y5, .int .u8 y6] 25) :: K)) ((((((HL.out.set (i := 2) rfl 0 _).set (i := 2) rfl 1 _).set (i := 2) rfl 2 _).set (i := 2) rfl 3 _).set (i := 2) rfl 4 _).set (i := 2) rfl 5 _) ?_
  intro V6 hL
  have k0 : V6.cell? ⟨g0, 0, none⟩ = some (.int .u8 y1) := hL.cellK (i := 2) rfl 0
  have k1 : V6.cell? ⟨g0, 1, none⟩ = some (.int .u8 y2) := hL.cellK (i := 2) rfl 1
  have k2 : V6.cell? ⟨g0, 2, none⟩ = some (.int .u8 y3) := hL.cellK (i := 2) rfl 2
  have k3 : V6.cell? ⟨g0, 3, none⟩ = some (.int .u8 y4) := hL.cellK (i := 2) rfl 3
  have k4 : V6.cell? ⟨g0, 4, none⟩ = some (.int .u8 y5) := hL.cellK (i := 2) rfl 4
  have k5 : V6.cell? ⟨g0, 5, none⟩ = some (.int .u8 y6) := hL.cellK (i := 2) rfl 5
  exact bodyPost_ret (v := .agg #[.int .u8 y1, .int .u8 y2, .int .u8 y3, .int .u8 y4, .int .u8 y5, .int .u8 y6]) (by simp [results, Tryz.results25, go_sem, k0, k1, k2, k3, k4, k5]) rfl ⟨rfl, hL.drop1.drop1.drop1⟩
set_option maxHeartbeats 2000000 in
theorem rlkey_any {w V : World} {g : Nat} {σ : Sg} {W K : List (Nat × Obj)} (h : Lg w V g σ W K) :
  Calls Tryz.prog 26 #[.pointer (some ⟨g, 0, none⟩)] V fun e V' => e = .returned (.agg (ab (k8 (val key σ)))) ∧ Lg w V' g (vnx key σ) W K := by
 obtain ⟨g0, hg0⟩ : ∃ g0, V.heap.size = g0 := ⟨_, rfl⟩
 have C := rword_any (h.push (.cells #[.int .u8 0, .int .u8 0, .int .u8 0, .int .u8 0, .int .u8 0, .int .u8 0, .int .u8 0, .int .u8 0] 26) hg0.symm)
 have hsz : (La.wd σ).1.size ≤ 40000 := by have := h.small; omega
 have hval : val key σ = key (La.wd σ).1.data.toList := rfl
 have hnx : vnx key σ = if (key (La.wd σ).1.data.toList).isSome then nxt σ else (nxt σ).fail (La.wd σ).2 := rfl
 rw [hval, hnx]
 clear hval hnx h
 generalize (La.wd σ).1 = x1 at C hsz ⊢
 generalize (La.wd σ).2 = x2 at C ⊢
 generalize nxt σ = τ at C ⊢
 have CI := fun V => rkey_any x1 hsz V
 have hlen : (k8 (key x1.data.toList)).length = 8 := k8_len_of _
 have hev : kv (key x1.data.toList) = .agg (ab (k8 (key x1.data.toList))) := rfl
 rw [hev] at CI
 generalize k8 (key x1.data.toList) = l at CI hlen ⊢
 obtain ⟨y1, y2, y3, y4, y5, y6, y7, y8, rfl⟩ := eight hlen
 have hab : ab [y1, y2, y3, y4, y5, y6, y7, y8] = #[.int .u8 y1, .int .u8 y2, .int .u8 y3, .int .u8 y4, .int .u8 y5, .int .u8 y6, .int .u8 y7, .int .u8 y8] := rfl
 rw [hab] at CI ⊢
 have HG0 : Hid (V.heap.size = g0) := hg0
 clear hlen hev hab hg0
 cases hs : (key x1.data.toList).isSome with
 | false =>
  simp only [le, hs, if_true, Bool.false_eq_true, if_false] at CI ⊢
  clear hs hsz
  go_enter Tryz.func26, Tryz.ntmps26
  go_wp2_with fail
  refine C.mono ?_
  rintro e V1 ⟨rfl, hL⟩
  obtain ⟨gw, hgw⟩ : ∃ gw, V1.heap.size = gw := ⟨_, rfl⟩
  have HP : Hid (Lg w (V1.alloc (.cells #[.string x1, .int .i64 x2] 79)) g τ W ((gw, (.cells #[.string x1, .int .i64 x2] 79)) :: (g0, (.cells #[.int .u8 0, .int .u8 0, .int .u8 0, .int .u8 0, .int .u8 0, .int .u8 0, .int .u8 0, .int .u8 0] 26)) :: K)) := hL.push _ hgw.symm
  have HG : Hid (V1.heap.size = gw) := hgw
  clear hL C hgw
  go_upto_region 2 with fail
  refine wp_letter (fun X => Lg w X g τ W ((gw, Obj.cells #[.string x1, .int .i64 x2] 79) :: (g0, Obj.cells #[.int .u8 0, .int .u8 0, .int .u8 0, .int .u8 0, .int .u8 0, .int .u8 0, .int .u8 0, .int .u8 0] 26) :: K)) (by exact HP.out) ?_
  intro V2 hR
  try simp only [HG.out]
  try simp only [HG0.out]
  have d0 : V2.cell? ⟨gw, 0, none⟩ = some (.string x1) := hR.cellK (i := 0) rfl 0
  have HR : Hid (Lg w V2 g τ W ((gw, (.cells #[.string x1, .int .i64 x2] 79)) :: (g0, (.cells #[.int .u8 0, .int .u8 0, .int .u8 0, .int .u8 0, .int .u8 0, .int .u8 0, .int .u8 0, .int .u8 0] 26)) :: K)) := hR
  have CJ := CI V2
  clear hR HP HG CI HG0
  go_wp2_with fail
  refine CJ.mono ?_
  rintro e V3 ⟨rfl, hB⟩
  obtain ⟨gm, hgm⟩ : ∃ gm, V3.heap.size = gm := ⟨_, rfl⟩
  have HP : Hid (Lg w (V3.alloc (.cells #[.int .u8 y1, .int .u8 y2, .int .u8 y3, .int .u8 y4, .int .u8 y5, .int .u8 y6, .int .u8 y7, .int .u8 y8] 26)) g τ W ((gm, (.cells #[.int .u8 y1, .int .u8 y2, .int .u8 y3, .int .u8 y4, .int .u8 y5, .int .u8 y6, .int .u8 y7, .int .u8 y8] 26)) :: (gw, (.cells #[.string x1, .int .i64 x2] 79)) :: (g0, (.cells #[.int .u8 0, .int .u8 0, .int .u8 0, .int .u8 0, .int .u8 0, .int .u8 0, .int .u8 0, .int .u8 0] 26)) :: K)) := (HR.out.after hB).push _ hgm.symm
  have HG : Hid (V3.heap.size = gm) := hgm
  clear CJ HR hgm hB d0
  go_upto_region 3 with fail
  refine wp_letter (fun X => Lg w X g τ W ((gm, Obj.cells #[.int .u8 y1, .int .u8 y2, .int .u8 y3, .int .u8 y4, .int .u8 y5, .int .u8 y6, .int .u8 y7, .int .u8 y8] 26) :: (gw, Obj.cells #[.string x1, .int .i64 x2] 79) :: (g0, Obj.cells #[.int .u8 0, .int .u8 0, .int .u8 0, .int .u8 0, .int .u8 0, .int .u8 0, .int .u8 0, .int .u8 0] 26) :: K)) (by exact HP.out) ?_
  intro V4 hL
  try simp only [HG.out]
  clear HP HG
  have d1 : V4.cell? ⟨gw, 1, none⟩ = some (.int .i64 x2) := hL.cellK (i := 1) rfl 1
  have CF := rfail_any hL x2
  clear hL
  go_wp2_with fail
  refine CF.mono ?_
  rintro e V5 ⟨rfl, hL⟩
  clear CF d1
  have e0 : V5.cell? ⟨gm, 0, none⟩ = some (.int .u8 y1) := hL.cellK (i := 0) rfl 0
  have e1 : V5.cell? ⟨gm, 1, none⟩ = some (.int .u8 y2) := hL.cellK (i := 0) rfl 1
  have e2 : V5.cell? ⟨gm, 2, none⟩ = some (.int .u8 y3) := hL.cellK (i := 0) rfl 2
  have e3 : V5.cell? ⟨gm, 3, none⟩ = some (.int .u8 y4) := hL.cellK (i := 0) rfl 3
  have e4 : V5.cell? ⟨gm, 4, none⟩ = some (.int .u8 y5) := hL.cellK (i := 0) rfl 4
  have e5 : V5.cell? ⟨gm, 5, none⟩ = some (.int .u8 y6) := hL.cellK (i := 0) rfl 5
  have e6 : V5.cell? ⟨gm, 6, none⟩ = some (.int .u8 y7) := hL.cellK (i := 0) rfl 6
  have e7 : V5.cell? ⟨gm, 7, none⟩ = some (.int .u8 y8) := hL.cellK (i := 0) rfl 7
  have f0 : V5.cell? ⟨g0, 0, none⟩ = some (.int .u8 0) := hL.cellK (i := 2) rfl 0
  have f1 : V5.cell? ⟨g0, 1, none⟩ = some (.int .u8 0) := hL.cellK (i := 2) rfl 1
  have f2 : V5.cell? ⟨g0, 2, none⟩ = some (.int .u8 0) := hL.cellK (i := 2) rfl 2
  have f3 : V5.cell? ⟨g0, 3, none⟩ = some (.int .u8 0) := hL.cellK (i := 2) rfl 3
  have f4 : V5.cell? ⟨g0, 4, none⟩ = some (.int .u8 0) := hL.cellK (i := 2) rfl 4
  have f5 : V5.cell? ⟨g0, 5, none⟩ = some (.int .u8 0) := hL.cellK (i := 2) rfl 5
  have f6 : V5.cell? ⟨g0, 6, none⟩ = some (.int .u8 0) := hL.cellK (i := 2) rfl 6
  have f7 : V5.cell? ⟨g0, 7, none⟩ = some (.int .u8 0) := hL.cellK (i := 2) rfl 7
  have fr := hL.freeK (i := 2) rfl
  have HL : Hid (Lg w V5 g (τ.fail x2) W ((gm, (.cells #[.int .u8 y1, .int .u8 y2, .int .u8 y3, .int .u8 y4, .int .u8 y5, .int .u8 y6, .int .u8 y7, .int .u8 y8] 26)) :: (gw, (.cells #[.string x1, .int .i64 x2] 79)) :: (g0, (.cells #[.int .u8 0, .int .u8 0, .int .u8 0, .int .u8 0, .int .u8 0, .int .u8 0, .int .u8 0, .int .u8 0] 26)) :: K)) := hL
  clear hL
  go_wp2_with fail
  refine post_let (fun X => Lg w X g (τ.fail x2) W ((gm, Obj.cells #[.int .u8 y1, .int .u8 y2, .int .u8 y3, .int .u8 y4, .int .u8 y5, .int .u8 y6, .int .u8 y7, .int .u8 y8] 26) :: (gw, Obj.cells #[.string x1, .int .i64 x2] 79) :: (g0, Obj.cells #[.int .u8 y1, .int .u8 y2, .int .u8 y3, .int .u8 y4, .int .u8 y5, .int .u8 y6, .int .u8 y7, .int .u8 y8] 26) :: K)) ((((((((HL.out.set (i := 2) rfl 0 _).set (i := 2) rfl 1 _).set (i := 2) rfl 2 _).set (i := 2) rfl 3 _).set (i := 2) rfl 4 _).set (i := 2) rfl 5 _).set (i := 2) rfl 6 _).set (i := 2) rfl 7 _) ?_
  intro V6 hL
  have k0 : V6.cell? ⟨g0, 0, none⟩ = some (.int .u8 y1) := hL.cellK (i := 2) rfl 0
  have k1 : V6.cell? ⟨g0, 1, none⟩ = some (.int .u8 y2) := hL.cellK (i := 2) rfl 1
  have k2 : V6.cell? ⟨g0, 2, none⟩ = some (.int .u8 y3) := hL.cellK (i := 2) rfl 2
  have k3 : V6.cell? ⟨g0, 3, none⟩ = some (.int .u8 y4) := hL.cellK (i := 2) rfl 3
  have k4 : V6.cell? ⟨g0, 4, none⟩ = some (.int .u8 y5) := hL.cellK (i := 2) rfl 4
  have k5 : V6.cell? ⟨g0, 5, none⟩ = some (.int .u8 y6) := hL.cellK (i := 2) rfl 5
  have k6 : V6.cell? ⟨g0, 6, none⟩ = some (.int .u8 y7) := hL.cellK (i := 2) rfl 6
  have k7 : V6.cell? ⟨g0, 7, none⟩ = some (.int .u8 y8) := hL.cellK (i := 2) rfl 7
  exact bodyPost_ret (v := .agg #[.int .u8 y1, .int .u8 y2, .int .u8 y3, .int .u8 y4, .int .u8 y5, .int .u8 y6, .int .u8 y7, .int .u8 y8]) (by simp [results, Tryz.results26, go_sem, k0, k1, k2, k3, k4, k5, k6, k7]) rfl ⟨rfl, hL.drop1.drop1.drop1⟩
 | true =>
  simp only [le, hs, if_true, Bool.false_eq_true, if_false] at CI ⊢
  clear hs hsz
  go_enter Tryz.func26, Tryz.ntmps26
  go_wp2_with fail
  refine C.mono ?_
  rintro e V1 ⟨rfl, hL⟩
  obtain ⟨gw, hgw⟩ : ∃ gw, V1.heap.size = gw := ⟨_, rfl⟩
  have HP : Hid (Lg w (V1.alloc (.cells #[.string x1, .int .i64 x2] 79)) g τ W ((gw, (.cells #[.string x1, .int .i64 x2] 79)) :: (g0, (.cells #[.int .u8 0, .int .u8 0, .int .u8 0, .int .u8 0, .int .u8 0, .int .u8 0, .int .u8 0, .int .u8 0] 26)) :: K)) := hL.push _ hgw.symm
  have HG : Hid (V1.heap.size = gw) := hgw
  clear hL C hgw
  go_upto_region 2 with fail
  refine wp_letter (fun X => Lg w X g τ W ((gw, Obj.cells #[.string x1, .int .i64 x2] 79) :: (g0, Obj.cells #[.int .u8 0, .int .u8 0, .int .u8 0, .int .u8 0, .int .u8 0, .int .u8 0, .int .u8 0, .int .u8 0] 26) :: K)) (by exact HP.out) ?_
  intro V2 hR
  try simp only [HG.out]
  try simp only [HG0.out]
  have d0 : V2.cell? ⟨gw, 0, none⟩ = some (.string x1) := hR.cellK (i := 0) rfl 0
  have HR : Hid (Lg w V2 g τ W ((gw, (.cells #[.string x1, .int .i64 x2] 79)) :: (g0, (.cells #[.int .u8 0, .int .u8 0, .int .u8 0, .int .u8 0, .int .u8 0, .int .u8 0, .int .u8 0, .int .u8 0] 26)) :: K)) := hR
  have CJ := CI V2
  clear hR HP HG CI HG0
  go_wp2_with fail
  refine CJ.mono ?_
  rintro e V3 ⟨rfl, hB⟩
  obtain ⟨gm, hgm⟩ : ∃ gm, V3.heap.size = gm := ⟨_, rfl⟩
  have HP : Hid (Lg w (V3.alloc (.cells #[.int .u8 y1, .int .u8 y2, .int .u8 y3, .int .u8 y4, .int .u8 y5, .int .u8 y6, .int .u8 y7, .int .u8 y8] 26)) g τ W ((gm, (.cells #[.int .u8 y1, .int .u8 y2, .int .u8 y3, .int .u8 y4, .int .u8 y5, .int .u8 y6, .int .u8 y7, .int .u8 y8] 26)) :: (gw, (.cells #[.string x1, .int .i64 x2] 79)) :: (g0, (.cells #[.int .u8 0, .int .u8 0, .int .u8 0, .int .u8 0, .int .u8 0, .int .u8 0, .int .u8 0, .int .u8 0] 26)) :: K)) := (HR.out.after hB).push _ hgm.symm
  have HG : Hid (V3.heap.size = gm) := hgm
  clear CJ HR hgm hB d0
  go_upto_region 3 with fail
  refine wp_letter (fun X => Lg w X g τ W ((gm, Obj.cells #[.int .u8 y1, .int .u8 y2, .int .u8 y3, .int .u8 y4, .int .u8 y5, .int .u8 y6, .int .u8 y7, .int .u8 y8] 26) :: (gw, Obj.cells #[.string x1, .int .i64 x2] 79) :: (g0, Obj.cells #[.int .u8 0, .int .u8 0, .int .u8 0, .int .u8 0, .int .u8 0, .int .u8 0, .int .u8 0, .int .u8 0] 26) :: K)) (by exact HP.out) ?_
  intro V4 hL
  try simp only [HG.out]
  clear HP HG
  have e0 : V4.cell? ⟨gm, 0, none⟩ = some (.int .u8 y1) := hL.cellK (i := 0) rfl 0
  have e1 : V4.cell? ⟨gm, 1, none⟩ = some (.int .u8 y2) := hL.cellK (i := 0) rfl 1
  have e2 : V4.cell? ⟨gm, 2, none⟩ = some (.int .u8 y3) := hL.cellK (i := 0) rfl 2
  have e3 : V4.cell? ⟨gm, 3, none⟩ = some (.int .u8 y4) := hL.cellK (i := 0) rfl 3
  have e4 : V4.cell? ⟨gm, 4, none⟩ = some (.int .u8 y5) := hL.cellK (i := 0) rfl 4
  have e5 : V4.cell? ⟨gm, 5, none⟩ = some (.int .u8 y6) := hL.cellK (i := 0) rfl 5
  have e6 : V4.cell? ⟨gm, 6, none⟩ = some (.int .u8 y7) := hL.cellK (i := 0) rfl 6
  have e7 : V4.cell? ⟨gm, 7, none⟩ = some (.int .u8 y8) := hL.cellK (i := 0) rfl 7
  have f0 : V4.cell? ⟨g0, 0, none⟩ = some (.int .u8 0) := hL.cellK (i := 2) rfl 0
  have f1 : V4.cell? ⟨g0, 1, none⟩ = some (.int .u8 0) := hL.cellK (i := 2) rfl 1
  have f2 : V4.cell? ⟨g0, 2, none⟩ = some (.int .u8 0) := hL.cellK (i := 2) rfl 2
  have f3 : V4.cell? ⟨g0, 3, none⟩ = some (.int .u8 0) := hL.cellK (i := 2) rfl 3
  have f4 : V4.cell? ⟨g0, 4, none⟩ = some (.int .u8 0) := hL.cellK (i := 2) rfl 4
  have f5 : V4.cell? ⟨g0, 5, none⟩ = some (.int .u8 0) := hL.cellK (i := 2) rfl 5
  have f6 : V4.cell? ⟨g0, 6, none⟩ = some (.int .u8 0) := hL.cellK (i := 2) rfl 6
  have f7 : V4.cell? ⟨g0, 7, none⟩ = some (.int .u8 0) := hL.cellK (i := 2) rfl 7
  have fr := hL.freeK (i := 2) rfl
  have HL : Hid (Lg w V4 g τ W ((gm, (.cells #[.int .u8 y1, .int .u8 y2, .int .u8 y3, .int .u8 y4, .int .u8 y5, .int .u8 y6, .int .u8 y7, .int .u8 y8] 26)) :: (gw, (.cells #[.string x1, .int .i64 x2] 79)) :: (g0, (.cells #[.int .u8 0, .int .u8 0, .int .u8 0, .int .u8 0, .int .u8 0, .int .u8 0, .int .u8 0, .int .u8 0] 26)) :: K)) := hL
  clear hL
  go_wp2_with fail
  refine post_let (fun X => Lg w X g τ W ((gm, Obj.cells #[.int .u8 y1, .int .u8 y2, .int .u8 y3, .int .u8 y4, .int .u8 y5, .int .u8 y6, .int .u8 y7, .int .u8 y8] 26) :: (gw, Obj.cells #[.string x1, .int .i64 x2] 79) :: (g0, Obj.cells #[.int .u8 y1, .int .u8 y2, .int .u8 y3, .int .u8 y4, .int .u8 y5, .int .u8 y6, .int .u8 y7, .int .u8 y8] 26) :: K)) ((((((((HL.out.set (i := 2) rfl 0 _).set (i := 2) rfl 1 _).set (i := 2) rfl 2 _).set (i := 2) rfl 3 _).set (i := 2) rfl 4 _).set (i := 2) rfl 5 _).set (i := 2) rfl 6 _).set (i := 2) rfl 7 _) ?_
  intro V6 hL
  have k0 : V6.cell? ⟨g0, 0, none⟩ = some (.int .u8 y1) := hL.cellK (i := 2) rfl 0
  have k1 : V6.cell? ⟨g0, 1, none⟩ = some (.int .u8 y2) := hL.cellK (i := 2) rfl 1
  have k2 : V6.cell? ⟨g0, 2, none⟩ = some (.int .u8 y3) := hL.cellK (i := 2) rfl 2
  have k3 : V6.cell? ⟨g0, 3, none⟩ = some (.int .u8 y4) := hL.cellK (i := 2) rfl 3
  have k4 : V6.cell? ⟨g0, 4, none⟩ = some (.int .u8 y5) := hL.cellK (i := 2) rfl 4
  have k5 : V6.cell? ⟨g0, 5, none⟩ = some (.int .u8 y6) := hL.cellK (i := 2) rfl 5
  have k6 : V6.cell? ⟨g0, 6, none⟩ = some (.int .u8 y7) := hL.cellK (i := 2) rfl 6
  have k7 : V6.cell? ⟨g0, 7, none⟩ = some (.int .u8 y8) := hL.cellK (i := 2) rfl 7
  exact bodyPost_ret (v := .agg #[.int .u8 y1, .int .u8 y2, .int .u8 y3, .int .u8 y4, .int .u8 y5, .int .u8 y6, .int .u8 y7, .int .u8 y8]) (by simp [results, Tryz.results26, go_sem, k0, k1, k2, k3, k4, k5, k6, k7]) rfl ⟨rfl, hL.drop1.drop1.drop1⟩
end Go.Proofs.YtneciccdiledfaaGreatDoor
namespace Go.Proofs.YtneciccdiledfaaGreatDoor
open Go.RowKit
open List (getElem_toArray getElem_cons_zero getElem_cons_succ setIfInBounds_toArray set_cons_zero set_cons_succ)
open La
open Ad
theorem step_bsl {ops : Array Oper} {o : Oper} {a : Act} {W : World} {K : Act → World → Prop} {Q : Exit → Act → World → Prop} {E : Prop} (hgd : o.guard = none) (ty : TypeId) (n : Nat) (parts : Array (Nat × Operand)) (ho : o.op = .buildSlice ty n parts) {vs : Array (Nat × Value)} {v : Value} {w' : World}
  (hr : (Instr.buildSlice ty n vs).run Tryz.prog W = .ok v w') (hv : (parts.map fun (i, x) => (i, a.eval x)) = vs) (h : K (a.put o.dst v) w') : if Region.wanted o (yielded ops a.tmps) = true then Oper.wp Tryz.prog o a W K Q else E := by
 have hw : Region.wanted o (yielded ops a.tmps) = true := by simp [Region.wanted, hgd]
 rw [if_pos hw]
 subst hv
 unfold Oper.wp execOp
 simp only [ho, Sem.run_bind, hr, Result.andThen_ok, Sem.run_pure]
 exact h
theorem tnT_len (σ : Sg) : TLen (tnT σ) := by
 have h1 := k8_len (La.t4 σ)
 have h2 := m6_len (La.t7 σ)
 have h3 := m6_len (La.t9 σ)
 unfold tnT
 generalize k8 (val key (La.t4 σ)) = a at *
 generalize m6 (val mac (La.t7 σ)) = b at *
 generalize m6 (val mac (La.t9 σ)) = c at *
 exact ⟨h1, h2, h3⟩
theorem tnT_nil (σ : Sg) : (tnT σ).pool = [] ∧ (tnT σ).stat = [] ∧ (tnT σ).twi = [] := by
 unfold tnT
 generalize k8 (val key (La.t4 σ)) = a
 generalize m6 (val mac (La.t7 σ)) = b
 generalize m6 (val mac (La.t9 σ)) = c
 exact ⟨rfl, rfl, rfl⟩
theorem part_any {w V : World} {g : Nat} {lp : List Value} {lt : TypeId} {σ : Sg} {W K L : List (Nat × Obj)} {gt : Nat} {pre post : List Value} {T : TypeId} {t : Ten} (hV : Vs w) (hF : FW w) (h : LnS w V g lp lt σ W (L ++ K)) (hT : TAt gt pre post T t L) (hlen : t.pool.length + σ.ws.length ≤ 900000 ∧ t.stat.length ≤ 900000 ∧ t.twi.length ≤ 900000) (b : Wd) :
  Calls Tryz.prog 83 #[.pointer (some ⟨g, 0, none⟩), .agg #[.string b.1, .int .i64 b.2], .pointer (some ⟨gt, pre.length, none⟩)] V (PP w g lp lt W K gt pre post T (La.part b t σ)) := by
 by_cases h0 : b.1.data.toList = wPool
 ·exact part_pool hV hF h hT hlen.1 b h0
 by_cases h1 : b.1.data.toList = wPorts
 ·exact part_ports hV hF h hT b h1
 by_cases h2 : b.1.data.toList = wFilter
 ·exact part_filter hV hF h hT b h2
 by_cases h3 : b.1.data.toList = wStatic
 ·exact part_static hV hF h hT hlen.2.1 b h3
 by_cases h4 : b.1.data.toList = wTwice
 ·exact part_twice hV hF h hT hlen.2.2 b h4
 by_cases h5 : b.1.data.toList = wQuota
 ·exact part_quota hV hF h hT b h5
 by_cases h6 : b.1.data.toList = wRate
 ·exact part_rate hV hF h hT b h6
 exact part_none h b h0 h1 h2 h3 h4 h5 h6
set_option maxHeartbeats 16000000 in
theorem into_tenant {w V : World} {g : Nat} {lp : List Value} {lt : TypeId} {σ : Sg} {W K L : List (Nat × Obj)} {gc : Nat} {c : Cgf} (hV : Vs w) (hF : FW w) (h : LnS w V g lp lt σ W (L ++ K)) (hC : CfI gc c L) (hn : c.ten.length ≤ 900000) {x : Wd} {r : List Wd} (hws : σ.ws = x :: r) (hx : x.1.data.toList = wTenant) :
  Calls Tryz.prog 46 #[.pointer (some ⟨g, 0, none⟩), .pointer (some ⟨gc, 0, none⟩)] V (VP w (done (ln c σ).2) fun e V' => e = .returned (.tuple #[]) ∧ ∃ L', CfI gc (ln c σ).1 L' ∧ LnS w V' g lp lt (done (ln c σ).2) W (L' ++ K)) := by
 have hwd : La.wd σ = x := by unfold La.wd; rw [hws]
 have hnx : nxt σ = ⟨r, σ.fin, none⟩ := by unfold nxt; rw [hws, h.1]
 have hwt : wt σ = wTenant := by unfold wt; rw [hwd]; exact hx
 obtain ⟨fin, hfin⟩ : ∃ f, σ.fin = f := ⟨_, rfl⟩
 have C := take_yes h hws
 rw [hfin] at C hnx
 obtain ⟨x1, x2⟩ := x
 have hln : ln c σ = ({ c with ten := c.ten ++ [tnT ⟨r, fin, none⟩] }, tnS ⟨r, fin, none⟩) := by rw [ln_tenant hwt, hnx]
 rw [hln]
 obtain ⟨τ, hτ⟩ : ∃ τ : Sg, (⟨r, fin, none⟩ : Sg) = τ := ⟨_, rfl⟩
 have hτb : τ.bad = none := by rw [← hτ]
 rw [hτ] at C ⊢
 simp only at hx
 have hx1 : x1 = ⟨#[116, 101, 110, 97, 110, 116]⟩ := by rw [show x1 = ⟨x1.data.toList.toArray⟩ from rfl, hx]; rfl
 subst hx1
 have hlt0 : TLen (tnT τ) := tnT_len τ
 have hpt0 : (tnT τ).pool = [] ∧ (tnT τ).stat = [] ∧ (tnT τ).twi = [] := tnT_nil τ
 obtain ⟨t, ht⟩ : ∃ t, tnT τ = t := ⟨_, rfl⟩
 rw [ht] at hlt0 hpt0
 simp only [ht]
 have HTT : Hid (tnT τ = t) := ht
 have HTL : Hid (TLen t ∧ t.pool = [] ∧ t.stat = [] ∧ t.twi = []) := ⟨hlt0, hpt0⟩
 clear ht hlt0 hpt0
 have HC : Hid (CfI gc c L) := hC
 clear h hws hx hwd hnx hwt hln hfin hC hτ
 go_enter Tryz.func46, Tryz.ntmps46
 go_wp2_with fail
 refine C.mono ?_
 rintro e V1 ⟨rfl, hL⟩
 have HL : Hid (LnS w (V1.alloc (.cells #[.string ⟨#[116, 101, 110, 97, 110, 116]⟩, .int .i64 x2] 149)) g lp lt τ W (L ++ K)) := hL.after ((Below.refl _ _).alloc (Nat.le_refl _) _)
 clear C hL
 go_upto_region 3 with fail
 refine wp_letter (fun X => LnS w X g lp lt τ W (L ++ K)) (by exact HL.out) ?_
 intro V0 hR
 obtain ⟨u, zs, B, C0, ez, hB, hz, hperm⟩ := cfi_tsb HC.out
 have hcl := HC.out.1
 have hzl : zs.length = c.ten.length := by rw [← ez, List.length_map]
 have hR2 : LnS w V0 g lp lt τ W ((gc, .cells (cc c u).toArray 29) :: (B ++ (C0 ++ K))) := (hR.perm (hperm.append_right K)).perm (by classical rw [List.perm_iff_count]; intro z; simp only [List.count_append, List.count_cons]; omega)
 have HG : Hid (∀ X σ', LnS w X g lp lt σ' W ((gc, .cells (cc c u).toArray 29) :: (B ++ (C0 ++ K))) → X.cell? ⟨gc, 28, none⟩ = some u) := fun X σ' hX => (hX.cellK (i := 0) rfl 28).trans (cc_at28 hcl u)
 obtain ⟨pa, pm, pc, rfl⟩ := owb_slice hB
 have hR2d := hR2.after ((Below.refl _ _).drew)
 have C := ltenant_any hV hR2d
 have p0 := HG.out _ _ hR2d
 rw [HTT.out] at C
 have hlt := HTL.out.1
 have hpt := HTL.out.2
 obtain ⟨A, hA⟩ : ∃ A, (tc t nilV nilV nilV).toArray = A := ⟨_, rfl⟩
 rw [hA] at C
 have hbs := bsliceT (t, nilV, nilV, nilV) hlt
 rw [show (zc (t, nilV, nilV, nilV)).toArray = A from hA] at hbs
 have hAl : A.toList = tc t nilV nilV nilV := by rw [← hA]
 have hon : ∀ v ∈ tc t nilV nilV nilV, v.oneCell' = true := by
  have := tc_one3 t (p := nilV) (s := nilV) (q := nilV) rfl rfl rfl
  rw [Array.all_eq_true_iff_forall_mem] at this
  intro v hv
  exact this v (by simpa using hv)
 have STEP : Hid (∀ V2, LnS w V2 g lp lt (tnS τ) W ((gc, .cells (cc c (.slice pa pm pc)).toArray 29) :: (B ++ (C0 ++ K))) → ∃ v4 V4, (Builtin.append_ #[27, 27] 27 #[.slice pa pm pc, .slice (some ⟨V2.heap.size, 0, none⟩) 1 1]).run Tryz.prog (V2.alloc (.cells A 45)) = .ok v4 V4 ∧ (∃ a m c, v4 = .slice a m c) ∧ (∃ v0, V4.cell? ⟨gc, 28, none⟩ = some v0) ∧ (∀ j, V4.frozen? ⟨gc, j, none⟩ = false) ∧
   ∀ a m c', v4 = .slice a m c' → ∃ L', CfI gc { c with ten := c.ten ++ [t] } L' ∧ LnS w (V4.setCell ⟨gc, 28, none⟩ v4) g lp lt (tnS τ) W (L' ++ K)) := by
  intro V2 h2
  have h3 := h2.after ((Below.refl V2.heap.size V2).alloc (Nat.le_refl _) (.cells A 45))
  obtain ⟨q1, q2, u', q3, q4⟩ := h3
  obtain ⟨v4, V4, B4, hrun, hM4, hB4⟩ := mem_append (t := 27) (ty := 27) Tryz.underlying27 infoT (by kernel_rfl) (by omega) (K := (g, .cells (u' :: .int .i64 (tnS τ).fin :: lp).toArray lt (0, 0)) :: (gc, .cells (cc c (.slice pa pm pc)).toArray 29) :: (C0 ++ (K ++ W))) (q4.perm (by classical rw [List.perm_iff_count]; intro z; simp only [List.count_append, List.count_cons]; omega)) hB ⟨V2.heap.size, 0, none⟩ (tc t nilV nilV nilV) (tc_len hlt _ _ _) (fun j u hj => by
    rw [addr_mid, Nat.zero_add, World.cell?_alloc_new, ← hA]
    simpa using hj) hon (by omega) (by omega)
  have h4 : LnS w V4 g lp lt (tnS τ) W ((gc, .cells (cc c (.slice pa pm pc)).toArray 29) :: (B4 ++ (C0 ++ K))) := ⟨q1, q2, u', q3, hM4.perm (by classical rw [List.perm_iff_count]; intro z; simp only [List.count_append, List.count_cons]; omega)⟩
  refine ⟨v4, V4, hrun, owb_slice hB4, ⟨_, (h4.cellK (i := 0) rfl 28).trans (cc_at28 hcl _)⟩, h4.freeK (i := 0) rfl, fun a m c' e => ?_⟩
  subst e
  have h5 := h4.set (i := 0) rfl 28 (.slice a m c')
  rw [List.set_cons_zero, cc_ten c _ (.slice a m c') hcl] at h5
  refine ⟨_, tsb_cfi (gc := gc) hcl hlt hpt ez hz hB4, h5.perm ?_⟩
  classical
  rw [List.perm_iff_count]
  intro z
  simp only [List.count_append, List.count_cons]
  omega
 clear hR hR2 hR2d hperm hB HL HC ez hz hzl hcl hlt hpt hA hAl hon
 cases hbz : (tnS τ).bad with
 | some a =>
  have hdb : (done (tnS τ)).bad = some a := done_bad hbz
  have C2 : Calls Tryz.prog 82 #[.pointer (some ⟨g, 0, none⟩)] V0.drew (Pan w a) := C.mono (by
   rintro e V1 (⟨h1, -⟩ | ⟨a', h1, hP⟩)
   ·rw [hbz] at h1; cases h1
   ·rw [hbz] at h1; cases h1; exact hP)
  clear C STEP hbz
  refine wp_region_held_drew (S := fun _ => True) (by kernel_rfl) trivial (fun hHeld => ?_)
  refine wpAnyH_take (i := 0) (v := ?_) rfl (by kernel_rfl) (by kernel_rfl) (by kernel_rfl) (fun _ _ _ h => h) (Or.inl ⟨by rfl, ?pay0⟩) (by assumption) ?par0
  case pay0 => intro w hSw; (try dsimp only at hSw); go_simp; all_goals with_reducible rfl
  try simp only [getElem_toArray, getElem_cons_zero, getElem_cons_succ, Act.put, setIfInBounds_toArray, set_cons_zero, set_cons_succ]
  refine wpAnyH_take (i := 1) (v := ?_) rfl (by kernel_rfl) (by kernel_rfl) (by kernel_rfl) (fun _ _ _ h => h) (Or.inl ⟨by rfl, ?pay1⟩) (by assumption) ?par1
  case pay1 => intro w hSw; (try dsimp only at hSw); go_simp; all_goals with_reducible rfl
  try simp only [getElem_toArray, getElem_cons_zero, getElem_cons_succ, Act.put, setIfInBounds_toArray, set_cons_zero, set_cons_succ]
  refine wpAnyH_take (i := 2) (v := ?_) rfl (by kernel_rfl) (by kernel_rfl) (by kernel_rfl) (fun _ _ _ h => h) (Or.inl ⟨by rfl, ?pay2⟩) (by assumption) ?par2
  case pay2 => intro w hSw; (try dsimp only at hSw); go_simp; all_goals with_reducible rfl
  try simp only [getElem_toArray, getElem_cons_zero, getElem_cons_succ, Act.put, setIfInBounds_toArray, set_cons_zero, set_cons_succ]
  refine wpAnyH_take (i := 3) (v := ?_) rfl (by kernel_rfl) (by kernel_rfl) (by kernel_rfl) (fun _ _ _ h => h) (Or.inl ⟨by rfl, ?pay3⟩) (by assumption) ?par3
  case pay3 => intro w hSw; (try dsimp only at hSw); go_simp; all_goals with_reducible rfl
  try simp only [getElem_toArray, getElem_cons_zero, getElem_cons_succ, Act.put, setIfInBounds_toArray, set_cons_zero, set_cons_succ]
  refine wpAnyH_take (i := 5) (v := ?_) rfl (by kernel_rfl) (by kernel_rfl) (by kernel_rfl) (fun _ _ _ h => h) (Or.inl ⟨by rfl, ?pay5⟩) (by assumption) ?par5
  case pay5 => intro w hSw; (try dsimp only at hSw); go_simp; all_goals with_reducible rfl
  try simp only [getElem_toArray, getElem_cons_zero, getElem_cons_succ, Act.put, setIfInBounds_toArray, set_cons_zero, set_cons_succ]
  refine wpAnyH_ready (rs := [4, 6]) (by kernel_rfl) (by simp) ?_
  refine AllReadyH.cons rfl (fun KK hK => ?_) (AllReadyH.cons rfl (fun KK hK => ?_) AllReadyH.nil)
  ·go_simp
   refine hK.out _ _ trivial (fun hHeld => ?_)
   clear hK KK
   try simp only [getElem_toArray, getElem_cons_zero, getElem_cons_succ, Act.put, setIfInBounds_toArray, set_cons_zero, set_cons_succ]
   refine wpAnyH_ready (rs := [6]) (by kernel_rfl) (by simp) ?_
   refine AllReadyH.cons rfl (fun KK hK => ?_) AllReadyH.nil
   go_simp
   with_reducible refine C2.mono ?_
   rintro e V1 ⟨g', rfl, hM⟩
   exact ⟨rfl, Or.inr ⟨_, hdb, g', rfl, hM⟩⟩
  ·go_simp
   with_reducible refine C2.mono ?_
   rintro e V1 ⟨g', rfl, hM⟩
   exact ⟨rfl, Or.inr ⟨_, hdb, g', rfl, hM⟩⟩
 | none =>
  have C2 : Calls Tryz.prog 82 #[.pointer (some ⟨g, 0, none⟩)] V0.drew fun e V' => e = .returned (.agg A) ∧ LnS w V' g lp lt (tnS τ) W ((gc, .cells (cc c (.slice pa pm pc)).toArray 29) :: (B ++ (C0 ++ K))) := C.mono (by
   rintro e V1 (⟨h1, hP⟩ | ⟨a', h1, hP⟩)
   ·exact hP
   ·rw [hbz] at h1; cases h1)
  clear C hbz
  refine wp_region_held_drew (S := fun _ => True) (by kernel_rfl) trivial (fun hHeld => ?_)
  refine wpAnyH_take (i := 0) (v := ?_) rfl (by kernel_rfl) (by kernel_rfl) (by kernel_rfl) (fun _ _ _ h => h) (Or.inl ⟨by rfl, ?qay0⟩) (by assumption) ?qar0
  case qay0 => intro w hSw; (try dsimp only at hSw); go_simp; all_goals with_reducible rfl
  try simp only [getElem_toArray, getElem_cons_zero, getElem_cons_succ, Act.put, setIfInBounds_toArray, set_cons_zero, set_cons_succ]
  refine wpAnyH_take (i := 1) (v := ?_) rfl (by kernel_rfl) (by kernel_rfl) (by kernel_rfl) (fun _ _ _ h => h) (Or.inl ⟨by rfl, ?qay1⟩) (by assumption) ?qar1
  case qay1 => intro w hSw; (try dsimp only at hSw); go_simp; all_goals with_reducible rfl
  try simp only [getElem_toArray, getElem_cons_zero, getElem_cons_succ, Act.put, setIfInBounds_toArray, set_cons_zero, set_cons_succ]
  refine wpAnyH_take (i := 2) (v := ?_) rfl (by kernel_rfl) (by kernel_rfl) (by kernel_rfl) (fun _ _ _ h => h) (Or.inl ⟨by rfl, ?qay2⟩) (by assumption) ?qar2
  case qay2 => intro w hSw; (try dsimp only at hSw); go_simp; all_goals with_reducible rfl
  try simp only [getElem_toArray, getElem_cons_zero, getElem_cons_succ, Act.put, setIfInBounds_toArray, set_cons_zero, set_cons_succ]
  refine wpAnyH_take (i := 3) (v := ?_) rfl (by kernel_rfl) (by kernel_rfl) (by kernel_rfl) (fun _ _ _ h => h) (Or.inl ⟨by rfl, ?qay3⟩) (by assumption) ?qar3
  case qay3 => intro w hSw; (try dsimp only at hSw); go_simp; all_goals with_reducible rfl
  try simp only [getElem_toArray, getElem_cons_zero, getElem_cons_succ, Act.put, setIfInBounds_toArray, set_cons_zero, set_cons_succ]
  refine wpAnyH_take (i := 5) (v := ?_) rfl (by kernel_rfl) (by kernel_rfl) (by kernel_rfl) (fun _ _ _ h => h) (Or.inl ⟨by rfl, ?qay5⟩) (by assumption) ?qar5
  case qay5 => intro w hSw; (try dsimp only at hSw); go_simp; all_goals with_reducible rfl
  try simp only [getElem_toArray, getElem_cons_zero, getElem_cons_succ, Act.put, setIfInBounds_toArray, set_cons_zero, set_cons_succ]
  refine wpAnyH_ready (rs := [4, 6]) (by kernel_rfl) (by simp) ?_
  refine AllReadyH.cons rfl (fun KK hK => ?_) (AllReadyH.cons rfl (fun KK hK => ?_) AllReadyH.nil)
  ·go_simp
   refine hK.out _ _ trivial (fun hHeld => ?_)
   clear hK KK
   try simp only [getElem_toArray, getElem_cons_zero, getElem_cons_succ, Act.put, setIfInBounds_toArray, set_cons_zero, set_cons_succ]
   refine wpAnyH_ready (rs := [6]) (by kernel_rfl) (by simp) ?_
   refine AllReadyH.cons rfl (fun KK hK => ?_) AllReadyH.nil
   go_simp
   with_reducible refine C2.mono ?_
   rintro e V1 ⟨rfl, hP⟩
   try go_wp2_with fail
   have p1 := HG.out _ _ hP
   have p2 := HG.out _ _ (hP.after ((Below.refl V1.heap.size V1).alloc (Nat.le_refl _) (.cells A 45)))
   have hbs1 := hbs V1
   obtain ⟨v4, V4, hrun, ⟨qa, qm, qc, rfl⟩, ⟨v0, cv0⟩, fr4, hH⟩ := STEP.out _ hP
   obtain ⟨L', hT', hN'⟩ := hH qa qm qc rfl
   have HH : Hid (CfI gc { c with ten := c.ten ++ [t] } L' ∧ LnS w (V4.setCell ⟨gc, 28, none⟩ (.slice qa qm qc)) g lp lt (tnS τ) W (L' ++ K)) := ⟨hT', hN'⟩
   clear hP hH hT' hN'
   refine hK.out _ _ trivial (fun hHeld => ?_)
   clear hK KK
   try simp only [getElem_toArray, getElem_cons_zero, getElem_cons_succ, Act.put, setIfInBounds_toArray, set_cons_zero, set_cons_succ]
   refine wpAnyH_ready (rs := [7]) (by kernel_rfl) (by simp) ?_
   refine AllReadyH.cons rfl (fun KK hK => ?_) AllReadyH.nil
   refine step_bsl rfl 27 1 _ rfl hbs1 (by simp [Act.eval]) ?_
   refine hK.out _ _ trivial (fun hHeld => ?_)
   clear hK KK
   try simp only [getElem_toArray, getElem_cons_zero, getElem_cons_succ, Act.put, setIfInBounds_toArray, set_cons_zero, set_cons_succ]
   refine wpAnyH_ready (rs := [8]) (by kernel_rfl) (by simp) ?_
   refine AllReadyH.cons rfl (fun KK hK => ?_) AllReadyH.nil
   refine step_append_run rfl (.tmp 18) (.tmp 21) 27 27 rfl (by simp [Act.eval]) (by simp [Act.eval]) hrun ?_
   refine hK.out _ _ trivial (fun hHeld => ?_)
   clear hK KK
   try simp only [getElem_toArray, getElem_cons_zero, getElem_cons_succ, Act.put, setIfInBounds_toArray, set_cons_zero, set_cons_succ]
   refine wpAnyH_take (i := 9) (v := ?_) rfl (by kernel_rfl) (by kernel_rfl) (by kernel_rfl) (fun _ _ _ h => h) (Or.inl ⟨by rfl, ?qbzy9⟩) (by assumption) ?qbzr9
   case qbzy9 => intro w hSw; (try dsimp only at hSw); go_simp; all_goals with_reducible rfl
   try simp only [getElem_toArray, getElem_cons_zero, getElem_cons_succ, Act.put, setIfInBounds_toArray, set_cons_zero, set_cons_succ]
   refine wpAnyH_take (i := 10) (v := ?_) rfl (by kernel_rfl) (by kernel_rfl) (by kernel_rfl) (fun _ _ _ h => h) (Or.inl ⟨by rfl, ?qbzy10⟩) (by assumption) ?qbzr10
   case qbzy10 => intro w hSw; (try dsimp only at hSw); go_simp; all_goals with_reducible rfl
   try simp only [getElem_toArray, getElem_cons_zero, getElem_cons_succ, Act.put, setIfInBounds_toArray, set_cons_zero, set_cons_succ]
   refine wpAnyH_ready (rs := [11]) (by kernel_rfl) (by simp) ?_
   refine AllReadyH.cons rfl (fun KK hK => ?_) AllReadyH.nil
   go_simp
   refine hK.out _ _ trivial (fun hHeld => ?_)
   clear hK KK
   try simp only [getElem_toArray, getElem_cons_zero, getElem_cons_succ, Act.put, setIfInBounds_toArray, set_cons_zero, set_cons_succ]
   refine wpAnyH_done (by kernel_rfl) ?_ _
   have CE := mustEnd_any HH.out.2
   go_wp2_with fail
   refine CE.mono ?_
   rintro e V5 (⟨hb5, rfl, hR5⟩ | ⟨a, hb, g', rfl, hM⟩)
   rotate_left
   ·exact ⟨rfl, Or.inr ⟨a, hb, g', rfl, hM⟩⟩
   go_wp2_with fail
   go_end0
   exact Or.inl ⟨hb5, rfl, L', HH.out.1, hR5⟩
  ·go_simp
   with_reducible refine C2.mono ?_
   rintro e V1 ⟨rfl, hP⟩
   try go_wp2_with fail
   have p1 := HG.out _ _ hP
   have p2 := HG.out _ _ (hP.after ((Below.refl V1.heap.size V1).alloc (Nat.le_refl _) (.cells A 45)))
   have hbs1 := hbs V1
   obtain ⟨v4, V4, hrun, ⟨qa, qm, qc, rfl⟩, ⟨v0, cv0⟩, fr4, hH⟩ := STEP.out _ hP
   obtain ⟨L', hT', hN'⟩ := hH qa qm qc rfl
   have HH : Hid (CfI gc { c with ten := c.ten ++ [t] } L' ∧ LnS w (V4.setCell ⟨gc, 28, none⟩ (.slice qa qm qc)) g lp lt (tnS τ) W (L' ++ K)) := ⟨hT', hN'⟩
   clear hP hH hT' hN'
   refine hK.out _ _ trivial (fun hHeld => ?_)
   clear hK KK
   try simp only [getElem_toArray, getElem_cons_zero, getElem_cons_succ, Act.put, setIfInBounds_toArray, set_cons_zero, set_cons_succ]
   refine wpAnyH_ready (rs := [4, 7]) (by kernel_rfl) (by simp) ?_
   refine AllReadyH.cons rfl (fun KK hK => ?_) (AllReadyH.cons rfl (fun KK hK => ?_) AllReadyH.nil)
   ·go_simp
    refine hK.out _ _ trivial (fun hHeld => ?_)
    clear hK KK
    try simp only [getElem_toArray, getElem_cons_zero, getElem_cons_succ, Act.put, setIfInBounds_toArray, set_cons_zero, set_cons_succ]
    refine wpAnyH_ready (rs := [7]) (by kernel_rfl) (by simp) ?_
    refine AllReadyH.cons rfl (fun KK hK => ?_) AllReadyH.nil
    refine step_bsl rfl 27 1 _ rfl hbs1 (by simp [Act.eval]) ?_
    refine hK.out _ _ trivial (fun hHeld => ?_)
    clear hK KK
    try simp only [getElem_toArray, getElem_cons_zero, getElem_cons_succ, Act.put, setIfInBounds_toArray, set_cons_zero, set_cons_succ]
    refine wpAnyH_ready (rs := [8]) (by kernel_rfl) (by simp) ?_
    refine AllReadyH.cons rfl (fun KK hK => ?_) AllReadyH.nil
    refine step_append_run rfl (.tmp 18) (.tmp 21) 27 27 rfl (by simp [Act.eval]) (by simp [Act.eval]) hrun ?_
    refine hK.out _ _ trivial (fun hHeld => ?_)
    clear hK KK
    try simp only [getElem_toArray, getElem_cons_zero, getElem_cons_succ, Act.put, setIfInBounds_toArray, set_cons_zero, set_cons_succ]
    refine wpAnyH_take (i := 9) (v := ?_) rfl (by kernel_rfl) (by kernel_rfl) (by kernel_rfl) (fun _ _ _ h => h) (Or.inl ⟨by rfl, ?qczy9⟩) (by assumption) ?qczr9
    case qczy9 => intro w hSw; (try dsimp only at hSw); go_simp; all_goals with_reducible rfl
    try simp only [getElem_toArray, getElem_cons_zero, getElem_cons_succ, Act.put, setIfInBounds_toArray, set_cons_zero, set_cons_succ]
    refine wpAnyH_take (i := 10) (v := ?_) rfl (by kernel_rfl) (by kernel_rfl) (by kernel_rfl) (fun _ _ _ h => h) (Or.inl ⟨by rfl, ?qczy10⟩) (by assumption) ?qczr10
    case qczy10 => intro w hSw; (try dsimp only at hSw); go_simp; all_goals with_reducible rfl
    try simp only [getElem_toArray, getElem_cons_zero, getElem_cons_succ, Act.put, setIfInBounds_toArray, set_cons_zero, set_cons_succ]
    refine wpAnyH_ready (rs := [11]) (by kernel_rfl) (by simp) ?_
    refine AllReadyH.cons rfl (fun KK hK => ?_) AllReadyH.nil
    go_simp
    refine hK.out _ _ trivial (fun hHeld => ?_)
    clear hK KK
    try simp only [getElem_toArray, getElem_cons_zero, getElem_cons_succ, Act.put, setIfInBounds_toArray, set_cons_zero, set_cons_succ]
    refine wpAnyH_done (by kernel_rfl) ?_ _
    have CE := mustEnd_any HH.out.2
    go_wp2_with fail
    refine CE.mono ?_
    rintro e V5 (⟨hb5, rfl, hR5⟩ | ⟨a, hb, g', rfl, hM⟩)
    rotate_left
    ·exact ⟨rfl, Or.inr ⟨a, hb, g', rfl, hM⟩⟩
    go_wp2_with fail
    go_end0
    exact Or.inl ⟨hb5, rfl, L', HH.out.1, hR5⟩
   ·refine step_bsl rfl 27 1 _ rfl hbs1 (by simp [Act.eval]) ?_
    refine hK.out _ _ trivial (fun hHeld => ?_)
    clear hK KK
    try simp only [getElem_toArray, getElem_cons_zero, getElem_cons_succ, Act.put, setIfInBounds_toArray, set_cons_zero, set_cons_succ]
    refine wpAnyH_ready (rs := [4]) (by kernel_rfl) (by simp) ?_
    refine AllReadyH.cons rfl (fun KK hK => ?_) AllReadyH.nil
    go_simp
    refine hK.out _ _ trivial (fun hHeld => ?_)
    clear hK KK
    try simp only [getElem_toArray, getElem_cons_zero, getElem_cons_succ, Act.put, setIfInBounds_toArray, set_cons_zero, set_cons_succ]
    refine wpAnyH_ready (rs := [8]) (by kernel_rfl) (by simp) ?_
    refine AllReadyH.cons rfl (fun KK hK => ?_) AllReadyH.nil
    refine step_append_run rfl (.tmp 18) (.tmp 21) 27 27 rfl (by simp [Act.eval]) (by simp [Act.eval]) hrun ?_
    refine hK.out _ _ trivial (fun hHeld => ?_)
    clear hK KK
    try simp only [getElem_toArray, getElem_cons_zero, getElem_cons_succ, Act.put, setIfInBounds_toArray, set_cons_zero, set_cons_succ]
    refine wpAnyH_take (i := 9) (v := ?_) rfl (by kernel_rfl) (by kernel_rfl) (by kernel_rfl) (fun _ _ _ h => h) (Or.inl ⟨by rfl, ?qdzy9⟩) (by assumption) ?qdzr9
    case qdzy9 => intro w hSw; (try dsimp only at hSw); go_simp; all_goals with_reducible rfl
    try simp only [getElem_toArray, getElem_cons_zero, getElem_cons_succ, Act.put, setIfInBounds_toArray, set_cons_zero, set_cons_succ]
    refine wpAnyH_take (i := 10) (v := ?_) rfl (by kernel_rfl) (by kernel_rfl) (by kernel_rfl) (fun _ _ _ h => h) (Or.inl ⟨by rfl, ?qdzy10⟩) (by assumption) ?qdzr10
    case qdzy10 => intro w hSw; (try dsimp only at hSw); go_simp; all_goals with_reducible rfl
    try simp only [getElem_toArray, getElem_cons_zero, getElem_cons_succ, Act.put, setIfInBounds_toArray, set_cons_zero, set_cons_succ]
    refine wpAnyH_ready (rs := [11]) (by kernel_rfl) (by simp) ?_
    refine AllReadyH.cons rfl (fun KK hK => ?_) AllReadyH.nil
    go_simp
    refine hK.out _ _ trivial (fun hHeld => ?_)
    clear hK KK
    try simp only [getElem_toArray, getElem_cons_zero, getElem_cons_succ, Act.put, setIfInBounds_toArray, set_cons_zero, set_cons_succ]
    refine wpAnyH_done (by kernel_rfl) ?_ _
    have CE := mustEnd_any HH.out.2
    go_wp2_with fail
    refine CE.mono ?_
    rintro e V5 (⟨hb5, rfl, hR5⟩ | ⟨a, hb, g', rfl, hM⟩)
    rotate_left
    ·exact ⟨rfl, Or.inr ⟨a, hb, g', rfl, hM⟩⟩
    go_wp2_with fail
    go_end0
    exact Or.inl ⟨hb5, rfl, L', HH.out.1, hR5⟩
end Go.Proofs.YtneciccdiledfaaGreatDoor
namespace Go.Proofs.YtneciccdiledfaaGreatDoor
open Go.RowKit
open La
open Ad
open Sm (IsBytes)
set_option maxHeartbeats 2000000 in
theorem bstring_any {w V : World} {g : Nat} {l : List UInt8} {K : List (Nat × Obj)} (h : Bu w V g l K) (hne : l ≠ []) :
  Calls Tryz.prog 35 #[.pointer (some ⟨g, 0, none⟩)] V fun e V' => e = .returned (.string ⟨l.toArray⟩) ∧ Below w.heap.size w V' := by
 obtain ⟨p, v, hO⟩ : ∃ p v, Out w V v (nb l) ((g, .cells #[p, v] 86) :: K) := by
  rcases h with ⟨v, h⟩ | ⟨v, h⟩
  ·exact ⟨_, v, h⟩
  ·exact ⟨_, v, h⟩
 have hl0 : (nb l).length ≠ 0 := by rw [nb_len]; intro e; exact hne (List.eq_nil_of_length_eq_zero e)
 rcases hO.2.2 with ⟨-, e, -⟩ | ⟨gb, cap, cur, rfl, hm, hnc, hcm, hcs, htk⟩
 ·exact absurd e hl0
 rw [nb_len] at hl0 hnc htk hm
 have c1 : V.drew.cell? ⟨g, 1, none⟩ = some (.slice (some ⟨gb, 0, none⟩) l.length cap) := hm.cell 1 rfl 1
 have hg : V.drew.heap[gb]? = some (.cells cur 5) := hm.get 0 rfl
 have hge := hm.ge 0 rfl
 have hSD : (Builtin.unsafeSliceData_ #[49] 134 #[.slice (some ⟨gb, 0, none⟩) l.length cap]).run Tryz.prog V.drew = .ok (.pointer (some ⟨gb, 0, none⟩)) V.drew :=
  Lib.run_unsafeSliceData_row _ _ _ _ _ _ (by omega)
 have hUS : (Builtin.unsafeString_ #[134, 3] 9 #[.pointer (some ⟨gb, 0, none⟩), .int .i64 l.length]).run Tryz.prog V.drew = .ok (.string ⟨l.toArray⟩) (V.drew.freeze ⟨gb, 0, none⟩ l.length) := by
  refine Lib.run_unsafeString_row V.drew 134 3 9 5 Tryz.underlying134 (by kernel_rfl) gb cur.size (by simp [World.shape?, hg]) l hne (by omega) (by unfold maxLen at hcm; omega) ?_
  intro j x hx
  have hj := (List.getElem?_eq_some_iff.1 hx).1
  have e1 : cur.toList[j]? = some (.int .u8 x.toNat) := by
   have := congrArg (fun z => z[j]?) htk
   simp only [Nat.mul_one] at this
   rw [List.getElem?_take_of_lt (by omega)] at this
   rw [this]
   simp [nb, hx]
  have e2 : V.drew.cell? ⟨gb, j, none⟩ = cur[j]? := cell_of hg j
  rw [addr_mid, Nat.zero_add]
  exact e2.trans (by simpa using e1)
 have HB : Hid (Below w.heap.size w (V.drew.freeze ⟨gb, 0, none⟩ l.length)) := Lib.below_freeze (Below.drew hm.below) (p := ⟨gb, 0, none⟩) hge _
 clear h hO hm hg hge hnc hcm hcs htk hl0
 generalize (⟨l.toArray⟩ : ByteArray) = T at hUS ⊢
 go_enter Tryz.func35, Tryz.ntmps35
 go_wp2
 go_region
 all_goals (go_wp2; go_ret; exact ⟨rfl, HB.out⟩)
structure TW (t : Ten) : Prop where
 inn : TIn t
 rg : TRg t
 sess : 0 ≤ t.sess ∧ 0 ≤ t.queue
 pool : t.pool.length ≤ 90000
theorem txt_app (c : Cgf) (i : Nat) (t : Ten) (h : c.ten[i]? = some t) : spc (txtG c) ++ ((c.ten.take (i + 1)).flatMap txtT).flatMap spc = ((spc (txtG c) ++ ((c.ten.take i).flatMap txtT).flatMap spc) ++ spc (txtH t)) ++ (txtR t).flatMap spc := by
 rw [List.take_add_one, h]
 simp [txtT, List.flatMap_append]
theorem txt_part (c : Cgf) (i : Nat) : (spc (txtG c) ++ ((c.ten.take i).flatMap txtT).flatMap spc).length ≤ (txt c).length := by
 unfold txt lnsOf
 rw [List.flatMap_cons]
 conv => rhs; rw [← List.take_append_drop i c.ten]
 rw [List.flatMap_append, List.flatMap_append]
 simp only [List.length_append]
 omega
theorem txt_whole (c : Cgf) : spc (txtG c) ++ ((c.ten.take c.ten.length).flatMap txtT).flatMap spc = txt c := by
 rw [List.take_length]; rfl
set_option maxHeartbeats 16000000 in
theorem text_any {w : World} {v : Value} {c : Cgf} (hV : Vs w) (hF : FW w) (h : CV w v c) (hi : CIn c) (hr : CRg c) (ht : ∀ t ∈ c.ten, TW t) (hn : c.ten.length ≤ 1000000) (hlen : (txt c).length ≤ 90000000) :
  Calls Tryz.prog 15 #[v] w fun e w' => e = .returned (.string ⟨(txt c).toArray⟩) ∧ Below w.heap.size w w' := by
 obtain ⟨hl, u, rfl, zs, hz, hrw, hq⟩ := h
 obtain ⟨g1, hg1⟩ : ∃ g1, w.heap.size = g1 := ⟨_, rfl⟩
 have hM0 : Mem w (w.alloc (.cells (cc c u).toArray 29)) [(g1, .cells (cc c u).toArray 29)] := (Mem.nil w).push1 hg1.symm
 obtain ⟨K1, hK1⟩ : ∃ K1, [(g1, Obj.cells (cc c u).toArray 29)] = K1 := ⟨_, rfl⟩
 have HK : Hid (∀ X, Mem w X K1 → X.heap[g1]? = some (.cells (cc c u).toArray 29) ∧ X.cell? ⟨g1, 28, none⟩ = some u) := by
  intro X hX
  rw [← hK1] at hX
  exact ⟨hX.get 0 rfl, (cfg_box hl hX (List.mem_cons_self ..)).2.2.2.2.2.2⟩
 have CG : Hid (∀ X g l, Bu w X g l K1 → l.length + (spc (txtG c)).length ≤ 90000000 → Calls Tryz.prog 32 #[.pointer (some ⟨g, 0, none⟩), .agg (cc c u).toArray] X fun e V' => e = .returned (.tuple #[]) ∧ Bu w V' g (l ++ spc (txtG c)) K1) := fun X g l hX hh => wgate_any hV hX hi hr hh
 obtain ⟨N, hN⟩ : ∃ N, c.ten.length = N := ⟨_, rfl⟩
 have hzl : zs.length = N := by rw [← hN, ← hz, List.length_map]
 obtain ⟨sa, sc, rfl, hrr⟩ := hrw
 have HR : Hid (∀ i, i < N → ∃ t p s q, c.ten[i]? = some t ∧ TW t ∧ TV w (.agg (tc t p s q).toArray) t ∧ TLen t ∧ (tc t p s q).toArray.size = 33 ∧ (tc t p s q).toArray.all (·.oneCell') = true ∧ ∀ X, Mem w X K1 → ∃ b off, sa = some ⟨b, off, none⟩ ∧ X.rangeAt b (off + i * 33) (tc t p s q)) := by
  intro i hiN
  obtain ⟨z, hx⟩ : ∃ z, zs[i]? = some z := ⟨_, List.getElem?_eq_getElem (by omega)⟩
  have hzm := hq z (List.mem_of_getElem? hx)
  have e1 : c.ten[i]? = some z.1 := by rw [← hz, List.getElem?_map, hx]; rfl
  refine ⟨z.1, z.2.1, z.2.2.1, z.2.2.2, e1, ht _ (List.mem_of_getElem? e1), ⟨hzm.1, _, _, _, rfl, hzm.2⟩, hzm.1, by rw [List.size_toArray]; exact tc_len hzm.1 _ _ _, zc_one hzm.2, fun X hX => ?_⟩
  have hr2 : Rw X 33 (.slice sa (zs.map zc).length sc) (zs.map zc) := (show Rw w 33 (.slice sa (zs.map zc).length sc) (zs.map zc) from ⟨sa, sc, rfl, hrr⟩).below zc_ne hX.below (Nat.le_refl _)
  obtain ⟨b, off, e2, hc⟩ := rw_at hr2 i (by rw [List.length_map]; omega)
  refine ⟨b, off, e2, fun j v hj => ?_⟩
  refine hc j v ?_
  have : (zs.map zc).getD i [] = zc z := by simp [List.getD, hx]
  rw [this]; exact hj
 rw [List.length_map, hzl] at HK CG hM0 hK1 ⊢
 have HS : Hid (∀ i t, c.ten[i]? = some t → spc (txtG c) ++ ((c.ten.take (i + 1)).flatMap txtT).flatMap spc = ((spc (txtG c) ++ ((c.ten.take i).flatMap txtT).flatMap spc) ++ spc (txtH t)) ++ (txtR t).flatMap spc) := fun i t hh => txt_app c i t hh
 have HLe : Hid (∀ i, (spc (txtG c) ++ ((c.ten.take i).flatMap txtT).flatMap spc).length ≤ 90000000) := fun i => by have := txt_part c i; omega
 have HW : Hid (spc (txtG c) ++ ((c.ten.take N).flatMap txtT).flatMap spc = txt c) := by rw [← hN]; exact txt_whole c
 have hG : ([] ++ spc (txtG c) : List UInt8) = spc (txtG c) ++ ((c.ten.take 0).flatMap txtT).flatMap spc := by simp
 have hgl : ([] : List UInt8).length + (spc (txtG c)).length ≤ 90000000 := by have := HLe.out 0; simp at this ⊢; omega
 have hne : txt c ≠ [] := by
  intro e
  have := congrArg List.length e
  unfold txt lnsOf at this
  rw [List.flatMap_cons, List.length_append] at this
  simp [spc] at this
 have HNE : Hid (txt c ≠ []) := hne
 have CG0 : Hid (∀ X g, Bu w X g [] K1 → Calls Tryz.prog 32 #[.pointer (some ⟨g, 0, none⟩), .agg (cc c (.slice sa N sc)).toArray] X fun e V' => e = .returned (.tuple #[]) ∧ Bu w V' g (spc (txtG c) ++ ((c.ten.take 0).flatMap txtT).flatMap spc) K1) := fun X g hX => by
  have := CG.out X g [] hX hgl
  rw [hG] at this
  exact this
 have hsz : (cc c (.slice sa N sc)).toArray.size = 29 := by rw [List.size_toArray]; exact cc_len hl _
 generalize (cc c (.slice sa N sc)).toArray = A at *
 generalize hFF : (fun i => spc (txtG c) ++ ((c.ten.take i).flatMap txtT).flatMap spc) = F at *
 have hFi : ∀ i, spc (txtG c) ++ ((c.ten.take i).flatMap txtT).flatMap spc = F i := fun i => by rw [← hFF]
 simp only [hFi] at HS HLe HW CG0
 rw [hK1] at hM0
 have i29 : (Tryz.prog.info? 29).map (·.size) = some A.size := by rw [hsz]; kernel_rfl
 have HN : Hid (N ≤ 1000000) := by rw [← hN]; exact hn
 generalize hT : txt c = T at *
 generalize c.ten = ct at *
 clear hFF hFi CG hG hgl hne hi hr ht hN hn hlen hz hq hrr hzl hl hK1 hsz hT
 obtain ⟨g3, hg3⟩ : ∃ g3, g1 + 1 = g3 := ⟨_, rfl⟩
 have hg4 : g3 = (w.alloc (.cells A 29)).heap.size := by rw [← hg3, ← hg1]; simp
 have HB0 : Hid (Bu w ((w.alloc (.cells A 29)).alloc (.cells #[.pointer none, .slice none 0 0] 86)) g3 [] K1) := Or.inl ⟨.slice none 0 0, Out.nil (hM0.front _ hg4)⟩
 clear hM0 hg4
 go_enter Tryz.func15, Tryz.ntmps15
 go_upto_region 2 with fail
 refine wp_letter (fun X => Bu w X g3 [] K1) (by exact HB0.out) ?_
 intro V1 hR
 try simp only [hg3]
 try simp only [hg1]
 clear hg1 hg3 HB0
 have kA := (HK.out _ hR.mem).1
 have CC := CG0.out _ _ hR
 clear hR
 go_wp2_with (refine wpList_load_row rfl 29 (.tmp 1) (by with_reducible rfl) g1 (by first | rfl | simp [Act.eval]) 29 A (0, 0) _ kA Tryz.underlying29 rfl i29 ?_)
 refine CC.mono ?_
 rintro e V2 ⟨rfl, hB2⟩
 have c28 := (HK.out _ hB2.mem).2
 have HB2 : Hid (Bu w V2 g3 (F 0) K1) := hB2
 clear hB2 CC CG0 kA
 go_wp2_with fail
 go_loopw [12] (fun u w' => ∃ i : Nat, i ≤ N ∧ u = .int .i64 i ∧ Hid (Bu w w' g3 (F i) K1)) (fun u w' => N - (intOf u).toNat)
 case atStart => exact ⟨0, Nat.zero_le _, rfl, HB2⟩
 case round =>
  obtain ⟨i, hi, rfl, HX⟩ := hrel
  clear HB2 c28
  by_cases hlt : i < N
  ·have h1 : (i : Int) < N := by omega
   have e7 : IntKind.i64.wrap ((i : Int) + 1) = (i : Int) + 1 := by have := HN.out; exact wrap64 (by omega) (by omega)
   obtain ⟨t, p, s, q, et, tw, tv, tl, tsz, tone, hra⟩ := HR.out i hlt
   obtain ⟨b, off, rfl, hrg⟩ := hra _ HX.out.mem
   have hsn := HS.out i t et
   have hln := HLe.out (i + 1)
   rw [hsn] at hln
   simp only [List.length_append] at hln
   have CT : Hid (∀ X K', Bu w X g3 (F i) K' → Calls Tryz.prog 33 #[.pointer (some ⟨g3, 0, none⟩), .agg (tc t p s q).toArray] X fun e V' => e = .returned (.tuple #[]) ∧ Bu w V' g3 (F i ++ spc (txtH t)) K') := fun X K' hX => wten_any hV hX tl ⟨tw.inn.key, tw.inn.vmac, tw.inn.host⟩ tw.rg (by omega)
   have CP : Hid (∀ X K', Bu w X g3 (F i ++ spc (txtH t)) K' → Calls Tryz.prog 34 #[.pointer (some ⟨g3, 0, none⟩), .agg (tc t p s q).toArray] X fun e V' => e = .returned (.tuple #[]) ∧ Bu w V' g3 (F (i + 1)) K') := fun X K' hX => by
    have := wparts_any hV hF hX tv tw.inn tw.rg tw.sess tw.pool (by rw [List.length_append]; omega)
    rw [← hsn] at this
    exact this
   have hi33 : (Tryz.prog.info? 45).map (·.size) = some (tc t p s q).length := by rw [← List.size_toArray, tsz]; kernel_rfl
   have i33 : (Tryz.prog.info? 45).map (·.size) = some (tc t p s q).toArray.size := by rw [tsz]; kernel_rfl
   generalize F i ++ spc (txtH t) = FH at CT CP
   generalize hx : tc t p s q = x at *
   clear hx hra tv tw hsn hln et tl
   obtain ⟨B, hB⟩ : ∃ B, x.toArray = B := ⟨_, rfl⟩
   rw [hB] at tsz tone CT CP i33
   obtain ⟨gt, hgt⟩ : ∃ gt, wr.heap.size = gt := ⟨_, rfl⟩
   have hk1 : (wr.alloc (.cells tz 45)).heap[gt]? = some (.cells tz 45) := by rw [← hgt]; exact heap_alloc_new _ _
   have e1 : (wr.alloc (.cells tz 45)).setRow gt B = wr.alloc (.cells B 45) := by
    rw [← hgt]; exact World.setRow_alloc_new wr tz B 45
   have hP := HX.out.push (.cells B 45) hgt.symm
   rw [← e1] at hP
   have HP : Hid (Bu w ((wr.alloc (.cells tz 45)).setRow gt B) g3 (F i) ((gt, .cells B 45) :: K1)) := hP
   clear hP e1 HX
   go_upto_region 6 with (first | (refine wpList_load_mid rfl 45 (.tmp 14) (by with_reducible rfl) b (off + i * 33) (by first | rfl | simp [Act.eval]) x _ hrg Tryz.underlying45 rfl hi33 ?_) | (refine wpList_store_row rfl 45 (.tmp 5) (.tmp 15) (by with_reducible rfl) gt B (by simp [Act.eval]; try exact hgt) (by first | exact congrArg Value.agg hB | rfl | simp [Act.eval, hB]) 45 tz hk1 i33 (by rw [tsz]; rfl) tone ?_))
   refine wp_letter (fun X => Bu w X g3 (F i) ((gt, Obj.cells B 45) :: K1)) (by exact HP.out) ?_
   intro V3 hR
   try simp only [hgt]
   clear HP hgt hk1 hrg
   have k1 : V3.heap[gt]? = some (.cells B 45) := hR.mem.get 0 rfl
   have C1 := CT.out _ _ hR
   clear hR CT
   go_wp2_with (refine wpList_load_row rfl 45 (.tmp 5) (by with_reducible rfl) gt (by first | rfl | simp [Act.eval]) 45 B (0, 0) _ k1 Tryz.underlying45 rfl i33 ?_)
   refine C1.mono ?_
   rintro e V4 ⟨rfl, hB4⟩
   have k2 : V4.heap[gt]? = some (.cells B 45) := hB4.mem.get 0 rfl
   have C2 := CP.out _ _ hB4
   clear hB4 CP C1 k1
   go_wp2_with (refine wpList_load_row rfl 45 (.tmp 5) (by with_reducible rfl) gt (by first | rfl | simp [Act.eval]) 45 B (0, 0) _ k2 Tryz.underlying45 rfl i33 ?_)
   refine C2.mono ?_
   rintro e V5 ⟨rfl, hB5⟩
   have HB5 : Hid (Bu w V5 g3 (F (i + 1)) K1) := hB5.drop1
   clear hB5 C2 k2
   go_wp2_with fail
   go_roundw
   case rel => exact ⟨i + 1, by omega, by go_num, HB5⟩
   case measure => simp [intOf]; omega
  ·obtain rfl : i = N := by omega
   have h1 : ¬ ((i : Int) < i) := by omega
   have CE : Calls Tryz.prog 35 #[.pointer (some ⟨g3, 0, none⟩)] wr fun e V' => e = .returned (.string ⟨T.toArray⟩) ∧ Below w.heap.size w V' := by
    have h0 := HX.out
    rw [HW.out] at h0
    exact bstring_any h0 HNE.out
   clear HX HR HS HLe HW HNE
   go_wp2_with fail
   refine CE.mono ?_
   rintro e V6 ⟨rfl, hb⟩
   have HB : Hid (Below w.heap.size w V6) := hb
   clear hb CE
   go_wp2_with fail
   go_ret
   exact ⟨rfl, HB.out⟩
end Go.Proofs.YtneciccdiledfaaGreatDoor
namespace Go.Proofs.YtneciccdiledfaaGreatDoor
open Go.RowKit
open La
open Ad
theorem CtS.iter {w V : World} {g : Nat} {s : ByteArray} {ls : List (List Wd × Nat)} {ws : List Wd} {cur : Option Nat} {m : Bool} {B pos : Nat} (h : CtS w V g s ls ws cur m [(B, .stringIter s pos)]) : V.heap[B]? = some (.stringIter s pos) ∧ ∀ p', CtS w (V.iterAt B s p') g s ls ws cur m [(B, .stringIter s p')] := by
 obtain ⟨zs, vl, vw, Bl, Bw, C, h1, h2, h3, h4, hM⟩ := h
 have hp : ∀ p', ((g, Obj.cells (ctc s vl vw cur m) 138) :: (Bl ++ (Bw ++ (C ++ [(B, Obj.stringIter s p')])))).Perm ((B, .stringIter s p') :: (g, .cells (ctc s vl vw cur m) 138) :: (Bl ++ (Bw ++ C))) := by
  intro p'
  classical
  rw [List.perm_iff_count]
  intro z
  simp only [List.count_append, List.count_cons, List.count_nil]
  omega
 have hM2 := hM.perm (hp pos)
 refine ⟨hM2.get 0 rfl, fun p' => ⟨zs, vl, vw, Bl, Bw, C, h1, h2, h3, h4, ?_⟩⟩
 have := hM2.iterAt 0 rfl p'
 rw [List.set_cons_zero] at this
 exact this.perm (hp p').symm
def CtI (w V : World) (g : Nat) (s : ByteArray) (B pos : Nat) (ls : List (List Wd × Nat)) (ws : List Wd) (cur : Option Nat) (m : Bool) : Prop :=
 CtS w V g s ls ws cur m [(B, .stringIter s pos)] ∧ ls ++ scan s (s.data.toList.drop pos) pos ws cur m = lns s ∧ (∀ b, cur = some b → b ≤ pos) ∧ (m = true → cur = none) ∧ ws.length + ls.length ≤ pos ∧ pos ≤ s.size
theorem ended_len (s : ByteArray) (ws : List Wd) (cur : Option Nat) (p : Nat) : (ended s ws cur p).length ≤ ws.length + 1 := by
 cases cur <;> simp [ended]
theorem lined_len (ws : List Wd) (p : Nat) : (lined ws p).length ≤ 1 := by
 unfold lined; split <;> simp
theorem lined_len2 (s : ByteArray) (ws : List Wd) (cur : Option Nat) (p : Nat) : (lined (ended s ws cur p) p).length ≤ ws.length + 1 := by
 have := lined_len (ended s ws cur p) p; omega
set_option maxHeartbeats 16000000 in
theorem cut_any (s : ByteArray) (hs : s.size ≤ 32768) (w : World) : Calls Tryz.prog 44 #[.string s] w fun e V' => ∃ v, e = .returned v ∧ ∃ (zs : List Lz) (Bl C : List (Nat × Obj)), zs.map Prod.snd = lns s ∧ OwB 105 2 v zs.length (zs.map lcs).flatten Bl ∧ (∀ z ∈ zs, WIn C z.1 z.2.1) ∧ Mem w V' (Bl ++ C) := by
 have hM0 : Mem w ((w.alloc (.cells (ctc s nilV nilV none false) 138)).alloc (.stringIter s 0)) [(w.heap.size, .cells (ctc s nilV nilV none false) 138), (w.heap.size + 1, .stringIter s 0)] := ((Mem.nil w).push1 rfl).push2 (by simp)
 have H0 : Hid (CtI w ((w.alloc (.cells (ctc s nilV nilV none false) 138)).alloc (.stringIter s 0)) w.heap.size s (w.heap.size + 1) 0 [] [] none false) :=
  ⟨⟨[], nilV, nilV, [], [], [], rfl, OwB.nil _ _, OwB.nil _ _, by simp, hM0⟩, by simp [lns], (fun b e => by cases e), (fun e => by cases e), by simp, Nat.zero_le _⟩
 clear hM0
 go_enter Tryz.func44, Tryz.ntmps44
 go_wp2_with fail
 go_loopw [] (fun w' => ∃ pos ls ws cur m, Hid (CtI w w' w.heap.size s (w.heap.size + 1) pos ls ws cur m)) (fun w' => s.size - w'.iterPos (w.heap.size + 1))
 case atStart => exact ⟨0, [], [], none, false, H0⟩
 case round =>
  obtain ⟨pos, ls, ws, cur, m, HI⟩ := hrel
  clear H0
  obtain ⟨hC, hsc, hcb, hmc, hlen, hps⟩ := HI.out
  obtain ⟨hit, hit2⟩ := hC.iter
  have hipos : wr.iterPos (w.heap.size + 1) = pos := by simp [World.iterPos, hit]
  have HP : Hid (wr.iterPos (w.heap.size + 1) = pos) := hipos
  by_cases hp : pos < s.size
  ·have FIN : ∀ (W2 : World) (p2 : Nat) (ls2 : List (List Wd × Nat)) (ws2 : List Wd) (cur2 : Option Nat) (m2 : Bool), CtI w W2 w.heap.size s (w.heap.size + 1) p2 ls2 ws2 cur2 m2 → pos < p2 → Hid (CtI w W2 w.heap.size s (w.heap.size + 1) p2 ls2 ws2 cur2 m2 ∧ s.size - W2.iterPos (w.heap.size + 1) < s.size - wr.iterPos (w.heap.size + 1)) := by
    intro W2 p2 ls2 ws2 cur2 m2 h2 hlt
    have hi2 := h2.1.iter.1
    have : W2.iterPos (w.heap.size + 1) = p2 := by simp [World.iterPos, hi2]
    refine ⟨h2, ?_⟩
    rw [this, hipos]; omega
   have HFIN : Hid (∀ (W2 : World) (p2 : Nat) (ls2 : List (List Wd × Nat)) (ws2 : List Wd) (cur2 : Option Nat) (m2 : Bool), CtI w W2 w.heap.size s (w.heap.size + 1) p2 ls2 ws2 cur2 m2 → pos < p2 → Hid (CtI w W2 w.heap.size s (w.heap.size + 1) p2 ls2 ws2 cur2 m2 ∧ s.size - W2.iterPos (w.heap.size + 1) < s.size - wr.iterPos (w.heap.size + 1))) := FIN
   have hel := ended_len s ws cur pos
   have hll := lined_len2 s ws cur pos
   by_cases ha : (s[pos]'hp).toNat < 128
   ·have hnx : ∀ ty, (Instr.next (.pointer (some ⟨w.heap.size + 1, 0, none⟩)) true ty).run Tryz.prog wr = _ := fun ty => Lib.run_next_ascii_at wr (w.heap.size + 1) s pos ty hit hp ha
    have hC1 := hit2 (pos + 1)
    rw [drop_cons s pos hp] at hsc
    obtain ⟨b, hb⟩ : ∃ b, s[pos]'hp = b := ⟨_, rfl⟩
    rw [hb] at hsc ha
    simp only [hb] at hnx
    generalize wr.iterAt (w.heap.size + 1) s (pos + 1) = W1 at hnx hC1
    clear hC hit hit2 hipos FIN hb HI
    by_cases h10 : b = 10
    ·subst h10
     rw [scan_feed] at hsc
     have CS := step_feed hC1 pos hs hps hcb (by omega) (by omega)
     have hnx2 : ∀ ty, (Instr.next (.pointer (some ⟨w.heap.size + 1, 0, none⟩)) true ty).run Tryz.prog wr = .ok (.tuple #[.bool true, .int .i64 (pos : Int), .int .i32 10]) W1 := hnx
     have HS : Hid ((ls ++ lined (ended s ws cur pos) pos) ++ scan s (s.data.toList.drop (pos + 1)) (pos + 1) [] none false = lns s ∧ (ls ++ lined (ended s ws cur pos) pos).length ≤ pos + 1) := ⟨by rw [List.append_assoc]; exact hsc, by rw [List.length_append]; omega⟩
     clear hnx hC1 hsc
     go_wp2_with fail
     refine CS.mono ?_
     rintro e V2 ⟨rfl, hC2⟩
     have HF := HFIN.out V2 (pos + 1) _ _ _ _ ⟨hC2, HS.out.1, (fun b e => by cases e), (fun e => by cases e), by simpa using HS.out.2, by omega⟩ (by omega)
     clear hC2 CS
     go_wp2_with fail
     go_roundw
     case rel => exact ⟨pos + 1, _, _, _, _, HF.out.1⟩
     case measure => exact HF.out.2
    ·cases m with
     | true =>
      rw [scan_mute _ _ _ _ _ h10] at hsc
      have CS := step_mute hC1 pos b.toNat (by intro e; apply h10; apply UInt8.toNat_inj.1; rw [e]; rfl)
      have HS : Hid (ls ++ scan s (s.data.toList.drop (pos + 1)) (pos + 1) ws cur true = lns s ∧ (∀ b, cur = some b → b ≤ pos + 1) ∧ (True → cur = none)) := ⟨hsc, (fun b e => by have := hcb b e; omega), fun _ => hmc rfl⟩
      generalize b.toNat = rr at hnx CS
      clear hC1 hsc h10
      go_wp2_with fail
      refine CS.mono ?_
      rintro e V2 ⟨rfl, hC2⟩
      have HF := HFIN.out V2 (pos + 1) _ _ _ _ ⟨hC2, HS.out.1, HS.out.2.1, fun _ => HS.out.2.2 trivial, by omega, by omega⟩ (by omega)
      clear hC2 CS
      go_wp2_with fail
      go_roundw
      case rel => exact ⟨pos + 1, _, _, _, _, HF.out.1⟩
      case measure => exact HF.out.2
     | false =>
      by_cases h32 : b = 32
      ·subst h32
       rw [scan_blank] at hsc
       have CS := step_blank hC1 pos hs hps hcb (by omega)
       have hnx2 : ∀ ty, (Instr.next (.pointer (some ⟨w.heap.size + 1, 0, none⟩)) true ty).run Tryz.prog wr = .ok (.tuple #[.bool true, .int .i64 (pos : Int), .int .i32 32]) W1 := hnx
       have HS : Hid (ls ++ scan s (s.data.toList.drop (pos + 1)) (pos + 1) (ended s ws cur pos) none false = lns s) := hsc
       clear hnx hC1 hsc h10
       go_wp2_with fail
       refine CS.mono ?_
       rintro e V2 ⟨rfl, hC2⟩
       have HF := HFIN.out V2 (pos + 1) _ _ _ _ ⟨hC2, HS.out, (fun b e => by cases e), (fun e => by cases e), by omega, by omega⟩ (by omega)
       clear hC2 CS
       go_wp2_with fail
       go_roundw
       case rel => exact ⟨pos + 1, _, _, _, _, HF.out.1⟩
       case measure => exact HF.out.2
      ·by_cases h35 : b = 35
       ·subst h35
        rw [scan_hash] at hsc
        have CS := step_hash hC1 pos hs hps hcb (by omega)
        have hnx2 : ∀ ty, (Instr.next (.pointer (some ⟨w.heap.size + 1, 0, none⟩)) true ty).run Tryz.prog wr = .ok (.tuple #[.bool true, .int .i64 (pos : Int), .int .i32 35]) W1 := hnx
        have HS : Hid (ls ++ scan s (s.data.toList.drop (pos + 1)) (pos + 1) (ended s ws cur pos) none true = lns s) := hsc
        clear hnx hC1 hsc h10 h32
        go_wp2_with fail
        refine CS.mono ?_
        rintro e V2 ⟨rfl, hC2⟩
        have HF := HFIN.out V2 (pos + 1) _ _ _ _ ⟨hC2, HS.out, (fun b e => by cases e), (fun _ => rfl), by omega, by omega⟩ (by omega)
        clear hC2 CS
        go_wp2_with fail
        go_roundw
        case rel => exact ⟨pos + 1, _, _, _, _, HF.out.1⟩
        case measure => exact HF.out.2
       ·rw [scan_word _ _ _ _ _ h10 h32 h35] at hsc
        have CS := step_word hC1 pos b.toNat (by intro e; apply h10; apply UInt8.toNat_inj.1; rw [e]; rfl) (by intro e; apply h32; apply UInt8.toNat_inj.1; rw [e]; rfl) (by intro e; apply h35; apply UInt8.toNat_inj.1; rw [e]; rfl)
        have HS : Hid (ls ++ scan s (s.data.toList.drop (pos + 1)) (pos + 1) ws (some (cur.getD pos)) false = lns s ∧ (∀ b, some (cur.getD pos) = some b → b ≤ pos + 1)) := ⟨hsc, fun b e => by
         cases e
         cases cur with
         | none => simp
         | some c => have := hcb c rfl; simp; omega⟩
        generalize b.toNat = rr at hnx CS
        clear hC1 hsc h10 h32 h35
        go_wp2_with fail
        refine CS.mono ?_
        rintro e V2 ⟨rfl, hC2⟩
        have HF := HFIN.out V2 (pos + 1) _ _ _ _ ⟨hC2, HS.out.1, HS.out.2, (fun e => by cases e), by omega, by omega⟩ (by omega)
        clear hC2 CS
        go_wp2_with fail
        go_roundw
        case rel => exact ⟨pos + 1, _, _, _, _, HF.out.1⟩
        case measure => exact HF.out.2
   ·have hnx : ∀ ty, (Instr.next (.pointer (some ⟨w.heap.size + 1, 0, none⟩)) true ty).run Tryz.prog wr = _ := fun ty => Lib.run_next_any_at wr (w.heap.size + 1) s pos ty hit hp
    have hh := decode_high s pos hp (by omega)
    have hr := rune_high s pos hp (by omega)
    have hC1 := hit2 (pos + (Utf8.decode s pos).2)
    have hdl : (s.data.toList.drop pos).length = s.size - pos := by rw [List.length_drop, text_len]
    have hsk : ∀ (k : Nat) (cur' : Option Nat), k ≤ (s.data.toList.drop pos).length → (m = true ∨ cur' ≠ none) → (∀ j, j < k → 128 ≤ ((s.data.toList.drop pos).getD j 0).toNat) → scan s (s.data.toList.drop pos) pos ws cur' m = scan s ((s.data.toList.drop pos).drop k) (pos + k) ws cur' m := fun k cur' a b c => scan_high s ws m k _ pos cur' a b c
    obtain ⟨q, hq⟩ : ∃ q, (Utf8.decode s pos).2 = q := ⟨_, rfl⟩
    obtain ⟨rr, hrr⟩ : ∃ rr, (Utf8.decode s pos).1 = rr := ⟨_, rfl⟩
    simp only [hq, hrr] at hnx hh hr hC1
    generalize wr.iterAt (w.heap.size + 1) s (pos + q) = W1 at hnx hC1
    have hd2 : (s.data.toList.drop pos).drop q = s.data.toList.drop (pos + q) := by rw [List.drop_drop]
    clear hC hit hit2 hipos FIN HI hq hrr
    cases m with
    | true =>
     rw [hsk q cur (by omega) (Or.inl rfl) hr.2, hd2] at hsc
     have CS := step_mute hC1 pos rr (by omega)
     have HS : Hid (ls ++ scan s (s.data.toList.drop (pos + q)) (pos + q) ws cur true = lns s ∧ (∀ b, cur = some b → b ≤ pos + q) ∧ (True → cur = none) ∧ pos + q ≤ s.size ∧ 1 ≤ q) := ⟨hsc, (fun b e => by have := hcb b e; omega), (fun _ => hmc rfl), hr.1, hh.2⟩
     clear hC1 hsc hsk hd2 hdl hr hh
     go_wp2_with fail
     refine CS.mono ?_
     rintro e V2 ⟨rfl, hC2⟩
     have HF := HFIN.out V2 (pos + q) _ _ _ _ ⟨hC2, HS.out.1, HS.out.2.1, fun _ => HS.out.2.2.1 trivial, by omega, HS.out.2.2.2.1⟩ (by have := HS.out.2.2.2.2; omega)
     clear hC2 CS
     go_wp2_with fail
     go_roundw
     case rel => exact ⟨pos + q, _, _, _, _, HF.out.1⟩
     case measure => exact HF.out.2
    | false =>
     have hfirst : scan s (s.data.toList.drop pos) pos ws cur false = scan s (s.data.toList.drop pos) pos ws (some (cur.getD pos)) false := by
      have n1 : s[pos]'hp ≠ 10 := by intro e; rw [e] at ha; exact ha (by decide)
      have n2 : s[pos]'hp ≠ 32 := by intro e; rw [e] at ha; exact ha (by decide)
      have n3 : s[pos]'hp ≠ 35 := by intro e; rw [e] at ha; exact ha (by decide)
      rw [drop_cons s pos hp, scan_word _ _ _ _ _ n1 n2 n3, scan_word _ _ _ _ _ n1 n2 n3]
      cases cur <;> rfl
     rw [hfirst, hsk q (some (cur.getD pos)) (by omega) (Or.inr (by simp)) hr.2, hd2] at hsc
     have CS := step_word hC1 pos rr (by omega) (by omega) (by omega)
     have HS : Hid (ls ++ scan s (s.data.toList.drop (pos + q)) (pos + q) ws (some (cur.getD pos)) false = lns s ∧ (∀ b, some (cur.getD pos) = some b → b ≤ pos + q) ∧ pos + q ≤ s.size ∧ 1 ≤ q) := ⟨hsc, fun b e => by
      cases e
      cases cur with
      | none => simp
      | some c => have := hcb c rfl; simp; omega, hr.1, hh.2⟩
     clear hC1 hsc hsk hd2 hdl hr hh hfirst ha
     go_wp2_with fail
     refine CS.mono ?_
     rintro e V2 ⟨rfl, hC2⟩
     have HF := HFIN.out V2 (pos + q) _ _ _ _ ⟨hC2, HS.out.1, HS.out.2.1, (fun e => by cases e), by omega, HS.out.2.2.1⟩ (by have := HS.out.2.2.2; omega)
     clear hC2 CS
     go_wp2_with fail
     go_roundw
     case rel => exact ⟨pos + q, _, _, _, _, HF.out.1⟩
     case measure => exact HF.out.2
  ·have hnx : ∀ ty, (Instr.next (.pointer (some ⟨w.heap.size + 1, 0, none⟩)) true ty).run Tryz.prog wr = _ := fun ty => Lib.run_next_end_at wr (w.heap.size + 1) s pos ty hit hp
   have hpe : pos = s.size := by omega
   rw [drop_end s pos hp, scan_nil] at hsc
   have CE := endLine_any hC pos hs hps hcb (by omega) (by omega)
   rw [hsc, hpe] at CE
   clear hC hit hit2 hipos HI hsc hcb hmc hlen
   go_wp2_with fail
   refine CE.mono ?_
   rintro e V2 ⟨rfl, hC2⟩
   obtain ⟨zs, vl, vw, Bl, Bw, C, h1, h2, h3, h4, hM⟩ := hC2
   obtain ⟨la, ln', lc, rfl⟩ := owb_slice h2
   have e1 : V2.cell? ⟨w.heap.size, 1, none⟩ = some (.slice la ln' lc) := hM.cell 0 rfl 1
   have HF : Hid (zs.map Prod.snd = lns s ∧ OwB 105 2 (.slice la ln' lc) zs.length (zs.map lcs).flatten Bl ∧ (∀ z ∈ zs, WIn C z.1 z.2.1) ∧ Mem w V2 (Bl ++ C)) := ⟨h1, h2, h4, by
    have := hM.sub.perm (L' := Bw ++ ([(w.heap.size + 1, .stringIter s s.size)] ++ (Bl ++ C))) (by
     classical
     rw [List.perm_iff_count]
     intro z
     simp only [List.count_append, List.count_cons, List.count_nil]
     omega)
    exact this.dropA.dropA⟩
   clear hM h1 h2 h3 h4 CE
   go_wp2_with fail
   go_ret
   exact ⟨_, rfl, zs, Bl, C, HF.out⟩
end Go.Proofs.YtneciccdiledfaaGreatDoor
