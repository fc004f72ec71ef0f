/-
  Settings held against one another: lychhelp.Tenant, at any two tenants.
  Settings held against one another: lychhelp.Tenant, at any two tenants.
  Settings as bytes: the program's OpenChange, at all bytes.
-/
import Derived.Test.YtngegdamcfmonaaGreatM27
import Derived.Test.YtngegdamcfmonaaGreatM25
namespace Go.Proofs.YtngegdamcfmonaaGreat
open Go.RowKit
open Sm
open Cf
set_option linter.unusedVariables false
set_option maxRecDepth 20000

set_option maxHeartbeats 8000000 in
theorem ht_14 {w : World} {vn a b c d f g x y vt a1 b1 c1 d1 f1 g1 a2 b2 c2 d2 f2 g2 lo hi fi se qu ra bu vn' a' b' c' d' f' g' x' y' vt' a1' b1' c1' d1' f1' g1' a2' b2' c2' d2' f2' g2' lo' hi' fi' se' qu' ra' bu' : Int} {n n' : ByteArray} {po po' : List Int} {st tw st' tw' : List (Int × Int)} {pa sa qa pa' sa' qa' : Option Addr} {pn pc sn sc qn qc pn' pc' sn' sc' qn' qc' : Nat}
    (h0 : (sb n = sb n'))
    (h1 : (vn = vn'))
    (h2 : ([a, b, c, d, f, g, x, y] = [a', b', c', d', f', g', x', y']))
    (h3 : (vt = vt'))
    (h4 : ([a1, b1, c1, d1, f1, g1] = [a1', b1', c1', d1', f1', g1']))
    (h5 : ([a2, b2, c2, d2, f2, g2] = [a2', b2', c2', d2', f2', g2']))
    (h6 : (po = po'))
    (h7 : (lo = lo'))
    (h8 : (hi = hi'))
    (h9 : (fi = fi'))
    (h10 : (st = st'))
    (h11 : (tw = tw'))
    (h12 : (se = se'))
    (h13 : (qu = qu'))
    (h14 : ¬ (ra = ra'))
    (CN : ∀ V, Below w.heap.size w V → Calls Tryz.prog 47 #[.slice pa pn pc, .slice pa' pn' pc'] V fun e V' => e = .returned (.bool (decide (po = po'))) ∧ ∃ q, V' = V.drewN q)
    (CP : ∀ V, Below w.heap.size w V → Calls Tryz.prog 48 #[.slice sa sn sc, .slice sa' sn' sc'] V fun e V' => e = .returned (.bool (decide (st = st'))) ∧ ∃ q, V' = V.drewN q)
    (CQ : ∀ V, Below w.heap.size w V → Calls Tryz.prog 48 #[.slice qa qn qc, .slice qa' qn' qc'] V fun e V' => e = .returned (.bool (decide (tw = tw'))) ∧ ∃ q, V' = V.drewN q)
    : Calls Tryz.prog 26 #[.agg #[.string n, .int .u32 vn, .int .u8 a, .int .u8 b, .int .u8 c, .int .u8 d, .int .u8 f, .int .u8 g, .int .u8 x, .int .u8 y, .int .u32 vt, .int .u8 a1, .int .u8 b1, .int .u8 c1, .int .u8 d1, .int .u8 f1, .int .u8 g1, .int .u8 a2, .int .u8 b2, .int .u8 c2, .int .u8 d2, .int .u8 f2, .int .u8 g2, .slice pa pn pc, .int .u16 lo, .int .u16 hi, .int .i64 fi, .slice sa sn sc, .slice qa qn qc, .int .i64 se, .int .i64 qu, .int .u32 ra, .int .u32 bu], .agg #[.string n', .int .u32 vn', .int .u8 a', .int .u8 b', .int .u8 c', .int .u8 d', .int .u8 f', .int .u8 g', .int .u8 x', .int .u8 y', .int .u32 vt', .int .u8 a1', .int .u8 b1', .int .u8 c1', .int .u8 d1', .int .u8 f1', .int .u8 g1', .int .u8 a2', .int .u8 b2', .int .u8 c2', .int .u8 d2', .int .u8 f2', .int .u8 g2', .slice pa' pn' pc', .int .u16 lo', .int .u16 hi', .int .i64 fi', .slice sa' sn' sc', .slice qa' qn' qc', .int .i64 se', .int .i64 qu', .int .u32 ra', .int .u32 bu']] w fun e w' => e = .returned (.bool false) ∧ Below w.heap.size w w' := by
  have e0 : (n.toList == n'.toList) = true := by rw [text_same]; exact decide_eq_true h0
  have e1 : (vn == vn') = true := by simpa using h1
  have e2 : ∀ V, (Op.equalIn 10000 25 (.agg #[.int .u8 a, .int .u8 b, .int .u8 c, .int .u8 d, .int .u8 f, .int .u8 g, .int .u8 x, .int .u8 y]) (.agg #[.int .u8 a', .int .u8 b', .int .u8 c', .int .u8 d', .int .u8 f', .int .u8 g', .int .u8 x', .int .u8 y'])).run Tryz.prog V = .ok true V := fun V => by rw [key_eq]; rw [decide_eq_true h2]
  have e3 : (vt == vt') = true := by simpa using h3
  have e4 : ∀ V, (Op.equalIn 10000 24 (.agg #[.int .u8 a1, .int .u8 b1, .int .u8 c1, .int .u8 d1, .int .u8 f1, .int .u8 g1]) (.agg #[.int .u8 a1', .int .u8 b1', .int .u8 c1', .int .u8 d1', .int .u8 f1', .int .u8 g1'])).run Tryz.prog V = .ok true V := fun V => by rw [mac_eq6]; rw [decide_eq_true h4]
  have e5 : ∀ V, (Op.equalIn 10000 24 (.agg #[.int .u8 a2, .int .u8 b2, .int .u8 c2, .int .u8 d2, .int .u8 f2, .int .u8 g2]) (.agg #[.int .u8 a2', .int .u8 b2', .int .u8 c2', .int .u8 d2', .int .u8 f2', .int .u8 g2'])).run Tryz.prog V = .ok true V := fun V => by rw [mac_eq6]; rw [decide_eq_true h5]
  have e6 : decide (po = po') = true := decide_eq_true h6
  have e7 : (lo == lo') = true := by simpa using h7
  have e8 : (hi == hi') = true := by simpa using h8
  have e9 : (fi == fi') = true := by simpa using h9
  have e10 : decide (st = st') = true := decide_eq_true h10
  have e11 : decide (tw = tw') = true := decide_eq_true h11
  have e12 : (se == se') = true := by simpa using h12
  have e13 : (qu == qu') = true := by simpa using h13
  have e14 : (ra == ra') = false := by simpa using h14
  clear h0 h1 h2 h3 h4 h5 h6 h7 h8 h9 h10 h11 h12 h13 h14
  obtain ⟨W0, hW0⟩ : ∃ W0, W0 = (w.alloc (.cells #[.string n, .int .u32 vn, .int .u8 a, .int .u8 b, .int .u8 c, .int .u8 d, .int .u8 f, .int .u8 g, .int .u8 x, .int .u8 y, .int .u32 vt, .int .u8 a1, .int .u8 b1, .int .u8 c1, .int .u8 d1, .int .u8 f1, .int .u8 g1, .int .u8 a2, .int .u8 b2, .int .u8 c2, .int .u8 d2, .int .u8 f2, .int .u8 g2, .slice pa pn pc, .int .u16 lo, .int .u16 hi, .int .i64 fi, .slice sa sn sc, .slice qa qn qc, .int .i64 se, .int .i64 qu, .int .u32 ra, .int .u32 bu] 33)).alloc (.cells #[.string n', .int .u32 vn', .int .u8 a', .int .u8 b', .int .u8 c', .int .u8 d', .int .u8 f', .int .u8 g', .int .u8 x', .int .u8 y', .int .u32 vt', .int .u8 a1', .int .u8 b1', .int .u8 c1', .int .u8 d1', .int .u8 f1', .int .u8 g1', .int .u8 a2', .int .u8 b2', .int .u8 c2', .int .u8 d2', .int .u8 f2', .int .u8 g2', .slice pa' pn' pc', .int .u16 lo', .int .u16 hi', .int .i64 fi', .slice sa' sn' sc', .slice qa' qn' qc', .int .i64 se', .int .i64 qu', .int .u32 ra', .int .u32 bu'] 33) := ⟨_, rfl⟩
  have hB : Below w.heap.size w W0 := by rw [hW0]; exact ((Below.refl _ _).alloc (Nat.le_refl _) _).alloc (by simp) _
  have HB : Hid (∀ q, Below w.heap.size w (W0.drewN q)) := fun q => below_drewN hB q
  clear hB
  rw [e6] at CN
  rw [e10] at CP
  rw [e11] at CQ
  have HN : Hid (∀ V, Below w.heap.size w V → Calls Tryz.prog 47 #[.slice pa pn pc, .slice pa' pn' pc'] V fun e V' => e = .returned (.bool true) ∧ ∃ q, V' = V.drewN q) := CN
  have HP : Hid (∀ V, Below w.heap.size w V → Calls Tryz.prog 48 #[.slice sa sn sc, .slice sa' sn' sc'] V fun e V' => e = .returned (.bool true) ∧ ∃ q, V' = V.drewN q) := CP
  have HQ : Hid (∀ V, Below w.heap.size w V → Calls Tryz.prog 48 #[.slice qa qn qc, .slice qa' qn' qc'] V fun e V' => e = .returned (.bool true) ∧ ∃ q, V' = V.drewN q) := CQ
  clear CN CP CQ
  clear e6
  clear e10
  clear e11
  go_enter Tryz.func26, Tryz.ntmps26
  go_wp2_with fail
  refine (HN.out _ (by rw [← hW0]; exact HB.out 0)).mono ?_
  rintro e V ⟨rfl, q1, rfl⟩
  go_wp2_with fail
  refine (HP.out _ (by rw [← hW0]; exact HB.out _)).mono ?_
  rintro e V ⟨rfl, q2, rfl⟩
  go_wp2_with fail
  refine (HQ.out _ (by rw [← hW0]; exact HB.out _)).mono ?_
  rintro e V ⟨rfl, q3, rfl⟩
  go_wp2_with fail
  go_ret
  refine ⟨rfl, ?_⟩
  rw [← hW0]
  exact HB.out _
set_option maxHeartbeats 8000000 in
theorem ht_15 {w : World} {vn a b c d f g x y vt a1 b1 c1 d1 f1 g1 a2 b2 c2 d2 f2 g2 lo hi fi se qu ra bu vn' a' b' c' d' f' g' x' y' vt' a1' b1' c1' d1' f1' g1' a2' b2' c2' d2' f2' g2' lo' hi' fi' se' qu' ra' bu' : Int} {n n' : ByteArray} {po po' : List Int} {st tw st' tw' : List (Int × Int)} {pa sa qa pa' sa' qa' : Option Addr} {pn pc sn sc qn qc pn' pc' sn' sc' qn' qc' : Nat}
    (h0 : (sb n = sb n'))
    (h1 : (vn = vn'))
    (h2 : ([a, b, c, d, f, g, x, y] = [a', b', c', d', f', g', x', y']))
    (h3 : (vt = vt'))
    (h4 : ([a1, b1, c1, d1, f1, g1] = [a1', b1', c1', d1', f1', g1']))
    (h5 : ([a2, b2, c2, d2, f2, g2] = [a2', b2', c2', d2', f2', g2']))
    (h6 : (po = po'))
    (h7 : (lo = lo'))
    (h8 : (hi = hi'))
    (h9 : (fi = fi'))
    (h10 : (st = st'))
    (h11 : (tw = tw'))
    (h12 : (se = se'))
    (h13 : (qu = qu'))
    (h14 : (ra = ra'))
    (h15 : ¬ (bu = bu'))
    (CN : ∀ V, Below w.heap.size w V → Calls Tryz.prog 47 #[.slice pa pn pc, .slice pa' pn' pc'] V fun e V' => e = .returned (.bool (decide (po = po'))) ∧ ∃ q, V' = V.drewN q)
    (CP : ∀ V, Below w.heap.size w V → Calls Tryz.prog 48 #[.slice sa sn sc, .slice sa' sn' sc'] V fun e V' => e = .returned (.bool (decide (st = st'))) ∧ ∃ q, V' = V.drewN q)
    (CQ : ∀ V, Below w.heap.size w V → Calls Tryz.prog 48 #[.slice qa qn qc, .slice qa' qn' qc'] V fun e V' => e = .returned (.bool (decide (tw = tw'))) ∧ ∃ q, V' = V.drewN q)
    : Calls Tryz.prog 26 #[.agg #[.string n, .int .u32 vn, .int .u8 a, .int .u8 b, .int .u8 c, .int .u8 d, .int .u8 f, .int .u8 g, .int .u8 x, .int .u8 y, .int .u32 vt, .int .u8 a1, .int .u8 b1, .int .u8 c1, .int .u8 d1, .int .u8 f1, .int .u8 g1, .int .u8 a2, .int .u8 b2, .int .u8 c2, .int .u8 d2, .int .u8 f2, .int .u8 g2, .slice pa pn pc, .int .u16 lo, .int .u16 hi, .int .i64 fi, .slice sa sn sc, .slice qa qn qc, .int .i64 se, .int .i64 qu, .int .u32 ra, .int .u32 bu], .agg #[.string n', .int .u32 vn', .int .u8 a', .int .u8 b', .int .u8 c', .int .u8 d', .int .u8 f', .int .u8 g', .int .u8 x', .int .u8 y', .int .u32 vt', .int .u8 a1', .int .u8 b1', .int .u8 c1', .int .u8 d1', .int .u8 f1', .int .u8 g1', .int .u8 a2', .int .u8 b2', .int .u8 c2', .int .u8 d2', .int .u8 f2', .int .u8 g2', .slice pa' pn' pc', .int .u16 lo', .int .u16 hi', .int .i64 fi', .slice sa' sn' sc', .slice qa' qn' qc', .int .i64 se', .int .i64 qu', .int .u32 ra', .int .u32 bu']] w fun e w' => e = .returned (.bool false) ∧ Below w.heap.size w w' := by
  have e0 : (n.toList == n'.toList) = true := by rw [text_same]; exact decide_eq_true h0
  have e1 : (vn == vn') = true := by simpa using h1
  have e2 : ∀ V, (Op.equalIn 10000 25 (.agg #[.int .u8 a, .int .u8 b, .int .u8 c, .int .u8 d, .int .u8 f, .int .u8 g, .int .u8 x, .int .u8 y]) (.agg #[.int .u8 a', .int .u8 b', .int .u8 c', .int .u8 d', .int .u8 f', .int .u8 g', .int .u8 x', .int .u8 y'])).run Tryz.prog V = .ok true V := fun V => by rw [key_eq]; rw [decide_eq_true h2]
  have e3 : (vt == vt') = true := by simpa using h3
  have e4 : ∀ V, (Op.equalIn 10000 24 (.agg #[.int .u8 a1, .int .u8 b1, .int .u8 c1, .int .u8 d1, .int .u8 f1, .int .u8 g1]) (.agg #[.int .u8 a1', .int .u8 b1', .int .u8 c1', .int .u8 d1', .int .u8 f1', .int .u8 g1'])).run Tryz.prog V = .ok true V := fun V => by rw [mac_eq6]; rw [decide_eq_true h4]
  have e5 : ∀ V, (Op.equalIn 10000 24 (.agg #[.int .u8 a2, .int .u8 b2, .int .u8 c2, .int .u8 d2, .int .u8 f2, .int .u8 g2]) (.agg #[.int .u8 a2', .int .u8 b2', .int .u8 c2', .int .u8 d2', .int .u8 f2', .int .u8 g2'])).run Tryz.prog V = .ok true V := fun V => by rw [mac_eq6]; rw [decide_eq_true h5]
  have e6 : decide (po = po') = true := decide_eq_true h6
  have e7 : (lo == lo') = true := by simpa using h7
  have e8 : (hi == hi') = true := by simpa using h8
  have e9 : (fi == fi') = true := by simpa using h9
  have e10 : decide (st = st') = true := decide_eq_true h10
  have e11 : decide (tw = tw') = true := decide_eq_true h11
  have e12 : (se == se') = true := by simpa using h12
  have e13 : (qu == qu') = true := by simpa using h13
  have e14 : (ra == ra') = true := by simpa using h14
  have e15 : (bu == bu') = false := by simpa using h15
  clear h0 h1 h2 h3 h4 h5 h6 h7 h8 h9 h10 h11 h12 h13 h14 h15
  obtain ⟨W0, hW0⟩ : ∃ W0, W0 = (w.alloc (.cells #[.string n, .int .u32 vn, .int .u8 a, .int .u8 b, .int .u8 c, .int .u8 d, .int .u8 f, .int .u8 g, .int .u8 x, .int .u8 y, .int .u32 vt, .int .u8 a1, .int .u8 b1, .int .u8 c1, .int .u8 d1, .int .u8 f1, .int .u8 g1, .int .u8 a2, .int .u8 b2, .int .u8 c2, .int .u8 d2, .int .u8 f2, .int .u8 g2, .slice pa pn pc, .int .u16 lo, .int .u16 hi, .int .i64 fi, .slice sa sn sc, .slice qa qn qc, .int .i64 se, .int .i64 qu, .int .u32 ra, .int .u32 bu] 33)).alloc (.cells #[.string n', .int .u32 vn', .int .u8 a', .int .u8 b', .int .u8 c', .int .u8 d', .int .u8 f', .int .u8 g', .int .u8 x', .int .u8 y', .int .u32 vt', .int .u8 a1', .int .u8 b1', .int .u8 c1', .int .u8 d1', .int .u8 f1', .int .u8 g1', .int .u8 a2', .int .u8 b2', .int .u8 c2', .int .u8 d2', .int .u8 f2', .int .u8 g2', .slice pa' pn' pc', .int .u16 lo', .int .u16 hi', .int .i64 fi', .slice sa' sn' sc', .slice qa' qn' qc', .int .i64 se', .int .i64 qu', .int .u32 ra', .int .u32 bu'] 33) := ⟨_, rfl⟩
  have hB : Below w.heap.size w W0 := by rw [hW0]; exact ((Below.refl _ _).alloc (Nat.le_refl _) _).alloc (by simp) _
  have HB : Hid (∀ q, Below w.heap.size w (W0.drewN q)) := fun q => below_drewN hB q
  clear hB
  rw [e6] at CN
  rw [e10] at CP
  rw [e11] at CQ
  have HN : Hid (∀ V, Below w.heap.size w V → Calls Tryz.prog 47 #[.slice pa pn pc, .slice pa' pn' pc'] V fun e V' => e = .returned (.bool true) ∧ ∃ q, V' = V.drewN q) := CN
  have HP : Hid (∀ V, Below w.heap.size w V → Calls Tryz.prog 48 #[.slice sa sn sc, .slice sa' sn' sc'] V fun e V' => e = .returned (.bool true) ∧ ∃ q, V' = V.drewN q) := CP
  have HQ : Hid (∀ V, Below w.heap.size w V → Calls Tryz.prog 48 #[.slice qa qn qc, .slice qa' qn' qc'] V fun e V' => e = .returned (.bool true) ∧ ∃ q, V' = V.drewN q) := CQ
  clear CN CP CQ
  clear e6
  clear e10
  clear e11
  go_enter Tryz.func26, Tryz.ntmps26
  go_wp2_with fail
  refine (HN.out _ (by rw [← hW0]; exact HB.out 0)).mono ?_
  rintro e V ⟨rfl, q1, rfl⟩
  go_wp2_with fail
  refine (HP.out _ (by rw [← hW0]; exact HB.out _)).mono ?_
  rintro e V ⟨rfl, q2, rfl⟩
  go_wp2_with fail
  refine (HQ.out _ (by rw [← hW0]; exact HB.out _)).mono ?_
  rintro e V ⟨rfl, q3, rfl⟩
  go_wp2_with fail
  go_ret
  refine ⟨rfl, ?_⟩
  rw [← hW0]
  exact HB.out _
end Go.Proofs.YtngegdamcfmonaaGreat

namespace Go.Proofs.YtngegdamcfmonaaGreat
open Go.RowKit
open Sm
open Cf
set_option linter.unusedVariables false
set_option maxRecDepth 20000

set_option maxHeartbeats 8000000 in
theorem ht_10 {w : World} {vn a b c d f g x y vt a1 b1 c1 d1 f1 g1 a2 b2 c2 d2 f2 g2 lo hi fi se qu ra bu vn' a' b' c' d' f' g' x' y' vt' a1' b1' c1' d1' f1' g1' a2' b2' c2' d2' f2' g2' lo' hi' fi' se' qu' ra' bu' : Int} {n n' : ByteArray} {po po' : List Int} {st tw st' tw' : List (Int × Int)} {pa sa qa pa' sa' qa' : Option Addr} {pn pc sn sc qn qc pn' pc' sn' sc' qn' qc' : Nat}
    (h0 : (sb n = sb n'))
    (h1 : (vn = vn'))
    (h2 : ([a, b, c, d, f, g, x, y] = [a', b', c', d', f', g', x', y']))
    (h3 : (vt = vt'))
    (h4 : ([a1, b1, c1, d1, f1, g1] = [a1', b1', c1', d1', f1', g1']))
    (h5 : ([a2, b2, c2, d2, f2, g2] = [a2', b2', c2', d2', f2', g2']))
    (h6 : (po = po'))
    (h7 : (lo = lo'))
    (h8 : (hi = hi'))
    (h9 : (fi = fi'))
    (h10 : ¬ (st = st'))
    (CN : ∀ V, Below w.heap.size w V → Calls Tryz.prog 47 #[.slice pa pn pc, .slice pa' pn' pc'] V fun e V' => e = .returned (.bool (decide (po = po'))) ∧ ∃ q, V' = V.drewN q)
    (CP : ∀ V, Below w.heap.size w V → Calls Tryz.prog 48 #[.slice sa sn sc, .slice sa' sn' sc'] V fun e V' => e = .returned (.bool (decide (st = st'))) ∧ ∃ q, V' = V.drewN q)
    (CQ : ∀ V, Below w.heap.size w V → Calls Tryz.prog 48 #[.slice qa qn qc, .slice qa' qn' qc'] V fun e V' => e = .returned (.bool (decide (tw = tw'))) ∧ ∃ q, V' = V.drewN q)
    : Calls Tryz.prog 26 #[.agg #[.string n, .int .u32 vn, .int .u8 a, .int .u8 b, .int .u8 c, .int .u8 d, .int .u8 f, .int .u8 g, .int .u8 x, .int .u8 y, .int .u32 vt, .int .u8 a1, .int .u8 b1, .int .u8 c1, .int .u8 d1, .int .u8 f1, .int .u8 g1, .int .u8 a2, .int .u8 b2, .int .u8 c2, .int .u8 d2, .int .u8 f2, .int .u8 g2, .slice pa pn pc, .int .u16 lo, .int .u16 hi, .int .i64 fi, .slice sa sn sc, .slice qa qn qc, .int .i64 se, .int .i64 qu, .int .u32 ra, .int .u32 bu], .agg #[.string n', .int .u32 vn', .int .u8 a', .int .u8 b', .int .u8 c', .int .u8 d', .int .u8 f', .int .u8 g', .int .u8 x', .int .u8 y', .int .u32 vt', .int .u8 a1', .int .u8 b1', .int .u8 c1', .int .u8 d1', .int .u8 f1', .int .u8 g1', .int .u8 a2', .int .u8 b2', .int .u8 c2', .int .u8 d2', .int .u8 f2', .int .u8 g2', .slice pa' pn' pc', .int .u16 lo', .int .u16 hi', .int .i64 fi', .slice sa' sn' sc', .slice qa' qn' qc', .int .i64 se', .int .i64 qu', .int .u32 ra', .int .u32 bu']] w fun e w' => e = .returned (.bool false) ∧ Below w.heap.size w w' := by
  have e0 : (n.toList == n'.toList) = true := by rw [text_same]; exact decide_eq_true h0
  have e1 : (vn == vn') = true := by simpa using h1
  have e2 : ∀ V, (Op.equalIn 10000 25 (.agg #[.int .u8 a, .int .u8 b, .int .u8 c, .int .u8 d, .int .u8 f, .int .u8 g, .int .u8 x, .int .u8 y]) (.agg #[.int .u8 a', .int .u8 b', .int .u8 c', .int .u8 d', .int .u8 f', .int .u8 g', .int .u8 x', .int .u8 y'])).run Tryz.prog V = .ok true V := fun V => by rw [key_eq]; rw [decide_eq_true h2]
  have e3 : (vt == vt') = true := by simpa using h3
  have e4 : ∀ V, (Op.equalIn 10000 24 (.agg #[.int .u8 a1, .int .u8 b1, .int .u8 c1, .int .u8 d1, .int .u8 f1, .int .u8 g1]) (.agg #[.int .u8 a1', .int .u8 b1', .int .u8 c1', .int .u8 d1', .int .u8 f1', .int .u8 g1'])).run Tryz.prog V = .ok true V := fun V => by rw [mac_eq6]; rw [decide_eq_true h4]
  have e5 : ∀ V, (Op.equalIn 10000 24 (.agg #[.int .u8 a2, .int .u8 b2, .int .u8 c2, .int .u8 d2, .int .u8 f2, .int .u8 g2]) (.agg #[.int .u8 a2', .int .u8 b2', .int .u8 c2', .int .u8 d2', .int .u8 f2', .int .u8 g2'])).run Tryz.prog V = .ok true V := fun V => by rw [mac_eq6]; rw [decide_eq_true h5]
  have e6 : decide (po = po') = true := decide_eq_true h6
  have e7 : (lo == lo') = true := by simpa using h7
  have e8 : (hi == hi') = true := by simpa using h8
  have e9 : (fi == fi') = true := by simpa using h9
  have e10 : decide (st = st') = false := decide_eq_false h10
  clear h0 h1 h2 h3 h4 h5 h6 h7 h8 h9 h10
  obtain ⟨W0, hW0⟩ : ∃ W0, W0 = (w.alloc (.cells #[.string n, .int .u32 vn, .int .u8 a, .int .u8 b, .int .u8 c, .int .u8 d, .int .u8 f, .int .u8 g, .int .u8 x, .int .u8 y, .int .u32 vt, .int .u8 a1, .int .u8 b1, .int .u8 c1, .int .u8 d1, .int .u8 f1, .int .u8 g1, .int .u8 a2, .int .u8 b2, .int .u8 c2, .int .u8 d2, .int .u8 f2, .int .u8 g2, .slice pa pn pc, .int .u16 lo, .int .u16 hi, .int .i64 fi, .slice sa sn sc, .slice qa qn qc, .int .i64 se, .int .i64 qu, .int .u32 ra, .int .u32 bu] 33)).alloc (.cells #[.string n', .int .u32 vn', .int .u8 a', .int .u8 b', .int .u8 c', .int .u8 d', .int .u8 f', .int .u8 g', .int .u8 x', .int .u8 y', .int .u32 vt', .int .u8 a1', .int .u8 b1', .int .u8 c1', .int .u8 d1', .int .u8 f1', .int .u8 g1', .int .u8 a2', .int .u8 b2', .int .u8 c2', .int .u8 d2', .int .u8 f2', .int .u8 g2', .slice pa' pn' pc', .int .u16 lo', .int .u16 hi', .int .i64 fi', .slice sa' sn' sc', .slice qa' qn' qc', .int .i64 se', .int .i64 qu', .int .u32 ra', .int .u32 bu'] 33) := ⟨_, rfl⟩
  have hB : Below w.heap.size w W0 := by rw [hW0]; exact ((Below.refl _ _).alloc (Nat.le_refl _) _).alloc (by simp) _
  have HB : Hid (∀ q, Below w.heap.size w (W0.drewN q)) := fun q => below_drewN hB q
  clear hB
  rw [e6] at CN
  rw [e10] at CP
  have HN : Hid (∀ V, Below w.heap.size w V → Calls Tryz.prog 47 #[.slice pa pn pc, .slice pa' pn' pc'] V fun e V' => e = .returned (.bool true) ∧ ∃ q, V' = V.drewN q) := CN
  have HP : Hid (∀ V, Below w.heap.size w V → Calls Tryz.prog 48 #[.slice sa sn sc, .slice sa' sn' sc'] V fun e V' => e = .returned (.bool false) ∧ ∃ q, V' = V.drewN q) := CP
  clear CN CP CQ
  clear e6
  clear e10
  go_enter Tryz.func26, Tryz.ntmps26
  go_wp2_with fail
  refine (HN.out _ (by rw [← hW0]; exact HB.out 0)).mono ?_
  rintro e V ⟨rfl, q1, rfl⟩
  go_wp2_with fail
  refine (HP.out _ (by rw [← hW0]; exact HB.out _)).mono ?_
  rintro e V ⟨rfl, q2, rfl⟩
  go_wp2_with fail
  go_ret
  refine ⟨rfl, ?_⟩
  rw [← hW0]
  exact HB.out _
set_option maxHeartbeats 8000000 in
theorem ht_11 {w : World} {vn a b c d f g x y vt a1 b1 c1 d1 f1 g1 a2 b2 c2 d2 f2 g2 lo hi fi se qu ra bu vn' a' b' c' d' f' g' x' y' vt' a1' b1' c1' d1' f1' g1' a2' b2' c2' d2' f2' g2' lo' hi' fi' se' qu' ra' bu' : Int} {n n' : ByteArray} {po po' : List Int} {st tw st' tw' : List (Int × Int)} {pa sa qa pa' sa' qa' : Option Addr} {pn pc sn sc qn qc pn' pc' sn' sc' qn' qc' : Nat}
    (h0 : (sb n = sb n'))
    (h1 : (vn = vn'))
    (h2 : ([a, b, c, d, f, g, x, y] = [a', b', c', d', f', g', x', y']))
    (h3 : (vt = vt'))
    (h4 : ([a1, b1, c1, d1, f1, g1] = [a1', b1', c1', d1', f1', g1']))
    (h5 : ([a2, b2, c2, d2, f2, g2] = [a2', b2', c2', d2', f2', g2']))
    (h6 : (po = po'))
    (h7 : (lo = lo'))
    (h8 : (hi = hi'))
    (h9 : (fi = fi'))
    (h10 : (st = st'))
    (h11 : ¬ (tw = tw'))
    (CN : ∀ V, Below w.heap.size w V → Calls Tryz.prog 47 #[.slice pa pn pc, .slice pa' pn' pc'] V fun e V' => e = .returned (.bool (decide (po = po'))) ∧ ∃ q, V' = V.drewN q)
    (CP : ∀ V, Below w.heap.size w V → Calls Tryz.prog 48 #[.slice sa sn sc, .slice sa' sn' sc'] V fun e V' => e = .returned (.bool (decide (st = st'))) ∧ ∃ q, V' = V.drewN q)
    (CQ : ∀ V, Below w.heap.size w V → Calls Tryz.prog 48 #[.slice qa qn qc, .slice qa' qn' qc'] V fun e V' => e = .returned (.bool (decide (tw = tw'))) ∧ ∃ q, V' = V.drewN q)
    : Calls Tryz.prog 26 #[.agg #[.string n, .int .u32 vn, .int .u8 a, .int .u8 b, .int .u8 c, .int .u8 d, .int .u8 f, .int .u8 g, .int .u8 x, .int .u8 y, .int .u32 vt, .int .u8 a1, .int .u8 b1, .int .u8 c1, .int .u8 d1, .int .u8 f1, .int .u8 g1, .int .u8 a2, .int .u8 b2, .int .u8 c2, .int .u8 d2, .int .u8 f2, .int .u8 g2, .slice pa pn pc, .int .u16 lo, .int .u16 hi, .int .i64 fi, .slice sa sn sc, .slice qa qn qc, .int .i64 se, .int .i64 qu, .int .u32 ra, .int .u32 bu], .agg #[.string n', .int .u32 vn', .int .u8 a', .int .u8 b', .int .u8 c', .int .u8 d', .int .u8 f', .int .u8 g', .int .u8 x', .int .u8 y', .int .u32 vt', .int .u8 a1', .int .u8 b1', .int .u8 c1', .int .u8 d1', .int .u8 f1', .int .u8 g1', .int .u8 a2', .int .u8 b2', .int .u8 c2', .int .u8 d2', .int .u8 f2', .int .u8 g2', .slice pa' pn' pc', .int .u16 lo', .int .u16 hi', .int .i64 fi', .slice sa' sn' sc', .slice qa' qn' qc', .int .i64 se', .int .i64 qu', .int .u32 ra', .int .u32 bu']] w fun e w' => e = .returned (.bool false) ∧ Below w.heap.size w w' := by
  have e0 : (n.toList == n'.toList) = true := by rw [text_same]; exact decide_eq_true h0
  have e1 : (vn == vn') = true := by simpa using h1
  have e2 : ∀ V, (Op.equalIn 10000 25 (.agg #[.int .u8 a, .int .u8 b, .int .u8 c, .int .u8 d, .int .u8 f, .int .u8 g, .int .u8 x, .int .u8 y]) (.agg #[.int .u8 a', .int .u8 b', .int .u8 c', .int .u8 d', .int .u8 f', .int .u8 g', .int .u8 x', .int .u8 y'])).run Tryz.prog V = .ok true V := fun V => by rw [key_eq]; rw [decide_eq_true h2]
  have e3 : (vt == vt') = true := by simpa using h3
  have e4 : ∀ V, (Op.equalIn 10000 24 (.agg #[.int .u8 a1, .int .u8 b1, .int .u8 c1, .int .u8 d1, .int .u8 f1, .int .u8 g1]) (.agg #[.int .u8 a1', .int .u8 b1', .int .u8 c1', .int .u8 d1', .int .u8 f1', .int .u8 g1'])).run Tryz.prog V = .ok true V := fun V => by rw [mac_eq6]; rw [decide_eq_true h4]
  have e5 : ∀ V, (Op.equalIn 10000 24 (.agg #[.int .u8 a2, .int .u8 b2, .int .u8 c2, .int .u8 d2, .int .u8 f2, .int .u8 g2]) (.agg #[.int .u8 a2', .int .u8 b2', .int .u8 c2', .int .u8 d2', .int .u8 f2', .int .u8 g2'])).run Tryz.prog V = .ok true V := fun V => by rw [mac_eq6]; rw [decide_eq_true h5]
  have e6 : decide (po = po') = true := decide_eq_true h6
  have e7 : (lo == lo') = true := by simpa using h7
  have e8 : (hi == hi') = true := by simpa using h8
  have e9 : (fi == fi') = true := by simpa using h9
  have e10 : decide (st = st') = true := decide_eq_true h10
  have e11 : decide (tw = tw') = false := decide_eq_false h11
  clear h0 h1 h2 h3 h4 h5 h6 h7 h8 h9 h10 h11
  obtain ⟨W0, hW0⟩ : ∃ W0, W0 = (w.alloc (.cells #[.string n, .int .u32 vn, .int .u8 a, .int .u8 b, .int .u8 c, .int .u8 d, .int .u8 f, .int .u8 g, .int .u8 x, .int .u8 y, .int .u32 vt, .int .u8 a1, .int .u8 b1, .int .u8 c1, .int .u8 d1, .int .u8 f1, .int .u8 g1, .int .u8 a2, .int .u8 b2, .int .u8 c2, .int .u8 d2, .int .u8 f2, .int .u8 g2, .slice pa pn pc, .int .u16 lo, .int .u16 hi, .int .i64 fi, .slice sa sn sc, .slice qa qn qc, .int .i64 se, .int .i64 qu, .int .u32 ra, .int .u32 bu] 33)).alloc (.cells #[.string n', .int .u32 vn', .int .u8 a', .int .u8 b', .int .u8 c', .int .u8 d', .int .u8 f', .int .u8 g', .int .u8 x', .int .u8 y', .int .u32 vt', .int .u8 a1', .int .u8 b1', .int .u8 c1', .int .u8 d1', .int .u8 f1', .int .u8 g1', .int .u8 a2', .int .u8 b2', .int .u8 c2', .int .u8 d2', .int .u8 f2', .int .u8 g2', .slice pa' pn' pc', .int .u16 lo', .int .u16 hi', .int .i64 fi', .slice sa' sn' sc', .slice qa' qn' qc', .int .i64 se', .int .i64 qu', .int .u32 ra', .int .u32 bu'] 33) := ⟨_, rfl⟩
  have hB : Below w.heap.size w W0 := by rw [hW0]; exact ((Below.refl _ _).alloc (Nat.le_refl _) _).alloc (by simp) _
  have HB : Hid (∀ q, Below w.heap.size w (W0.drewN q)) := fun q => below_drewN hB q
  clear hB
  rw [e6] at CN
  rw [e10] at CP
  rw [e11] at CQ
  have HN : Hid (∀ V, Below w.heap.size w V → Calls Tryz.prog 47 #[.slice pa pn pc, .slice pa' pn' pc'] V fun e V' => e = .returned (.bool true) ∧ ∃ q, V' = V.drewN q) := CN
  have HP : Hid (∀ V, Below w.heap.size w V → Calls Tryz.prog 48 #[.slice sa sn sc, .slice sa' sn' sc'] V fun e V' => e = .returned (.bool true) ∧ ∃ q, V' = V.drewN q) := CP
  have HQ : Hid (∀ V, Below w.heap.size w V → Calls Tryz.prog 48 #[.slice qa qn qc, .slice qa' qn' qc'] V fun e V' => e = .returned (.bool false) ∧ ∃ q, V' = V.drewN q) := CQ
  clear CN CP CQ
  clear e6
  clear e10
  clear e11
  go_enter Tryz.func26, Tryz.ntmps26
  go_wp2_with fail
  refine (HN.out _ (by rw [← hW0]; exact HB.out 0)).mono ?_
  rintro e V ⟨rfl, q1, rfl⟩
  go_wp2_with fail
  refine (HP.out _ (by rw [← hW0]; exact HB.out _)).mono ?_
  rintro e V ⟨rfl, q2, rfl⟩
  go_wp2_with fail
  refine (HQ.out _ (by rw [← hW0]; exact HB.out _)).mono ?_
  rintro e V ⟨rfl, q3, rfl⟩
  go_wp2_with fail
  go_ret
  refine ⟨rfl, ?_⟩
  rw [← hW0]
  exact HB.out _
end Go.Proofs.YtngegdamcfmonaaGreat

namespace Go.Proofs.YtngegdamcfmonaaGreat
open Go.RowKit
open Sm
open Cf
set_option linter.unusedVariables false
set_option maxRecDepth 20000

/-- All but the first byte. -/
theorem sl_tail {a : Option Addr} {b : Int} {r : List Int} {c : Nat} {w : World} (hS : Sl w a (b :: r) c) : ∃ a1 c1, (∀ V, (Instr.slice 40 (.slice a (b :: r).length c) (some (.int .i64 1)) none none).run Tryz.prog V = .ok (.slice a1 r.length c1) V) ∧ Sl w a1 r c1 := by
  have hc := hS.le
  simp only [List.length_cons] at hc
  have hb := hS.big
  rcases hS.row.cells with e | ⟨b0, off, rfl, hcl⟩
  · simp at e
  · have hsz : ∀ V, (sizeOf (Tryz.prog.elem 40)).run Tryz.prog V = .ok 1 V := fun V => by kernel_rfl
    have hrun : ∀ V, (Instr.slice 40 (.slice (some ⟨b0, off, none⟩) (b :: r).length c) (some (.int .i64 1)) none none).run Tryz.prog V = .ok (sliced (some ⟨b0, off, none⟩) 1 (b :: r).length c 1) V := by
      intro V
      rw [run_slice_l (P := Tryz.prog) V 40 (some ⟨b0, off, none⟩) (b :: r).length c (by kernel_rfl) .i64 1 (by omega) (by simp only [List.length_cons]; omega), hsz]
      rfl
    by_cases h1 : c = 1
    · obtain rfl : r = [] := List.eq_nil_of_length_eq_zero (by omega)
      subst h1
      exact ⟨some ⟨b0, off, none⟩, 0, fun V => by rw [hrun]; rfl, ⟨row_empty w _, by simp, by omega, fun e => by cases e⟩⟩
    · refine ⟨some ⟨b0, off + 1, none⟩, c - 1, fun V => by rw [hrun]; simp [sliced, Addr.add, h1], ⟨?_, by omega, by omega, fun e => by cases e⟩⟩
      have := hS.row.part 1 r.length (by simp only [List.length_cons]; omega)
      simpa using this
/-- A change that all bytes are. -/
def hdec : List Int → Option Chg
  | [] => none
  | b :: r => if b = 0 then (match spN.dec r ByteArray.empty with | some (s, []) => some ⟨false, s, ten0⟩ | _ => none)
    else if b = 1 then (match tdec r with | some (t, []) => some ⟨true, t.name, t⟩ | _ => none) else none
theorem step_store_row {ops : Array Oper} {o : Oper} {a : Act} {w : World} {K : Act → World → Prop} {Q : Exit → Act → World → Prop} {E : Prop} (hgd : o.guard = none) (ty : TypeId) (x y : Operand) (ho : o.op = .store ty x y)
    (g : Nat) (cells : Array Value) (hx : a.eval x = .pointer (some ⟨g, 0, none⟩)) (hy : a.eval y = .agg cells)
    (t : TypeId) (old : Array Value) (hg : w.heap[g]? = some (.cells old t (0, 0))) (hi : (Tryz.prog.info? ty).map (·.size) = some cells.size)
    (hold : old.size = cells.size) (h1 : cells.all (·.oneCell') = true) (h : K (a.put o.dst undef) (w.setRow g cells)) :
    if Region.wanted o (yielded ops a.tmps) = true then Oper.wp Tryz.prog o a w K Q else E := by
  have hw : Region.wanted o (yielded ops a.tmps) = true := by simp [Region.wanted, hgd]
  rw [if_pos hw]
  exact wp_store_row ty x y ho g cells hx hy t old hg hi hold h1 h
theorem storeCells_row (V : World) (g : Nat) (old tl : Array Value) (t : TypeId) (hg : V.heap[g]? = some (.cells old t (0, 0))) (hs : old.size = tl.size) (h1 : tl.all (·.oneCell') = true) : (storeCells ⟨g, 0, none⟩ tl.toList).run Tryz.prog V = .ok () (V.setRow g tl) := by
  have := run_storeCells_at Tryz.prog g 0 t tl.toList 0 old V hg (by simp; omega) (fun u hu => by
    rw [Array.all_eq_true_iff_forall_mem] at h1
    exact h1 u (by simpa using hu))
  simp only [Nat.add_zero, List.take_zero, List.nil_append, Nat.zero_add, Array.length_toList] at this
  rw [List.drop_of_length_le (by simp; omega), List.append_nil] at this
  simpa using this
theorem fin_H {w : World} : ∀ x g rb z V K, JH w x g 35 [] [] V ((rb, .cells z 35 (0, 0)) :: K) → ∃ tl, V.heap[g]? = some (.cells tl 35 (0, 0)) ∧ tl.size = 35 ∧ tl.all (·.oneCell') = true ∧ V.heap[rb]? = some (.cells z 35 (0, 0)) ∧ Mem w (V.setRow rb tl) ((rb, .cells tl 35 (0, 0)) :: K) ∧ Value.agg tl = .agg (hc ⟨false, x, ten0⟩ nilV nilV nilV).toArray := by
  intro x g rb z V K h
  have h' : Mem w V ((g, .cells (hc ⟨false, x, ten0⟩ nilV nilV nilV).toArray 35 (0, 0)) :: (rb, .cells z 35 (0, 0)) :: K) := by
    have h2 : Mem w V _ := h
    simpa only [List.nil_append, List.append_nil] using h2
  exact ⟨_, h'.get 0 rfl, rfl, (by kernel_rfl), h'.get 1 rfl, h'.sub.wrote 0 rfl (wrote_setRow V rb z _ _ (h'.get 1 rfl)), rfl⟩
theorem fin_T {w : World} : ∀ x g rb z V K, JT w x g 33 [] [] V ((rb, .cells z 33 (0, 0)) :: K) → ∃ tl, V.heap[g]? = some (.cells tl 33 (0, 0)) ∧ tl.size = 33 ∧ tl.all (·.oneCell') = true ∧ V.heap[rb]? = some (.cells z 33 (0, 0)) ∧ Mem w (V.setRow rb tl) ((rb, .cells tl 33 (0, 0)) :: K) ∧ TV (V.setRow rb tl) (.agg tl) x := by
  rintro t g rb z V K ⟨hlen, hbd, hp, hs, hq, hM2⟩
  simp only [List.nil_append, List.append_nil] at hM2
  have hone := tc_one t hp hs hq (ux t.pool) (px t.stat) (px t.twi)
  obtain ⟨tl, htl⟩ : ∃ tl, (tc t (lv hp (ux t.pool)) (lv hs (px t.stat)) (lv hq (px t.twi))).toArray = tl := ⟨_, rfl⟩
  rw [htl] at hM2 hone
  have hM3 : Mem w V ((rb, .cells z 33 (0, 0)) :: (g, .cells tl 33 (0, 0)) :: (lb hp 22 (ux t.pool) ++ (lb hs 142 (px t.stat) ++ (lb hq 142 (px t.twi) ++ K)))) := hM2.perm (by
    classical
    rw [List.perm_iff_count]
    intro q
    simp only [List.count_append, List.count_cons]
    omega)
  have hg3 := hM3.get 0 rfl
  have hM4 : Mem w (V.setRow rb tl) ((rb, .cells tl 33 (0, 0)) :: (g, .cells tl 33 (0, 0)) :: (lb hp 22 (ux t.pool) ++ (lb hs 142 (px t.stat) ++ (lb hq 142 (px t.twi) ++ K)))) := hM3.wrote 0 rfl (wrote_setRow V rb z _ _ hg3)
  refine ⟨tl, hM2.get 0 rfl, by rw [← htl, List.size_toArray]; exact tc_len hlen _ _ _, hone, hg3, hM4.subl ?_, ⟨hlen, _, _, _, by rw [← htl], rw_own_U _ _ hM4.sub.sub hbd.1, rw_own_P _ _ hM4.sub.sub.dropA hbd.2.1, rw_own_P _ _ hM4.sub.sub.dropA.dropA hbd.2.2⟩⟩
  refine List.Sublist.cons_cons _ (List.Sublist.cons _ ?_)
  exact (List.sublist_append_right _ _).trans ((List.sublist_append_right _ _).trans (List.sublist_append_right _ _))
theorem st_newA (V : World) (A tl : Array Value) (hA : A.size = 33) (hs : tl.size = 33) (h1 : tl.all (·.oneCell') = true) : (storeCells ⟨V.heap.size, 0, none⟩ tl.toList).run Tryz.prog (V.alloc (.cells A 33)) = .ok () (V.alloc (.cells tl 33)) :=
  run_storeCells_new V 33 _ tl (by rw [hs]; kernel_rfl) (by rw [hs, hA]) h1
theorem st_lit (V : World) (tl : Array Value) (hs : tl.size = 33) (h1 : tl.all (·.oneCell') = true) : (storeCells ⟨V.heap.size, 0, none⟩ tl.toList).run Tryz.prog (V.alloc (.cells #[.string ⟨#[]⟩, .int .u32 0, .int .u8 0, .int .u8 0, .int .u8 0, .int .u8 0, .int .u8 0, .int .u8 0, .int .u8 0, .int .u8 0, .int .u32 0, .int .u8 0, .int .u8 0, .int .u8 0, .int .u8 0, .int .u8 0, .int .u8 0, .int .u8 0, .int .u8 0, .int .u8 0, .int .u8 0, .int .u8 0, .int .u8 0, .slice none 0 0, .int .u16 0, .int .u16 0, .int .i64 0, .slice none 0 0, .slice none 0 0, .int .i64 0, .int .i64 0, .int .u32 0, .int .u32 0] 33)) = .ok () (V.alloc (.cells tl 33)) := st_newA V _ tl rfl hs h1
theorem rw_one {V : World} {n : Nat} {p : Value} {xs : List (List Value)} (h : Rw V n p xs) : p.oneCell' = true := by
  obtain ⟨a, c, rfl, _⟩ := h; rfl
theorem tc_one2 (t : Ten) {p s q : Value} (h1 : p.oneCell' = true) (h2 : s.oneCell' = true) (h3 : q.oneCell' = true) : (tc t p s q).toArray.all (·.oneCell') = true := by
  apply all_oneCell_toArray
  intro v hv
  simp only [tc, List.mem_cons, List.mem_append, List.mem_map, List.not_mem_nil, or_false] at hv
  rcases hv with rfl | rfl | ⟨x, _, rfl⟩ | rfl | ⟨x, _, rfl⟩ | ⟨x, _, rfl⟩ | rfl | rfl | rfl | rfl | rfl | rfl | rfl | rfl | rfl | rfl <;> first | rfl | assumption
theorem build_put (t : Ten) (h : TLen t) (p s q : Value) (x : ByteArray) (V : World) : (Instr.build 35 #[(0, .bool true), (1, .string x), (2, .agg (tc t p s q).toArray)]).run Tryz.prog V = .ok (.agg (hc ⟨true, x, t⟩ p s q).toArray) V := by
  obtain ⟨n, vn, key, vt, vm, ho, po, lo, hi, fi, st, tw, se, qu, ra, bu⟩ := t
  obtain ⟨h1, h2, h3⟩ := h
  obtain ⟨a, b, c, d, f, g, x, y, rfl⟩ := eight8 h1
  obtain ⟨a1, b1, c1, d1, f1, g1, rfl⟩ := six6 h2
  obtain ⟨a2, b2, c2, d2, f2, g2, rfl⟩ := six6 h3
  kernel_rfl
theorem JT_mem {w : World} {x : Ten} {g : Nat} {V : World} {K : List (Nat × Obj)} {T : TypeId} {pre post : List Value} (h : JT w x g T pre post V K) : Mem w V K := by
  obtain ⟨h1, h2, hp, hs, hq, h3⟩ := h
  exact h3.sub.dropA.dropA.dropA
theorem build_H (V : World) : (Instr.build 35 #[]).run Tryz.prog V = .ok (.agg hz0) V := by kernel_rfl
theorem sizeH : (Tryz.prog.info? 35).map (·.size) = some 35 := by kernel_rfl
theorem hz0_one : (hz0 : Array Value).all (·.oneCell') = true := by kernel_rfl
/-- A change that stands on blocks from n on. -/
def HVs (n : Nat) (V : World) (v : Value) (h : Chg) : Prop := ∀ V' : World, (∀ b, n ≤ b → b < V.heap.size → V'.heap[b]? = V.heap[b]?) → HV V' v h
/-- What OpenChange answers. -/
def OCP (w : World) (r : Option Chg) (e : Ending) (w' : World) : Prop := Below w.heap.size w w' ∧ match r with
  | none => e = .returned (.tuple #[.agg hz0, .int .i64 70])
  | some h => ∃ v, e = .returned (.tuple #[v, .int .i64 0]) ∧ HVs w.heap.size w' v h
set_option maxHeartbeats 8000000 in
theorem openChange_no {w : World} {a : Option Addr} {l : List Int} {c : Nat} (hS : Sl w a l c) (hne : l.head? ≠ some 1) :
    Calls Tryz.prog 23 #[.slice a l.length c] w (OCP w (hdec l)) := by
  obtain ⟨g, hg⟩ : ∃ g, w.heap.size = g := ⟨_, rfl⟩
  have hM0 : Mem w (w.alloc (.cells hz0 35)) [(g, .cells hz0 35 (0, 0))] := (Mem.nil w).push1 hg.symm
  have hbt := build_H
  have hsz : (Tryz.prog.info? 35).map (·.size) = some (hz0 : Array Value).size := by kernel_rfl
  have hone := hz0_one
  have fail1 : ∀ V, Mem w V [(g, .cells hz0 35 (0, 0))] → V.heap[g]? = some (.cells hz0 35 (0, 0)) ∧ Mem w (V.setRow g hz0) [(g, .cells hz0 35 (0, 0))] := fun V hV => ⟨hV.get 0 rfl, hV.wrote 0 rfl (wrote_setRow V g _ _ _ (hV.get 0 rfl))⟩
  cases l with
  | nil =>
    obtain ⟨g0, hM1⟩ := fail1 _ hM0
    simp only [hdec]
    clear fail1 hM0
    go_enter Tryz.func23, Tryz.ntmps23
    go_wp2_with (refine wpList_store_row rfl 35 (.tmp 2) (.tmp 9) (by with_reducible rfl) g hz0 rfl rfl 35 hz0 g0 hsz rfl hone ?_)
    refine bodyPost_ret (v := .tuple #[.agg hz0, .int .i64 70]) ?_ rfl ⟨hM1.below, rfl⟩
    exact results_two' (p := 2) (q := 3) (ty := 35) rfl _ _ g _ rfl (run_loadVar_row _ _ 35 35 _ (0, 0) _ (hM1.get 0 rfl) Tryz.underlying35 rfl hsz)
  | cons b r =>
    obtain ⟨a1, c1, hsl, hS1⟩ := sl_tail hS
    have hbb : 0 ≤ b ∧ b ≤ 255 := by have := hS.row.bytes 0; simpa using this
    have hl := hS.row.len
    simp only [List.length_cons] at hl
    have hc0 : ∃ b0 off, a = some ⟨b0, off, none⟩ ∧ ∀ V, Below w.heap.size w V → V.cell? ⟨b0, off, none⟩ = some (.int .u8 b) := by
      rcases hS.row.cells with e | ⟨b0, off, e, hc⟩
      · simp at e
      · refine ⟨b0, off, e, fun V hV => ?_⟩
        have h1 := hc 0 (by simp)
        rw [hV.cell (p := ⟨b0, off, none⟩) (cell_lt h1)]
        simpa using h1
    obtain ⟨b0, off, rfl, hc0⟩ := hc0
    have hn : ((b :: r).length : Int) = (r.length : Int) + 1 := by simp
    generalize (b :: r).length = n at *
    have hn0 : ¬ ((n : Int) = 0) := by omega
    have hn1 : (0 : Int) < n := by omega
    have hn2 : 0 < n := by omega
    have hn3 : ¬ (n = 0) := by omega
    have hn4 : ((n : Int) == 0) = false := by simp; omega
    clear hn
    by_cases hb0 : b = 0
    · subst hb0
      have hCW := fun {f : Fv} {E : List (Nat × Obj)} {V : World} (hM : Mem w V (E ++ [(g, .cells hz0 35 (0, 0))])) (hF : Fd w E IH JH f spN) => whole_H (I := IH) (Q := fun x V v => v = .agg (hc ⟨false, x, ten0⟩ nilV nilV nilV).toArray) hM hF.er hF.rd hS1 ByteArray.empty (fun g V K h => by show Mem w V _; simpa only [List.nil_append, List.append_nil] using h) (fun x V K h => Mem.sub h) (fun x g rb z V K _ h => fin_H x g rb z V K h)
      obtain ⟨tl, er, hres, HCW⟩ : ∃ tl er, ((hdec (0 :: r) = none ∧ tl = hz0 ∧ er = 70) ∨ (∃ s, hdec (0 :: r) = some ⟨false, s, ten0⟩ ∧ tl = (hc ⟨false, s, ten0⟩ nilV nilV nilV).toArray ∧ er = 0)) ∧ Hid (∀ (k1 k2 k3 : Nat) (c1' c2 c3 : Array Value) (E : List (Nat × Obj)) (V : World), Mem w V (E ++ [(g, .cells hz0 35 (0, 0))]) → Fd w E IH JH ⟨k1, k2, k3, c1', c2, c3⟩ spN →
          Calls Tryz.prog 43 #[.agg #[.func (.func k1) #[] c1', .func (.func k2) #[] c2, .func (.func k3) #[] c3], .slice a1 r.length c1] V fun e W' => e = .returned (.tuple #[.agg tl, .int .i64 er]) ∧ Mem w W' (E ++ [(g, .cells hz0 35 (0, 0))])) := by
        cases hd : spN.dec r ByteArray.empty with
        | none =>
          refine ⟨hz0, 70, Or.inl ⟨by simp [hdec, hd], rfl, rfl⟩, fun k1 k2 k3 c1' c2 c3 E V hM hF => ?_⟩
          have := hCW hM hF
          rw [hd] at this
          exact this.mono (fun e W' h => ⟨h.2, h.1⟩)
        | some x =>
          obtain ⟨s, l'⟩ := x
          cases l' with
          | nil =>
            refine ⟨_, 0, Or.inr ⟨s, by simp [hdec, hd], rfl, rfl⟩, fun k1 k2 k3 c1' c2 c3 E V hM hF => ?_⟩
            have := hCW hM hF
            rw [hd] at this
            refine this.mono ?_
            rintro e W' ⟨h1, v, h2, rfl⟩
            exact ⟨h2, h1⟩
          | cons x xs =>
            refine ⟨hz0, 70, Or.inl ⟨by simp [hdec, hd], rfl, rfl⟩, fun k1 k2 k3 c1' c2 c3 E V hM hF => ?_⟩
            have := hCW hM hF
            rw [hd] at this
            exact this.mono (fun e W' h => ⟨h.2, h.1⟩)
      have htl : tl.size = 35 ∧ tl.all (·.oneCell') = true := by
        rcases hres with ⟨-, rfl, -⟩ | ⟨s, -, rfl, -⟩
        · exact ⟨rfl, hone⟩
        · exact ⟨rfl, by kernel_rfl⟩
      obtain ⟨htl, hto⟩ := htl
      have FIN : Hid (∀ V', Below w.heap.size w V' → OCP w (hdec (0 :: r)) (.returned (.tuple #[.agg tl, .int .i64 er])) V') := by
        intro V' hV'
        refine ⟨hV', ?_⟩
        rcases hres with ⟨e1, rfl, rfl⟩ | ⟨s, e1, rfl, rfl⟩
        · rw [e1]
        · rw [e1]
          refine ⟨_, rfl, fun _ _ => ⟨ten0_len, nilV, nilV, nilV, rfl, ⟨none, 0, rfl, Nat.le_refl _, by omega, fun _ => rfl, Or.inl rfl⟩, ⟨none, 0, rfl, Nat.le_refl _, by omega, fun _ => rfl, Or.inl rfl⟩, ⟨none, 0, rfl, Nat.le_refl _, by omega, fun _ => rfl, Or.inl rfl⟩⟩⟩
      obtain ⟨R, hR⟩ : ∃ R, hdec (0 :: r) = R := ⟨_, rfl⟩
      rw [hR] at FIN ⊢
      have hi35 : (Tryz.prog.info? 35).map (·.size) = some tl.size := by rw [htl]; kernel_rfl
      clear hCW hres hR fail1 hS hS1
      go_enter Tryz.func23, Tryz.ntmps23
      go_upto_region 1 with fail
      refine wp_letter (fun V => Mem w V [(g, .cells hz0 35 (0, 0))]) hM0 ?_
      intro V0 hV0
      have d0 := hc0 _ hV0.below
      have C := changeName_any hV0.drew
      clear hM0 hc0 hV0
      go_upto_region 5 with fail
      go_region_held3 (fun _ => True) (trivial)
        (first | (go_at_call 34; refine C.mono ?_; rintro e V ⟨⟨k1, k2, k3, q1, q2, q3⟩, E, rfl, hM, hF⟩; simp only [Fv.val]) | (go_at_call 43; refine (HCW.out _ _ _ _ _ _ _ _ hM hF).mono ?_; rintro e V2 ⟨rfl, hM2⟩; have hg2 := storeCells_row V2 g hz0 tl _ ((hM2.perm List.perm_append_comm).get 0 rfl) (by rw [htl]; rfl) hto))
      have hM3 : Mem w (V2.setRow g tl) ((g, .cells tl 35 (0, 0)) :: E) := (hM2.perm List.perm_append_comm).wrote 0 rfl (wrote_setRow V2 g _ _ _ ((hM2.perm List.perm_append_comm).get 0 rfl))
      clear C HCW hM2 hF hM
      go_wp2_with fail
      refine bodyPost_ret (v := .tuple #[.agg tl, .int .i64 er]) ?_ rfl (FIN.out _ hM3.below)
      exact results_two' (p := 2) (q := 3) (ty := 35) rfl _ _ g _ rfl (run_loadVar_row _ _ 35 35 _ (0, 0) _ (hM3.get 0 rfl) Tryz.underlying35 rfl hi35)
    · have hb1 : ¬ b = 1 := fun e => hne (by rw [e]; rfl)
      have hd : hdec (b :: r) = none := by simp [hdec, hb0, hb1]
      rw [hd]
      have e0 : (b == 0) = false := by simpa using hb0
      have e1 : (b == 1) = false := by simpa using hb1
      clear hS hS1 hsl hd
      go_enter Tryz.func23, Tryz.ntmps23
      go_upto_region 1 with fail
      refine wp_letter (fun V => Mem w V [(g, .cells hz0 35 (0, 0))]) hM0 ?_
      intro V0 hV0
      have d0 := hc0 _ hV0.below
      obtain ⟨g0, hM1⟩ := fail1 _ hV0
      clear hM0 hc0 hV0 fail1
      go_wp2_with (refine wpList_store_row rfl 35 (.tmp 2) (.tmp 38) (by with_reducible rfl) g hz0 rfl rfl 35 hz0 g0 hsz rfl hone ?_)
      refine bodyPost_ret (v := .tuple #[.agg hz0, .int .i64 70]) ?_ rfl ⟨hM1.below, rfl⟩
      exact results_two' (p := 2) (q := 3) (ty := 35) rfl _ _ g _ rfl (run_loadVar_row _ _ 35 35 _ (0, 0) _ (hM1.get 0 rfl) Tryz.underlying35 rfl hsz)
end Go.Proofs.YtngegdamcfmonaaGreat

