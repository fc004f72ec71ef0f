/-
  Settings held against one another: lychhelp.Tenant, at any two tenants.
  Settings held against one another: lychhelp.Tenant, at any two tenants.
  Settings as bytes: the document's own reader: tenant.
-/
import Derived.Test.YtngegdamcfmonaaGreatM27
import Derived.Test.YtngegdamcfmonaaGreatM23
namespace Go.Proofs.YtngegdamcfmonaaGreat
open Go.RowKit
open Sm
open Cf
set_option linter.unusedVariables false
set_option maxRecDepth 20000

set_option maxHeartbeats 8000000 in
theorem ht_6 {w : World} {vn a b c d f g x y vt a1 b1 c1 d1 f1 g1 a2 b2 c2 d2 f2 g2 lo hi fi se qu ra bu vn' a' b' c' d' f' g' x' y' vt' a1' b1' c1' d1' f1' g1' a2' b2' c2' d2' f2' g2' lo' hi' fi' se' qu' ra' bu' : Int} {n n' : ByteArray} {po po' : List Int} {st tw st' tw' : List (Int × Int)} {pa sa qa pa' sa' qa' : Option Addr} {pn pc sn sc qn qc pn' pc' sn' sc' qn' qc' : Nat}
    (h0 : (sb n = sb n'))
    (h1 : (vn = vn'))
    (h2 : ([a, b, c, d, f, g, x, y] = [a', b', c', d', f', g', x', y']))
    (h3 : (vt = vt'))
    (h4 : ([a1, b1, c1, d1, f1, g1] = [a1', b1', c1', d1', f1', g1']))
    (h5 : ([a2, b2, c2, d2, f2, g2] = [a2', b2', c2', d2', f2', g2']))
    (h6 : ¬ (po = po'))
    (CN : ∀ V, Below w.heap.size w V → Calls Tryz.prog 47 #[.slice pa pn pc, .slice pa' pn' pc'] V fun e V' => e = .returned (.bool (decide (po = po'))) ∧ ∃ q, V' = V.drewN q)
    (CP : ∀ V, Below w.heap.size w V → Calls Tryz.prog 48 #[.slice sa sn sc, .slice sa' sn' sc'] V fun e V' => e = .returned (.bool (decide (st = st'))) ∧ ∃ q, V' = V.drewN q)
    (CQ : ∀ V, Below w.heap.size w V → Calls Tryz.prog 48 #[.slice qa qn qc, .slice qa' qn' qc'] V fun e V' => e = .returned (.bool (decide (tw = tw'))) ∧ ∃ q, V' = V.drewN q)
    : Calls Tryz.prog 26 #[.agg #[.string n, .int .u32 vn, .int .u8 a, .int .u8 b, .int .u8 c, .int .u8 d, .int .u8 f, .int .u8 g, .int .u8 x, .int .u8 y, .int .u32 vt, .int .u8 a1, .int .u8 b1, .int .u8 c1, .int .u8 d1, .int .u8 f1, .int .u8 g1, .int .u8 a2, .int .u8 b2, .int .u8 c2, .int .u8 d2, .int .u8 f2, .int .u8 g2, .slice pa pn pc, .int .u16 lo, .int .u16 hi, .int .i64 fi, .slice sa sn sc, .slice qa qn qc, .int .i64 se, .int .i64 qu, .int .u32 ra, .int .u32 bu], .agg #[.string n', .int .u32 vn', .int .u8 a', .int .u8 b', .int .u8 c', .int .u8 d', .int .u8 f', .int .u8 g', .int .u8 x', .int .u8 y', .int .u32 vt', .int .u8 a1', .int .u8 b1', .int .u8 c1', .int .u8 d1', .int .u8 f1', .int .u8 g1', .int .u8 a2', .int .u8 b2', .int .u8 c2', .int .u8 d2', .int .u8 f2', .int .u8 g2', .slice pa' pn' pc', .int .u16 lo', .int .u16 hi', .int .i64 fi', .slice sa' sn' sc', .slice qa' qn' qc', .int .i64 se', .int .i64 qu', .int .u32 ra', .int .u32 bu']] w fun e w' => e = .returned (.bool false) ∧ Below w.heap.size w w' := by
  have e0 : (n.toList == n'.toList) = true := by rw [text_same]; exact decide_eq_true h0
  have e1 : (vn == vn') = true := by simpa using h1
  have e2 : ∀ V, (Op.equalIn 10000 25 (.agg #[.int .u8 a, .int .u8 b, .int .u8 c, .int .u8 d, .int .u8 f, .int .u8 g, .int .u8 x, .int .u8 y]) (.agg #[.int .u8 a', .int .u8 b', .int .u8 c', .int .u8 d', .int .u8 f', .int .u8 g', .int .u8 x', .int .u8 y'])).run Tryz.prog V = .ok true V := fun V => by rw [key_eq]; rw [decide_eq_true h2]
  have e3 : (vt == vt') = true := by simpa using h3
  have e4 : ∀ V, (Op.equalIn 10000 24 (.agg #[.int .u8 a1, .int .u8 b1, .int .u8 c1, .int .u8 d1, .int .u8 f1, .int .u8 g1]) (.agg #[.int .u8 a1', .int .u8 b1', .int .u8 c1', .int .u8 d1', .int .u8 f1', .int .u8 g1'])).run Tryz.prog V = .ok true V := fun V => by rw [mac_eq6]; rw [decide_eq_true h4]
  have e5 : ∀ V, (Op.equalIn 10000 24 (.agg #[.int .u8 a2, .int .u8 b2, .int .u8 c2, .int .u8 d2, .int .u8 f2, .int .u8 g2]) (.agg #[.int .u8 a2', .int .u8 b2', .int .u8 c2', .int .u8 d2', .int .u8 f2', .int .u8 g2'])).run Tryz.prog V = .ok true V := fun V => by rw [mac_eq6]; rw [decide_eq_true h5]
  have e6 : decide (po = po') = false := decide_eq_false h6
  clear h0 h1 h2 h3 h4 h5 h6
  obtain ⟨W0, hW0⟩ : ∃ W0, W0 = (w.alloc (.cells #[.string n, .int .u32 vn, .int .u8 a, .int .u8 b, .int .u8 c, .int .u8 d, .int .u8 f, .int .u8 g, .int .u8 x, .int .u8 y, .int .u32 vt, .int .u8 a1, .int .u8 b1, .int .u8 c1, .int .u8 d1, .int .u8 f1, .int .u8 g1, .int .u8 a2, .int .u8 b2, .int .u8 c2, .int .u8 d2, .int .u8 f2, .int .u8 g2, .slice pa pn pc, .int .u16 lo, .int .u16 hi, .int .i64 fi, .slice sa sn sc, .slice qa qn qc, .int .i64 se, .int .i64 qu, .int .u32 ra, .int .u32 bu] 33)).alloc (.cells #[.string n', .int .u32 vn', .int .u8 a', .int .u8 b', .int .u8 c', .int .u8 d', .int .u8 f', .int .u8 g', .int .u8 x', .int .u8 y', .int .u32 vt', .int .u8 a1', .int .u8 b1', .int .u8 c1', .int .u8 d1', .int .u8 f1', .int .u8 g1', .int .u8 a2', .int .u8 b2', .int .u8 c2', .int .u8 d2', .int .u8 f2', .int .u8 g2', .slice pa' pn' pc', .int .u16 lo', .int .u16 hi', .int .i64 fi', .slice sa' sn' sc', .slice qa' qn' qc', .int .i64 se', .int .i64 qu', .int .u32 ra', .int .u32 bu'] 33) := ⟨_, rfl⟩
  have hB : Below w.heap.size w W0 := by rw [hW0]; exact ((Below.refl _ _).alloc (Nat.le_refl _) _).alloc (by simp) _
  have HB : Hid (∀ q, Below w.heap.size w (W0.drewN q)) := fun q => below_drewN hB q
  clear hB
  rw [e6] at CN
  have HN : Hid (∀ V, Below w.heap.size w V → Calls Tryz.prog 47 #[.slice pa pn pc, .slice pa' pn' pc'] V fun e V' => e = .returned (.bool false) ∧ ∃ q, V' = V.drewN q) := CN
  clear CN CP CQ
  clear e6
  go_enter Tryz.func26, Tryz.ntmps26
  go_wp2_with fail
  refine (HN.out _ (by rw [← hW0]; exact HB.out 0)).mono ?_
  rintro e V ⟨rfl, q1, rfl⟩
  go_wp2_with fail
  go_ret
  refine ⟨rfl, ?_⟩
  rw [← hW0]
  exact HB.out _
set_option maxHeartbeats 8000000 in
theorem ht_7 {w : World} {vn a b c d f g x y vt a1 b1 c1 d1 f1 g1 a2 b2 c2 d2 f2 g2 lo hi fi se qu ra bu vn' a' b' c' d' f' g' x' y' vt' a1' b1' c1' d1' f1' g1' a2' b2' c2' d2' f2' g2' lo' hi' fi' se' qu' ra' bu' : Int} {n n' : ByteArray} {po po' : List Int} {st tw st' tw' : List (Int × Int)} {pa sa qa pa' sa' qa' : Option Addr} {pn pc sn sc qn qc pn' pc' sn' sc' qn' qc' : Nat}
    (h0 : (sb n = sb n'))
    (h1 : (vn = vn'))
    (h2 : ([a, b, c, d, f, g, x, y] = [a', b', c', d', f', g', x', y']))
    (h3 : (vt = vt'))
    (h4 : ([a1, b1, c1, d1, f1, g1] = [a1', b1', c1', d1', f1', g1']))
    (h5 : ([a2, b2, c2, d2, f2, g2] = [a2', b2', c2', d2', f2', g2']))
    (h6 : (po = po'))
    (h7 : ¬ (lo = lo'))
    (CN : ∀ V, Below w.heap.size w V → Calls Tryz.prog 47 #[.slice pa pn pc, .slice pa' pn' pc'] V fun e V' => e = .returned (.bool (decide (po = po'))) ∧ ∃ q, V' = V.drewN q)
    (CP : ∀ V, Below w.heap.size w V → Calls Tryz.prog 48 #[.slice sa sn sc, .slice sa' sn' sc'] V fun e V' => e = .returned (.bool (decide (st = st'))) ∧ ∃ q, V' = V.drewN q)
    (CQ : ∀ V, Below w.heap.size w V → Calls Tryz.prog 48 #[.slice qa qn qc, .slice qa' qn' qc'] V fun e V' => e = .returned (.bool (decide (tw = tw'))) ∧ ∃ q, V' = V.drewN q)
    : Calls Tryz.prog 26 #[.agg #[.string n, .int .u32 vn, .int .u8 a, .int .u8 b, .int .u8 c, .int .u8 d, .int .u8 f, .int .u8 g, .int .u8 x, .int .u8 y, .int .u32 vt, .int .u8 a1, .int .u8 b1, .int .u8 c1, .int .u8 d1, .int .u8 f1, .int .u8 g1, .int .u8 a2, .int .u8 b2, .int .u8 c2, .int .u8 d2, .int .u8 f2, .int .u8 g2, .slice pa pn pc, .int .u16 lo, .int .u16 hi, .int .i64 fi, .slice sa sn sc, .slice qa qn qc, .int .i64 se, .int .i64 qu, .int .u32 ra, .int .u32 bu], .agg #[.string n', .int .u32 vn', .int .u8 a', .int .u8 b', .int .u8 c', .int .u8 d', .int .u8 f', .int .u8 g', .int .u8 x', .int .u8 y', .int .u32 vt', .int .u8 a1', .int .u8 b1', .int .u8 c1', .int .u8 d1', .int .u8 f1', .int .u8 g1', .int .u8 a2', .int .u8 b2', .int .u8 c2', .int .u8 d2', .int .u8 f2', .int .u8 g2', .slice pa' pn' pc', .int .u16 lo', .int .u16 hi', .int .i64 fi', .slice sa' sn' sc', .slice qa' qn' qc', .int .i64 se', .int .i64 qu', .int .u32 ra', .int .u32 bu']] w fun e w' => e = .returned (.bool false) ∧ Below w.heap.size w w' := by
  have e0 : (n.toList == n'.toList) = true := by rw [text_same]; exact decide_eq_true h0
  have e1 : (vn == vn') = true := by simpa using h1
  have e2 : ∀ V, (Op.equalIn 10000 25 (.agg #[.int .u8 a, .int .u8 b, .int .u8 c, .int .u8 d, .int .u8 f, .int .u8 g, .int .u8 x, .int .u8 y]) (.agg #[.int .u8 a', .int .u8 b', .int .u8 c', .int .u8 d', .int .u8 f', .int .u8 g', .int .u8 x', .int .u8 y'])).run Tryz.prog V = .ok true V := fun V => by rw [key_eq]; rw [decide_eq_true h2]
  have e3 : (vt == vt') = true := by simpa using h3
  have e4 : ∀ V, (Op.equalIn 10000 24 (.agg #[.int .u8 a1, .int .u8 b1, .int .u8 c1, .int .u8 d1, .int .u8 f1, .int .u8 g1]) (.agg #[.int .u8 a1', .int .u8 b1', .int .u8 c1', .int .u8 d1', .int .u8 f1', .int .u8 g1'])).run Tryz.prog V = .ok true V := fun V => by rw [mac_eq6]; rw [decide_eq_true h4]
  have e5 : ∀ V, (Op.equalIn 10000 24 (.agg #[.int .u8 a2, .int .u8 b2, .int .u8 c2, .int .u8 d2, .int .u8 f2, .int .u8 g2]) (.agg #[.int .u8 a2', .int .u8 b2', .int .u8 c2', .int .u8 d2', .int .u8 f2', .int .u8 g2'])).run Tryz.prog V = .ok true V := fun V => by rw [mac_eq6]; rw [decide_eq_true h5]
  have e6 : decide (po = po') = true := decide_eq_true h6
  have e7 : (lo == lo') = false := by simpa using h7
  clear h0 h1 h2 h3 h4 h5 h6 h7
  obtain ⟨W0, hW0⟩ : ∃ W0, W0 = (w.alloc (.cells #[.string n, .int .u32 vn, .int .u8 a, .int .u8 b, .int .u8 c, .int .u8 d, .int .u8 f, .int .u8 g, .int .u8 x, .int .u8 y, .int .u32 vt, .int .u8 a1, .int .u8 b1, .int .u8 c1, .int .u8 d1, .int .u8 f1, .int .u8 g1, .int .u8 a2, .int .u8 b2, .int .u8 c2, .int .u8 d2, .int .u8 f2, .int .u8 g2, .slice pa pn pc, .int .u16 lo, .int .u16 hi, .int .i64 fi, .slice sa sn sc, .slice qa qn qc, .int .i64 se, .int .i64 qu, .int .u32 ra, .int .u32 bu] 33)).alloc (.cells #[.string n', .int .u32 vn', .int .u8 a', .int .u8 b', .int .u8 c', .int .u8 d', .int .u8 f', .int .u8 g', .int .u8 x', .int .u8 y', .int .u32 vt', .int .u8 a1', .int .u8 b1', .int .u8 c1', .int .u8 d1', .int .u8 f1', .int .u8 g1', .int .u8 a2', .int .u8 b2', .int .u8 c2', .int .u8 d2', .int .u8 f2', .int .u8 g2', .slice pa' pn' pc', .int .u16 lo', .int .u16 hi', .int .i64 fi', .slice sa' sn' sc', .slice qa' qn' qc', .int .i64 se', .int .i64 qu', .int .u32 ra', .int .u32 bu'] 33) := ⟨_, rfl⟩
  have hB : Below w.heap.size w W0 := by rw [hW0]; exact ((Below.refl _ _).alloc (Nat.le_refl _) _).alloc (by simp) _
  have HB : Hid (∀ q, Below w.heap.size w (W0.drewN q)) := fun q => below_drewN hB q
  clear hB
  rw [e6] at CN
  have HN : Hid (∀ V, Below w.heap.size w V → Calls Tryz.prog 47 #[.slice pa pn pc, .slice pa' pn' pc'] V fun e V' => e = .returned (.bool true) ∧ ∃ q, V' = V.drewN q) := CN
  clear CN CP CQ
  clear e6
  go_enter Tryz.func26, Tryz.ntmps26
  go_wp2_with fail
  refine (HN.out _ (by rw [← hW0]; exact HB.out 0)).mono ?_
  rintro e V ⟨rfl, q1, rfl⟩
  go_wp2_with fail
  go_ret
  refine ⟨rfl, ?_⟩
  rw [← hW0]
  exact HB.out _
end Go.Proofs.YtngegdamcfmonaaGreat

namespace Go.Proofs.YtngegdamcfmonaaGreat
open Go.RowKit
open Sm
open Cf
set_option linter.unusedVariables false
set_option maxRecDepth 20000

set_option maxHeartbeats 8000000 in
theorem ht_12 {w : World} {vn a b c d f g x y vt a1 b1 c1 d1 f1 g1 a2 b2 c2 d2 f2 g2 lo hi fi se qu ra bu vn' a' b' c' d' f' g' x' y' vt' a1' b1' c1' d1' f1' g1' a2' b2' c2' d2' f2' g2' lo' hi' fi' se' qu' ra' bu' : Int} {n n' : ByteArray} {po po' : List Int} {st tw st' tw' : List (Int × Int)} {pa sa qa pa' sa' qa' : Option Addr} {pn pc sn sc qn qc pn' pc' sn' sc' qn' qc' : Nat}
    (h0 : (sb n = sb n'))
    (h1 : (vn = vn'))
    (h2 : ([a, b, c, d, f, g, x, y] = [a', b', c', d', f', g', x', y']))
    (h3 : (vt = vt'))
    (h4 : ([a1, b1, c1, d1, f1, g1] = [a1', b1', c1', d1', f1', g1']))
    (h5 : ([a2, b2, c2, d2, f2, g2] = [a2', b2', c2', d2', f2', g2']))
    (h6 : (po = po'))
    (h7 : (lo = lo'))
    (h8 : (hi = hi'))
    (h9 : (fi = fi'))
    (h10 : (st = st'))
    (h11 : (tw = tw'))
    (h12 : ¬ (se = se'))
    (CN : ∀ V, Below w.heap.size w V → Calls Tryz.prog 47 #[.slice pa pn pc, .slice pa' pn' pc'] V fun e V' => e = .returned (.bool (decide (po = po'))) ∧ ∃ q, V' = V.drewN q)
    (CP : ∀ V, Below w.heap.size w V → Calls Tryz.prog 48 #[.slice sa sn sc, .slice sa' sn' sc'] V fun e V' => e = .returned (.bool (decide (st = st'))) ∧ ∃ q, V' = V.drewN q)
    (CQ : ∀ V, Below w.heap.size w V → Calls Tryz.prog 48 #[.slice qa qn qc, .slice qa' qn' qc'] V fun e V' => e = .returned (.bool (decide (tw = tw'))) ∧ ∃ q, V' = V.drewN q)
    : Calls Tryz.prog 26 #[.agg #[.string n, .int .u32 vn, .int .u8 a, .int .u8 b, .int .u8 c, .int .u8 d, .int .u8 f, .int .u8 g, .int .u8 x, .int .u8 y, .int .u32 vt, .int .u8 a1, .int .u8 b1, .int .u8 c1, .int .u8 d1, .int .u8 f1, .int .u8 g1, .int .u8 a2, .int .u8 b2, .int .u8 c2, .int .u8 d2, .int .u8 f2, .int .u8 g2, .slice pa pn pc, .int .u16 lo, .int .u16 hi, .int .i64 fi, .slice sa sn sc, .slice qa qn qc, .int .i64 se, .int .i64 qu, .int .u32 ra, .int .u32 bu], .agg #[.string n', .int .u32 vn', .int .u8 a', .int .u8 b', .int .u8 c', .int .u8 d', .int .u8 f', .int .u8 g', .int .u8 x', .int .u8 y', .int .u32 vt', .int .u8 a1', .int .u8 b1', .int .u8 c1', .int .u8 d1', .int .u8 f1', .int .u8 g1', .int .u8 a2', .int .u8 b2', .int .u8 c2', .int .u8 d2', .int .u8 f2', .int .u8 g2', .slice pa' pn' pc', .int .u16 lo', .int .u16 hi', .int .i64 fi', .slice sa' sn' sc', .slice qa' qn' qc', .int .i64 se', .int .i64 qu', .int .u32 ra', .int .u32 bu']] w fun e w' => e = .returned (.bool false) ∧ Below w.heap.size w w' := by
  have e0 : (n.toList == n'.toList) = true := by rw [text_same]; exact decide_eq_true h0
  have e1 : (vn == vn') = true := by simpa using h1
  have e2 : ∀ V, (Op.equalIn 10000 25 (.agg #[.int .u8 a, .int .u8 b, .int .u8 c, .int .u8 d, .int .u8 f, .int .u8 g, .int .u8 x, .int .u8 y]) (.agg #[.int .u8 a', .int .u8 b', .int .u8 c', .int .u8 d', .int .u8 f', .int .u8 g', .int .u8 x', .int .u8 y'])).run Tryz.prog V = .ok true V := fun V => by rw [key_eq]; rw [decide_eq_true h2]
  have e3 : (vt == vt') = true := by simpa using h3
  have e4 : ∀ V, (Op.equalIn 10000 24 (.agg #[.int .u8 a1, .int .u8 b1, .int .u8 c1, .int .u8 d1, .int .u8 f1, .int .u8 g1]) (.agg #[.int .u8 a1', .int .u8 b1', .int .u8 c1', .int .u8 d1', .int .u8 f1', .int .u8 g1'])).run Tryz.prog V = .ok true V := fun V => by rw [mac_eq6]; rw [decide_eq_true h4]
  have e5 : ∀ V, (Op.equalIn 10000 24 (.agg #[.int .u8 a2, .int .u8 b2, .int .u8 c2, .int .u8 d2, .int .u8 f2, .int .u8 g2]) (.agg #[.int .u8 a2', .int .u8 b2', .int .u8 c2', .int .u8 d2', .int .u8 f2', .int .u8 g2'])).run Tryz.prog V = .ok true V := fun V => by rw [mac_eq6]; rw [decide_eq_true h5]
  have e6 : decide (po = po') = true := decide_eq_true h6
  have e7 : (lo == lo') = true := by simpa using h7
  have e8 : (hi == hi') = true := by simpa using h8
  have e9 : (fi == fi') = true := by simpa using h9
  have e10 : decide (st = st') = true := decide_eq_true h10
  have e11 : decide (tw = tw') = true := decide_eq_true h11
  have e12 : (se == se') = false := by simpa using h12
  clear h0 h1 h2 h3 h4 h5 h6 h7 h8 h9 h10 h11 h12
  obtain ⟨W0, hW0⟩ : ∃ W0, W0 = (w.alloc (.cells #[.string n, .int .u32 vn, .int .u8 a, .int .u8 b, .int .u8 c, .int .u8 d, .int .u8 f, .int .u8 g, .int .u8 x, .int .u8 y, .int .u32 vt, .int .u8 a1, .int .u8 b1, .int .u8 c1, .int .u8 d1, .int .u8 f1, .int .u8 g1, .int .u8 a2, .int .u8 b2, .int .u8 c2, .int .u8 d2, .int .u8 f2, .int .u8 g2, .slice pa pn pc, .int .u16 lo, .int .u16 hi, .int .i64 fi, .slice sa sn sc, .slice qa qn qc, .int .i64 se, .int .i64 qu, .int .u32 ra, .int .u32 bu] 33)).alloc (.cells #[.string n', .int .u32 vn', .int .u8 a', .int .u8 b', .int .u8 c', .int .u8 d', .int .u8 f', .int .u8 g', .int .u8 x', .int .u8 y', .int .u32 vt', .int .u8 a1', .int .u8 b1', .int .u8 c1', .int .u8 d1', .int .u8 f1', .int .u8 g1', .int .u8 a2', .int .u8 b2', .int .u8 c2', .int .u8 d2', .int .u8 f2', .int .u8 g2', .slice pa' pn' pc', .int .u16 lo', .int .u16 hi', .int .i64 fi', .slice sa' sn' sc', .slice qa' qn' qc', .int .i64 se', .int .i64 qu', .int .u32 ra', .int .u32 bu'] 33) := ⟨_, rfl⟩
  have hB : Below w.heap.size w W0 := by rw [hW0]; exact ((Below.refl _ _).alloc (Nat.le_refl _) _).alloc (by simp) _
  have HB : Hid (∀ q, Below w.heap.size w (W0.drewN q)) := fun q => below_drewN hB q
  clear hB
  rw [e6] at CN
  rw [e10] at CP
  rw [e11] at CQ
  have HN : Hid (∀ V, Below w.heap.size w V → Calls Tryz.prog 47 #[.slice pa pn pc, .slice pa' pn' pc'] V fun e V' => e = .returned (.bool true) ∧ ∃ q, V' = V.drewN q) := CN
  have HP : Hid (∀ V, Below w.heap.size w V → Calls Tryz.prog 48 #[.slice sa sn sc, .slice sa' sn' sc'] V fun e V' => e = .returned (.bool true) ∧ ∃ q, V' = V.drewN q) := CP
  have HQ : Hid (∀ V, Below w.heap.size w V → Calls Tryz.prog 48 #[.slice qa qn qc, .slice qa' qn' qc'] V fun e V' => e = .returned (.bool true) ∧ ∃ q, V' = V.drewN q) := CQ
  clear CN CP CQ
  clear e6
  clear e10
  clear e11
  go_enter Tryz.func26, Tryz.ntmps26
  go_wp2_with fail
  refine (HN.out _ (by rw [← hW0]; exact HB.out 0)).mono ?_
  rintro e V ⟨rfl, q1, rfl⟩
  go_wp2_with fail
  refine (HP.out _ (by rw [← hW0]; exact HB.out _)).mono ?_
  rintro e V ⟨rfl, q2, rfl⟩
  go_wp2_with fail
  refine (HQ.out _ (by rw [← hW0]; exact HB.out _)).mono ?_
  rintro e V ⟨rfl, q3, rfl⟩
  go_wp2_with fail
  go_ret
  refine ⟨rfl, ?_⟩
  rw [← hW0]
  exact HB.out _
set_option maxHeartbeats 8000000 in
theorem ht_13 {w : World} {vn a b c d f g x y vt a1 b1 c1 d1 f1 g1 a2 b2 c2 d2 f2 g2 lo hi fi se qu ra bu vn' a' b' c' d' f' g' x' y' vt' a1' b1' c1' d1' f1' g1' a2' b2' c2' d2' f2' g2' lo' hi' fi' se' qu' ra' bu' : Int} {n n' : ByteArray} {po po' : List Int} {st tw st' tw' : List (Int × Int)} {pa sa qa pa' sa' qa' : Option Addr} {pn pc sn sc qn qc pn' pc' sn' sc' qn' qc' : Nat}
    (h0 : (sb n = sb n'))
    (h1 : (vn = vn'))
    (h2 : ([a, b, c, d, f, g, x, y] = [a', b', c', d', f', g', x', y']))
    (h3 : (vt = vt'))
    (h4 : ([a1, b1, c1, d1, f1, g1] = [a1', b1', c1', d1', f1', g1']))
    (h5 : ([a2, b2, c2, d2, f2, g2] = [a2', b2', c2', d2', f2', g2']))
    (h6 : (po = po'))
    (h7 : (lo = lo'))
    (h8 : (hi = hi'))
    (h9 : (fi = fi'))
    (h10 : (st = st'))
    (h11 : (tw = tw'))
    (h12 : (se = se'))
    (h13 : ¬ (qu = qu'))
    (CN : ∀ V, Below w.heap.size w V → Calls Tryz.prog 47 #[.slice pa pn pc, .slice pa' pn' pc'] V fun e V' => e = .returned (.bool (decide (po = po'))) ∧ ∃ q, V' = V.drewN q)
    (CP : ∀ V, Below w.heap.size w V → Calls Tryz.prog 48 #[.slice sa sn sc, .slice sa' sn' sc'] V fun e V' => e = .returned (.bool (decide (st = st'))) ∧ ∃ q, V' = V.drewN q)
    (CQ : ∀ V, Below w.heap.size w V → Calls Tryz.prog 48 #[.slice qa qn qc, .slice qa' qn' qc'] V fun e V' => e = .returned (.bool (decide (tw = tw'))) ∧ ∃ q, V' = V.drewN q)
    : Calls Tryz.prog 26 #[.agg #[.string n, .int .u32 vn, .int .u8 a, .int .u8 b, .int .u8 c, .int .u8 d, .int .u8 f, .int .u8 g, .int .u8 x, .int .u8 y, .int .u32 vt, .int .u8 a1, .int .u8 b1, .int .u8 c1, .int .u8 d1, .int .u8 f1, .int .u8 g1, .int .u8 a2, .int .u8 b2, .int .u8 c2, .int .u8 d2, .int .u8 f2, .int .u8 g2, .slice pa pn pc, .int .u16 lo, .int .u16 hi, .int .i64 fi, .slice sa sn sc, .slice qa qn qc, .int .i64 se, .int .i64 qu, .int .u32 ra, .int .u32 bu], .agg #[.string n', .int .u32 vn', .int .u8 a', .int .u8 b', .int .u8 c', .int .u8 d', .int .u8 f', .int .u8 g', .int .u8 x', .int .u8 y', .int .u32 vt', .int .u8 a1', .int .u8 b1', .int .u8 c1', .int .u8 d1', .int .u8 f1', .int .u8 g1', .int .u8 a2', .int .u8 b2', .int .u8 c2', .int .u8 d2', .int .u8 f2', .int .u8 g2', .slice pa' pn' pc', .int .u16 lo', .int .u16 hi', .int .i64 fi', .slice sa' sn' sc', .slice qa' qn' qc', .int .i64 se', .int .i64 qu', .int .u32 ra', .int .u32 bu']] w fun e w' => e = .returned (.bool false) ∧ Below w.heap.size w w' := by
  have e0 : (n.toList == n'.toList) = true := by rw [text_same]; exact decide_eq_true h0
  have e1 : (vn == vn') = true := by simpa using h1
  have e2 : ∀ V, (Op.equalIn 10000 25 (.agg #[.int .u8 a, .int .u8 b, .int .u8 c, .int .u8 d, .int .u8 f, .int .u8 g, .int .u8 x, .int .u8 y]) (.agg #[.int .u8 a', .int .u8 b', .int .u8 c', .int .u8 d', .int .u8 f', .int .u8 g', .int .u8 x', .int .u8 y'])).run Tryz.prog V = .ok true V := fun V => by rw [key_eq]; rw [decide_eq_true h2]
  have e3 : (vt == vt') = true := by simpa using h3
  have e4 : ∀ V, (Op.equalIn 10000 24 (.agg #[.int .u8 a1, .int .u8 b1, .int .u8 c1, .int .u8 d1, .int .u8 f1, .int .u8 g1]) (.agg #[.int .u8 a1', .int .u8 b1', .int .u8 c1', .int .u8 d1', .int .u8 f1', .int .u8 g1'])).run Tryz.prog V = .ok true V := fun V => by rw [mac_eq6]; rw [decide_eq_true h4]
  have e5 : ∀ V, (Op.equalIn 10000 24 (.agg #[.int .u8 a2, .int .u8 b2, .int .u8 c2, .int .u8 d2, .int .u8 f2, .int .u8 g2]) (.agg #[.int .u8 a2', .int .u8 b2', .int .u8 c2', .int .u8 d2', .int .u8 f2', .int .u8 g2'])).run Tryz.prog V = .ok true V := fun V => by rw [mac_eq6]; rw [decide_eq_true h5]
  have e6 : decide (po = po') = true := decide_eq_true h6
  have e7 : (lo == lo') = true := by simpa using h7
  have e8 : (hi == hi') = true := by simpa using h8
  have e9 : (fi == fi') = true := by simpa using h9
  have e10 : decide (st = st') = true := decide_eq_true h10
  have e11 : decide (tw = tw') = true := decide_eq_true h11
  have e12 : (se == se') = true := by simpa using h12
  have e13 : (qu == qu') = false := by simpa using h13
  clear h0 h1 h2 h3 h4 h5 h6 h7 h8 h9 h10 h11 h12 h13
  obtain ⟨W0, hW0⟩ : ∃ W0, W0 = (w.alloc (.cells #[.string n, .int .u32 vn, .int .u8 a, .int .u8 b, .int .u8 c, .int .u8 d, .int .u8 f, .int .u8 g, .int .u8 x, .int .u8 y, .int .u32 vt, .int .u8 a1, .int .u8 b1, .int .u8 c1, .int .u8 d1, .int .u8 f1, .int .u8 g1, .int .u8 a2, .int .u8 b2, .int .u8 c2, .int .u8 d2, .int .u8 f2, .int .u8 g2, .slice pa pn pc, .int .u16 lo, .int .u16 hi, .int .i64 fi, .slice sa sn sc, .slice qa qn qc, .int .i64 se, .int .i64 qu, .int .u32 ra, .int .u32 bu] 33)).alloc (.cells #[.string n', .int .u32 vn', .int .u8 a', .int .u8 b', .int .u8 c', .int .u8 d', .int .u8 f', .int .u8 g', .int .u8 x', .int .u8 y', .int .u32 vt', .int .u8 a1', .int .u8 b1', .int .u8 c1', .int .u8 d1', .int .u8 f1', .int .u8 g1', .int .u8 a2', .int .u8 b2', .int .u8 c2', .int .u8 d2', .int .u8 f2', .int .u8 g2', .slice pa' pn' pc', .int .u16 lo', .int .u16 hi', .int .i64 fi', .slice sa' sn' sc', .slice qa' qn' qc', .int .i64 se', .int .i64 qu', .int .u32 ra', .int .u32 bu'] 33) := ⟨_, rfl⟩
  have hB : Below w.heap.size w W0 := by rw [hW0]; exact ((Below.refl _ _).alloc (Nat.le_refl _) _).alloc (by simp) _
  have HB : Hid (∀ q, Below w.heap.size w (W0.drewN q)) := fun q => below_drewN hB q
  clear hB
  rw [e6] at CN
  rw [e10] at CP
  rw [e11] at CQ
  have HN : Hid (∀ V, Below w.heap.size w V → Calls Tryz.prog 47 #[.slice pa pn pc, .slice pa' pn' pc'] V fun e V' => e = .returned (.bool true) ∧ ∃ q, V' = V.drewN q) := CN
  have HP : Hid (∀ V, Below w.heap.size w V → Calls Tryz.prog 48 #[.slice sa sn sc, .slice sa' sn' sc'] V fun e V' => e = .returned (.bool true) ∧ ∃ q, V' = V.drewN q) := CP
  have HQ : Hid (∀ V, Below w.heap.size w V → Calls Tryz.prog 48 #[.slice qa qn qc, .slice qa' qn' qc'] V fun e V' => e = .returned (.bool true) ∧ ∃ q, V' = V.drewN q) := CQ
  clear CN CP CQ
  clear e6
  clear e10
  clear e11
  go_enter Tryz.func26, Tryz.ntmps26
  go_wp2_with fail
  refine (HN.out _ (by rw [← hW0]; exact HB.out 0)).mono ?_
  rintro e V ⟨rfl, q1, rfl⟩
  go_wp2_with fail
  refine (HP.out _ (by rw [← hW0]; exact HB.out _)).mono ?_
  rintro e V ⟨rfl, q2, rfl⟩
  go_wp2_with fail
  refine (HQ.out _ (by rw [← hW0]; exact HB.out _)).mono ?_
  rintro e V ⟨rfl, q3, rfl⟩
  go_wp2_with fail
  go_ret
  refine ⟨rfl, ?_⟩
  rw [← hW0]
  exact HB.out _
end Go.Proofs.YtngegdamcfmonaaGreat

namespace Go.Proofs.YtngegdamcfmonaaGreat
open Go.RowKit
open Sm
open Cf
set_option linter.unusedVariables false
set_option linter.unusedSimpArgs false
set_option maxRecDepth 20000

def stL (A : Array Value) : Nat → List Value → Array Value
  | _, [] => A
  | o, v :: r => stL (A.setIfInBounds o v) (o + 1) r
theorem stL_mid (post : List Value) : ∀ (vs mid pre : List Value), mid.length = vs.length → stL (pre ++ (mid ++ post)).toArray pre.length vs = (pre ++ (vs ++ post)).toArray
  | [], mid, pre, h => by
    have : mid = [] := List.eq_nil_of_length_eq_zero h
    subst this
    rfl
  | v :: vs, [], pre, h => by simp at h
  | v :: vs, m :: mid, pre, h => by
    have hs : (pre ++ (m :: mid ++ post)).toArray.setIfInBounds pre.length v = ((pre ++ [v]) ++ (mid ++ post)).toArray := by
      rw [List.setIfInBounds_toArray, List.set_append_right _ _ (Nat.le_refl _), Nat.sub_self, List.cons_append, List.set_cons_zero, List.append_assoc]
      rfl
    rw [stL, hs]
    have := stL_mid post vs mid (pre ++ [v]) (by simpa using h)
    rw [List.length_append, List.length_cons, List.length_nil] at this
    rw [this, List.append_assoc]
    rfl
theorem Rd.setCells {w : World} {gr : Nat} {a : Option Addr} {l : List Int} {c : Nat} {σ : Option (List Int)} {g : Nat} {t : TypeId} {K : List (Nat × Obj)} : ∀ (vs : List Value) (o : Nat) (A : Array Value) (V : World), Rd w V gr a l c σ ((g, .cells A t (0, 0)) :: K) → Rd w (V.setCells g o vs) gr a l c σ ((g, .cells (stL A o vs) t (0, 0)) :: K)
  | [], o, A, V, h => h
  | v :: r, o, A, V, h => Rd.setCells r (o + 1) _ _ (h.set 0 rfl o v)
theorem tc_put {t t' : Ten} {p s q p' s' q' : Value} {o : Nat} {v : Value} (h : TLen t) (e : ∀ n vn a b c d f g x y vt a1 b1 c1 d1 f1 g1 a2 b2 c2 d2 f2 g2 po lo hi fi st tw se qu ra bu,
    t = ⟨n, vn, [a, b, c, d, f, g, x, y], vt, [a1, b1, c1, d1, f1, g1], [a2, b2, c2, d2, f2, g2], po, lo, hi, fi, st, tw, se, qu, ra, bu⟩ → (tc t p s q).set o v = tc t' p' s' q') : (tc t p s q).toArray.setIfInBounds o v = (tc t' p' s' q').toArray := by
  rw [List.setIfInBounds_toArray, tset h e]
theorem tc_key (t : Ten) (p s q : Value) (y : List Int) (h : TLen t) (hy : y.length = 8) : stL (tc t p s q).toArray 2 (y.map (Value.int .u8)) = (tc { t with key := y } p s q).toArray :=
  stL_mid _ (y.map (Value.int .u8)) (t.key.map (Value.int .u8)) [.string t.name, .int .u32 t.vni] (by rw [List.length_map, List.length_map, h.key, hy])
theorem tc_vmac (t : Ten) (p s q : Value) (y : List Int) (h : TLen t) (hy : y.length = 6) : stL (tc t p s q).toArray 11 (y.map (Value.int .u8)) = (tc { t with vmac := y } p s q).toArray := by
  have := stL_mid (t.host.map (Value.int .u8) ++ [p, .int .u16 t.lo, .int .u16 t.hi, .int .i64 t.filter, s, q, .int .i64 t.sess, .int .i64 t.queue, .int .u32 t.rate, .int .u32 t.burst]) (y.map (Value.int .u8)) (t.vmac.map (Value.int .u8)) (.string t.name :: .int .u32 t.vni :: (t.key.map (Value.int .u8) ++ [.int .u32 t.vtep])) (by rw [List.length_map, List.length_map, h.vmac, hy])
  rw [show (.string t.name :: .int .u32 t.vni :: (t.key.map (Value.int .u8) ++ [.int .u32 t.vtep]) : List Value).length = 11 by simp [h.key]] at this
  simpa [tc] using this
theorem tc_host (t : Ten) (p s q : Value) (y : List Int) (h : TLen t) (hy : y.length = 6) : stL (tc t p s q).toArray 17 (y.map (Value.int .u8)) = (tc { t with host := y } p s q).toArray := by
  have := stL_mid [p, .int .u16 t.lo, .int .u16 t.hi, .int .i64 t.filter, s, q, .int .i64 t.sess, .int .i64 t.queue, .int .u32 t.rate, .int .u32 t.burst] (y.map (Value.int .u8)) (t.host.map (Value.int .u8)) (.string t.name :: .int .u32 t.vni :: (t.key.map (Value.int .u8) ++ .int .u32 t.vtep :: t.vmac.map (Value.int .u8))) (by rw [List.length_map, List.length_map, h.host, hy])
  rw [show (.string t.name :: .int .u32 t.vni :: (t.key.map (Value.int .u8) ++ .int .u32 t.vtep :: t.vmac.map (Value.int .u8)) : List Value).length = 17 by simp [h.key, h.vmac]] at this
  simpa [tc] using this
/-- A number of k bytes. -/
theorem tkn (k : Nat) {σ : Option (List Int)} (h : ∀ r, σ = some r → IsBytes r) : 0 ≤ num (tk k σ) ∧ num (tk k σ) < 256 ^ k := by
  have h1 := num_range (tk_bytes k h)
  rw [tk_len] at h1
  exact h1
theorem tc_there {w V : World} {gr : Nat} {a : Option Addr} {l : List Int} {c : Nat} {σ : Option (List Int)} {g : Nat} {A : Array Value} {T : TypeId} {K : List (Nat × Obj)} (h : Rd w V gr a l c σ ((g, .cells A T (0, 0)) :: K)) (o n : Nat) (hn : o + n ≤ A.size) : V.there g o n := by
  obtain ⟨i, -, hm, -⟩ := h
  intro j hj
  refine ⟨?_, hm.free 1 rfl _⟩
  rw [hm.cell 1 rfl, Array.getElem?_eq_getElem (by omega)]
  rfl
/-- So many addresses, while there are bytes; and what is left. -/
def pls : Nat → Option (List Int) → List Int × Option (List Int)
  | 0, σ => ([], σ)
  | _ + 1, none => ([], none)
  | n + 1, some r => (num (tk 4 (some r)) :: (pls n (nx 4 (some r))).1, (pls n (nx 4 (some r))).2)
def s1 (σ : Option (List Int)) := rnx σ
def s2 (σ : Option (List Int)) := nx 4 (s1 σ)
def s3 (σ : Option (List Int)) := nx 8 (s2 σ)
def s4 (σ : Option (List Int)) := nx 4 (s3 σ)
def s5 (σ : Option (List Int)) := nx 6 (s4 σ)
def s6 (σ : Option (List Int)) := nx 6 (s5 σ)
def s7 (σ : Option (List Int)) := nx 2 (s6 σ)
def s8 (σ : Option (List Int)) := nx 2 (s7 σ)
def s9 (σ : Option (List Int)) := nx 1 (s8 σ)
def s10 (σ : Option (List Int)) := nx 2 (s9 σ)
def s11 (σ : Option (List Int)) := nx 2 (s10 σ)
def s12 (σ : Option (List Int)) := nx 4 (s11 σ)
def s13 (σ : Option (List Int)) := nx 4 (s12 σ)
def s14 (σ : Option (List Int)) := nx 1 (s13 σ)
def s15 (σ : Option (List Int)) := nx 1 (s14 σ)
def s16 (σ : Option (List Int)) := nx 1 (s15 σ)
/-- A tenant but for its lists. -/
def rhd (σ : Option (List Int)) : Ten := ⟨rnm σ, num (tk 4 (s1 σ)), tk 8 (s2 σ), num (tk 4 (s3 σ)), tk 6 (s4 σ), tk 6 (s5 σ), [], num (tk 2 (s6 σ)), num (tk 2 (s7 σ)), num (tk 1 (s8 σ)), [], [], num (tk 2 (s9 σ)), num (tk 2 (s10 σ)), num (tk 4 (s11 σ)), num (tk 4 (s12 σ))⟩
def rx (σ : Option (List Int)) : Nat := (num (tk 1 (s13 σ))).toNat
def ry (σ : Option (List Int)) : Nat := (num (tk 1 (s14 σ))).toNat
def rz (σ : Option (List Int)) : Nat := (num (tk 1 (s15 σ))).toNat
/-- A tenant, and what is left. -/
def rt (σ : Option (List Int)) : Ten × Option (List Int) :=
  ({ rhd σ with pool := (pls (rx σ) (s16 σ)).1, stat := (prs (ry σ) (pls (rx σ) (s16 σ)).2).1, twi := (prs (rz σ) (prs (ry σ) (pls (rx σ) (s16 σ)).2).2).1 }, (prs (rz σ) (prs (ry σ) (pls (rx σ) (s16 σ)).2).2).2)
/-- A tenant of the call's own, its lists in blocks B. -/
def TBk (v : Value) (t : Ten) (B : List (Nat × Obj)) : Prop := TLen t ∧ ∃ p s q B1 B2 B3, v = .agg (tc t p s q).toArray ∧ B = B3 ++ (B2 ++ B1) ∧ OwB 22 1 p t.pool.length (ux t.pool).flatten B1 ∧ OwB 142 2 s t.stat.length (px t.stat).flatten B2 ∧ OwB 142 2 q t.twi.length (px t.twi).flatten B3
theorem owb_one {T : TypeId} {sz n : Nat} {v : Value} {xs : List Value} {B : List (Nat × Obj)} (h : OwB T sz v n xs B) : v.oneCell' = true := by
  rcases h.2 with ⟨rfl, -⟩ | ⟨g, cap, cur, rfl, -⟩ <;> rfl
theorem owb_slice {T : TypeId} {sz n : Nat} {v : Value} {xs : List Value} {B : List (Nat × Obj)} (h : OwB T sz v n xs B) : ∃ a m c, v = .slice a m c := by
  rcases h.2 with ⟨rfl, -⟩ | ⟨g, cap, cur, rfl, -⟩ <;> exact ⟨_, _, _, rfl⟩
theorem tc_one3 (t : Ten) {p s q : Value} (h1 : p.oneCell' = true) (h2 : s.oneCell' = true) (h3 : q.oneCell' = true) : (tc t p s q).toArray.all (·.oneCell') = true := by
  apply all_oneCell_toArray
  intro v hv
  simp only [tc, List.mem_cons, List.mem_append, List.mem_map, List.not_mem_nil, or_false] at hv
  rcases hv with rfl | rfl | ⟨x, _, rfl⟩ | rfl | ⟨x, _, rfl⟩ | ⟨x, _, rfl⟩ | rfl | rfl | rfl | rfl | rfl | rfl | rfl | rfl | rfl | rfl <;> first | rfl | assumption
end Go.Proofs.YtngegdamcfmonaaGreat

