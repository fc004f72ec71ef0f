/-
  Settings held against one another: lychhelp.Tenant, at any two tenants.
  Settings held against one another: lychhelp.Tenant, at any two tenants.
  Settings as bytes: the fields of settings, each as the program makes it.
-/
import Derived.Test.YtngegdamcfmonaaGreatM27
namespace Go.Proofs.YtngegdamcfmonaaGreat
open Go.RowKit
open Sm
open Cf
set_option linter.unusedVariables false
set_option maxRecDepth 20000

set_option maxHeartbeats 8000000 in
theorem ht_4 {w : World} {vn a b c d f g x y vt a1 b1 c1 d1 f1 g1 a2 b2 c2 d2 f2 g2 lo hi fi se qu ra bu vn' a' b' c' d' f' g' x' y' vt' a1' b1' c1' d1' f1' g1' a2' b2' c2' d2' f2' g2' lo' hi' fi' se' qu' ra' bu' : Int} {n n' : ByteArray} {po po' : List Int} {st tw st' tw' : List (Int × Int)} {pa sa qa pa' sa' qa' : Option Addr} {pn pc sn sc qn qc pn' pc' sn' sc' qn' qc' : Nat}
    (h0 : (sb n = sb n'))
    (h1 : (vn = vn'))
    (h2 : ([a, b, c, d, f, g, x, y] = [a', b', c', d', f', g', x', y']))
    (h3 : (vt = vt'))
    (h4 : ¬ ([a1, b1, c1, d1, f1, g1] = [a1', b1', c1', d1', f1', g1']))
    (CN : ∀ V, Below w.heap.size w V → Calls Tryz.prog 47 #[.slice pa pn pc, .slice pa' pn' pc'] V fun e V' => e = .returned (.bool (decide (po = po'))) ∧ ∃ q, V' = V.drewN q)
    (CP : ∀ V, Below w.heap.size w V → Calls Tryz.prog 48 #[.slice sa sn sc, .slice sa' sn' sc'] V fun e V' => e = .returned (.bool (decide (st = st'))) ∧ ∃ q, V' = V.drewN q)
    (CQ : ∀ V, Below w.heap.size w V → Calls Tryz.prog 48 #[.slice qa qn qc, .slice qa' qn' qc'] V fun e V' => e = .returned (.bool (decide (tw = tw'))) ∧ ∃ q, V' = V.drewN q)
    : Calls Tryz.prog 26 #[.agg #[.string n, .int .u32 vn, .int .u8 a, .int .u8 b, .int .u8 c, .int .u8 d, .int .u8 f, .int .u8 g, .int .u8 x, .int .u8 y, .int .u32 vt, .int .u8 a1, .int .u8 b1, .int .u8 c1, .int .u8 d1, .int .u8 f1, .int .u8 g1, .int .u8 a2, .int .u8 b2, .int .u8 c2, .int .u8 d2, .int .u8 f2, .int .u8 g2, .slice pa pn pc, .int .u16 lo, .int .u16 hi, .int .i64 fi, .slice sa sn sc, .slice qa qn qc, .int .i64 se, .int .i64 qu, .int .u32 ra, .int .u32 bu], .agg #[.string n', .int .u32 vn', .int .u8 a', .int .u8 b', .int .u8 c', .int .u8 d', .int .u8 f', .int .u8 g', .int .u8 x', .int .u8 y', .int .u32 vt', .int .u8 a1', .int .u8 b1', .int .u8 c1', .int .u8 d1', .int .u8 f1', .int .u8 g1', .int .u8 a2', .int .u8 b2', .int .u8 c2', .int .u8 d2', .int .u8 f2', .int .u8 g2', .slice pa' pn' pc', .int .u16 lo', .int .u16 hi', .int .i64 fi', .slice sa' sn' sc', .slice qa' qn' qc', .int .i64 se', .int .i64 qu', .int .u32 ra', .int .u32 bu']] w fun e w' => e = .returned (.bool false) ∧ Below w.heap.size w w' := by
  have e0 : (n.toList == n'.toList) = true := by rw [text_same]; exact decide_eq_true h0
  have e1 : (vn == vn') = true := by simpa using h1
  have e2 : ∀ V, (Op.equalIn 10000 25 (.agg #[.int .u8 a, .int .u8 b, .int .u8 c, .int .u8 d, .int .u8 f, .int .u8 g, .int .u8 x, .int .u8 y]) (.agg #[.int .u8 a', .int .u8 b', .int .u8 c', .int .u8 d', .int .u8 f', .int .u8 g', .int .u8 x', .int .u8 y'])).run Tryz.prog V = .ok true V := fun V => by rw [key_eq]; rw [decide_eq_true h2]
  have e3 : (vt == vt') = true := by simpa using h3
  have e4 : ∀ V, (Op.equalIn 10000 24 (.agg #[.int .u8 a1, .int .u8 b1, .int .u8 c1, .int .u8 d1, .int .u8 f1, .int .u8 g1]) (.agg #[.int .u8 a1', .int .u8 b1', .int .u8 c1', .int .u8 d1', .int .u8 f1', .int .u8 g1'])).run Tryz.prog V = .ok false V := fun V => by rw [mac_eq6]; rw [decide_eq_false h4]
  clear h0 h1 h2 h3 h4
  obtain ⟨W0, hW0⟩ : ∃ W0, W0 = (w.alloc (.cells #[.string n, .int .u32 vn, .int .u8 a, .int .u8 b, .int .u8 c, .int .u8 d, .int .u8 f, .int .u8 g, .int .u8 x, .int .u8 y, .int .u32 vt, .int .u8 a1, .int .u8 b1, .int .u8 c1, .int .u8 d1, .int .u8 f1, .int .u8 g1, .int .u8 a2, .int .u8 b2, .int .u8 c2, .int .u8 d2, .int .u8 f2, .int .u8 g2, .slice pa pn pc, .int .u16 lo, .int .u16 hi, .int .i64 fi, .slice sa sn sc, .slice qa qn qc, .int .i64 se, .int .i64 qu, .int .u32 ra, .int .u32 bu] 33)).alloc (.cells #[.string n', .int .u32 vn', .int .u8 a', .int .u8 b', .int .u8 c', .int .u8 d', .int .u8 f', .int .u8 g', .int .u8 x', .int .u8 y', .int .u32 vt', .int .u8 a1', .int .u8 b1', .int .u8 c1', .int .u8 d1', .int .u8 f1', .int .u8 g1', .int .u8 a2', .int .u8 b2', .int .u8 c2', .int .u8 d2', .int .u8 f2', .int .u8 g2', .slice pa' pn' pc', .int .u16 lo', .int .u16 hi', .int .i64 fi', .slice sa' sn' sc', .slice qa' qn' qc', .int .i64 se', .int .i64 qu', .int .u32 ra', .int .u32 bu'] 33) := ⟨_, rfl⟩
  have hB : Below w.heap.size w W0 := by rw [hW0]; exact ((Below.refl _ _).alloc (Nat.le_refl _) _).alloc (by simp) _
  have HB : Hid (∀ q, Below w.heap.size w (W0.drewN q)) := fun q => below_drewN hB q
  clear hB
  clear CN CP CQ
  go_enter Tryz.func26, Tryz.ntmps26
  go_wp2_with fail
  go_ret
  refine ⟨rfl, ?_⟩
  rw [← hW0]
  exact HB.out 0
set_option maxHeartbeats 8000000 in
theorem ht_5 {w : World} {vn a b c d f g x y vt a1 b1 c1 d1 f1 g1 a2 b2 c2 d2 f2 g2 lo hi fi se qu ra bu vn' a' b' c' d' f' g' x' y' vt' a1' b1' c1' d1' f1' g1' a2' b2' c2' d2' f2' g2' lo' hi' fi' se' qu' ra' bu' : Int} {n n' : ByteArray} {po po' : List Int} {st tw st' tw' : List (Int × Int)} {pa sa qa pa' sa' qa' : Option Addr} {pn pc sn sc qn qc pn' pc' sn' sc' qn' qc' : Nat}
    (h0 : (sb n = sb n'))
    (h1 : (vn = vn'))
    (h2 : ([a, b, c, d, f, g, x, y] = [a', b', c', d', f', g', x', y']))
    (h3 : (vt = vt'))
    (h4 : ([a1, b1, c1, d1, f1, g1] = [a1', b1', c1', d1', f1', g1']))
    (h5 : ¬ ([a2, b2, c2, d2, f2, g2] = [a2', b2', c2', d2', f2', g2']))
    (CN : ∀ V, Below w.heap.size w V → Calls Tryz.prog 47 #[.slice pa pn pc, .slice pa' pn' pc'] V fun e V' => e = .returned (.bool (decide (po = po'))) ∧ ∃ q, V' = V.drewN q)
    (CP : ∀ V, Below w.heap.size w V → Calls Tryz.prog 48 #[.slice sa sn sc, .slice sa' sn' sc'] V fun e V' => e = .returned (.bool (decide (st = st'))) ∧ ∃ q, V' = V.drewN q)
    (CQ : ∀ V, Below w.heap.size w V → Calls Tryz.prog 48 #[.slice qa qn qc, .slice qa' qn' qc'] V fun e V' => e = .returned (.bool (decide (tw = tw'))) ∧ ∃ q, V' = V.drewN q)
    : Calls Tryz.prog 26 #[.agg #[.string n, .int .u32 vn, .int .u8 a, .int .u8 b, .int .u8 c, .int .u8 d, .int .u8 f, .int .u8 g, .int .u8 x, .int .u8 y, .int .u32 vt, .int .u8 a1, .int .u8 b1, .int .u8 c1, .int .u8 d1, .int .u8 f1, .int .u8 g1, .int .u8 a2, .int .u8 b2, .int .u8 c2, .int .u8 d2, .int .u8 f2, .int .u8 g2, .slice pa pn pc, .int .u16 lo, .int .u16 hi, .int .i64 fi, .slice sa sn sc, .slice qa qn qc, .int .i64 se, .int .i64 qu, .int .u32 ra, .int .u32 bu], .agg #[.string n', .int .u32 vn', .int .u8 a', .int .u8 b', .int .u8 c', .int .u8 d', .int .u8 f', .int .u8 g', .int .u8 x', .int .u8 y', .int .u32 vt', .int .u8 a1', .int .u8 b1', .int .u8 c1', .int .u8 d1', .int .u8 f1', .int .u8 g1', .int .u8 a2', .int .u8 b2', .int .u8 c2', .int .u8 d2', .int .u8 f2', .int .u8 g2', .slice pa' pn' pc', .int .u16 lo', .int .u16 hi', .int .i64 fi', .slice sa' sn' sc', .slice qa' qn' qc', .int .i64 se', .int .i64 qu', .int .u32 ra', .int .u32 bu']] w fun e w' => e = .returned (.bool false) ∧ Below w.heap.size w w' := by
  have e0 : (n.toList == n'.toList) = true := by rw [text_same]; exact decide_eq_true h0
  have e1 : (vn == vn') = true := by simpa using h1
  have e2 : ∀ V, (Op.equalIn 10000 25 (.agg #[.int .u8 a, .int .u8 b, .int .u8 c, .int .u8 d, .int .u8 f, .int .u8 g, .int .u8 x, .int .u8 y]) (.agg #[.int .u8 a', .int .u8 b', .int .u8 c', .int .u8 d', .int .u8 f', .int .u8 g', .int .u8 x', .int .u8 y'])).run Tryz.prog V = .ok true V := fun V => by rw [key_eq]; rw [decide_eq_true h2]
  have e3 : (vt == vt') = true := by simpa using h3
  have e4 : ∀ V, (Op.equalIn 10000 24 (.agg #[.int .u8 a1, .int .u8 b1, .int .u8 c1, .int .u8 d1, .int .u8 f1, .int .u8 g1]) (.agg #[.int .u8 a1', .int .u8 b1', .int .u8 c1', .int .u8 d1', .int .u8 f1', .int .u8 g1'])).run Tryz.prog V = .ok true V := fun V => by rw [mac_eq6]; rw [decide_eq_true h4]
  have e5 : ∀ V, (Op.equalIn 10000 24 (.agg #[.int .u8 a2, .int .u8 b2, .int .u8 c2, .int .u8 d2, .int .u8 f2, .int .u8 g2]) (.agg #[.int .u8 a2', .int .u8 b2', .int .u8 c2', .int .u8 d2', .int .u8 f2', .int .u8 g2'])).run Tryz.prog V = .ok false V := fun V => by rw [mac_eq6]; rw [decide_eq_false h5]
  clear h0 h1 h2 h3 h4 h5
  obtain ⟨W0, hW0⟩ : ∃ W0, W0 = (w.alloc (.cells #[.string n, .int .u32 vn, .int .u8 a, .int .u8 b, .int .u8 c, .int .u8 d, .int .u8 f, .int .u8 g, .int .u8 x, .int .u8 y, .int .u32 vt, .int .u8 a1, .int .u8 b1, .int .u8 c1, .int .u8 d1, .int .u8 f1, .int .u8 g1, .int .u8 a2, .int .u8 b2, .int .u8 c2, .int .u8 d2, .int .u8 f2, .int .u8 g2, .slice pa pn pc, .int .u16 lo, .int .u16 hi, .int .i64 fi, .slice sa sn sc, .slice qa qn qc, .int .i64 se, .int .i64 qu, .int .u32 ra, .int .u32 bu] 33)).alloc (.cells #[.string n', .int .u32 vn', .int .u8 a', .int .u8 b', .int .u8 c', .int .u8 d', .int .u8 f', .int .u8 g', .int .u8 x', .int .u8 y', .int .u32 vt', .int .u8 a1', .int .u8 b1', .int .u8 c1', .int .u8 d1', .int .u8 f1', .int .u8 g1', .int .u8 a2', .int .u8 b2', .int .u8 c2', .int .u8 d2', .int .u8 f2', .int .u8 g2', .slice pa' pn' pc', .int .u16 lo', .int .u16 hi', .int .i64 fi', .slice sa' sn' sc', .slice qa' qn' qc', .int .i64 se', .int .i64 qu', .int .u32 ra', .int .u32 bu'] 33) := ⟨_, rfl⟩
  have hB : Below w.heap.size w W0 := by rw [hW0]; exact ((Below.refl _ _).alloc (Nat.le_refl _) _).alloc (by simp) _
  have HB : Hid (∀ q, Below w.heap.size w (W0.drewN q)) := fun q => below_drewN hB q
  clear hB
  clear CN CP CQ
  go_enter Tryz.func26, Tryz.ntmps26
  go_wp2_with fail
  go_ret
  refine ⟨rfl, ?_⟩
  rw [← hW0]
  exact HB.out 0
end Go.Proofs.YtngegdamcfmonaaGreat

namespace Go.Proofs.YtngegdamcfmonaaGreat
open Go.RowKit
open Sm
open Cf
set_option linter.unusedVariables false
set_option maxRecDepth 20000

set_option maxHeartbeats 8000000 in
theorem ht_8 {w : World} {vn a b c d f g x y vt a1 b1 c1 d1 f1 g1 a2 b2 c2 d2 f2 g2 lo hi fi se qu ra bu vn' a' b' c' d' f' g' x' y' vt' a1' b1' c1' d1' f1' g1' a2' b2' c2' d2' f2' g2' lo' hi' fi' se' qu' ra' bu' : Int} {n n' : ByteArray} {po po' : List Int} {st tw st' tw' : List (Int × Int)} {pa sa qa pa' sa' qa' : Option Addr} {pn pc sn sc qn qc pn' pc' sn' sc' qn' qc' : Nat}
    (h0 : (sb n = sb n'))
    (h1 : (vn = vn'))
    (h2 : ([a, b, c, d, f, g, x, y] = [a', b', c', d', f', g', x', y']))
    (h3 : (vt = vt'))
    (h4 : ([a1, b1, c1, d1, f1, g1] = [a1', b1', c1', d1', f1', g1']))
    (h5 : ([a2, b2, c2, d2, f2, g2] = [a2', b2', c2', d2', f2', g2']))
    (h6 : (po = po'))
    (h7 : (lo = lo'))
    (h8 : ¬ (hi = hi'))
    (CN : ∀ V, Below w.heap.size w V → Calls Tryz.prog 47 #[.slice pa pn pc, .slice pa' pn' pc'] V fun e V' => e = .returned (.bool (decide (po = po'))) ∧ ∃ q, V' = V.drewN q)
    (CP : ∀ V, Below w.heap.size w V → Calls Tryz.prog 48 #[.slice sa sn sc, .slice sa' sn' sc'] V fun e V' => e = .returned (.bool (decide (st = st'))) ∧ ∃ q, V' = V.drewN q)
    (CQ : ∀ V, Below w.heap.size w V → Calls Tryz.prog 48 #[.slice qa qn qc, .slice qa' qn' qc'] V fun e V' => e = .returned (.bool (decide (tw = tw'))) ∧ ∃ q, V' = V.drewN q)
    : Calls Tryz.prog 26 #[.agg #[.string n, .int .u32 vn, .int .u8 a, .int .u8 b, .int .u8 c, .int .u8 d, .int .u8 f, .int .u8 g, .int .u8 x, .int .u8 y, .int .u32 vt, .int .u8 a1, .int .u8 b1, .int .u8 c1, .int .u8 d1, .int .u8 f1, .int .u8 g1, .int .u8 a2, .int .u8 b2, .int .u8 c2, .int .u8 d2, .int .u8 f2, .int .u8 g2, .slice pa pn pc, .int .u16 lo, .int .u16 hi, .int .i64 fi, .slice sa sn sc, .slice qa qn qc, .int .i64 se, .int .i64 qu, .int .u32 ra, .int .u32 bu], .agg #[.string n', .int .u32 vn', .int .u8 a', .int .u8 b', .int .u8 c', .int .u8 d', .int .u8 f', .int .u8 g', .int .u8 x', .int .u8 y', .int .u32 vt', .int .u8 a1', .int .u8 b1', .int .u8 c1', .int .u8 d1', .int .u8 f1', .int .u8 g1', .int .u8 a2', .int .u8 b2', .int .u8 c2', .int .u8 d2', .int .u8 f2', .int .u8 g2', .slice pa' pn' pc', .int .u16 lo', .int .u16 hi', .int .i64 fi', .slice sa' sn' sc', .slice qa' qn' qc', .int .i64 se', .int .i64 qu', .int .u32 ra', .int .u32 bu']] w fun e w' => e = .returned (.bool false) ∧ Below w.heap.size w w' := by
  have e0 : (n.toList == n'.toList) = true := by rw [text_same]; exact decide_eq_true h0
  have e1 : (vn == vn') = true := by simpa using h1
  have e2 : ∀ V, (Op.equalIn 10000 25 (.agg #[.int .u8 a, .int .u8 b, .int .u8 c, .int .u8 d, .int .u8 f, .int .u8 g, .int .u8 x, .int .u8 y]) (.agg #[.int .u8 a', .int .u8 b', .int .u8 c', .int .u8 d', .int .u8 f', .int .u8 g', .int .u8 x', .int .u8 y'])).run Tryz.prog V = .ok true V := fun V => by rw [key_eq]; rw [decide_eq_true h2]
  have e3 : (vt == vt') = true := by simpa using h3
  have e4 : ∀ V, (Op.equalIn 10000 24 (.agg #[.int .u8 a1, .int .u8 b1, .int .u8 c1, .int .u8 d1, .int .u8 f1, .int .u8 g1]) (.agg #[.int .u8 a1', .int .u8 b1', .int .u8 c1', .int .u8 d1', .int .u8 f1', .int .u8 g1'])).run Tryz.prog V = .ok true V := fun V => by rw [mac_eq6]; rw [decide_eq_true h4]
  have e5 : ∀ V, (Op.equalIn 10000 24 (.agg #[.int .u8 a2, .int .u8 b2, .int .u8 c2, .int .u8 d2, .int .u8 f2, .int .u8 g2]) (.agg #[.int .u8 a2', .int .u8 b2', .int .u8 c2', .int .u8 d2', .int .u8 f2', .int .u8 g2'])).run Tryz.prog V = .ok true V := fun V => by rw [mac_eq6]; rw [decide_eq_true h5]
  have e6 : decide (po = po') = true := decide_eq_true h6
  have e7 : (lo == lo') = true := by simpa using h7
  have e8 : (hi == hi') = false := by simpa using h8
  clear h0 h1 h2 h3 h4 h5 h6 h7 h8
  obtain ⟨W0, hW0⟩ : ∃ W0, W0 = (w.alloc (.cells #[.string n, .int .u32 vn, .int .u8 a, .int .u8 b, .int .u8 c, .int .u8 d, .int .u8 f, .int .u8 g, .int .u8 x, .int .u8 y, .int .u32 vt, .int .u8 a1, .int .u8 b1, .int .u8 c1, .int .u8 d1, .int .u8 f1, .int .u8 g1, .int .u8 a2, .int .u8 b2, .int .u8 c2, .int .u8 d2, .int .u8 f2, .int .u8 g2, .slice pa pn pc, .int .u16 lo, .int .u16 hi, .int .i64 fi, .slice sa sn sc, .slice qa qn qc, .int .i64 se, .int .i64 qu, .int .u32 ra, .int .u32 bu] 33)).alloc (.cells #[.string n', .int .u32 vn', .int .u8 a', .int .u8 b', .int .u8 c', .int .u8 d', .int .u8 f', .int .u8 g', .int .u8 x', .int .u8 y', .int .u32 vt', .int .u8 a1', .int .u8 b1', .int .u8 c1', .int .u8 d1', .int .u8 f1', .int .u8 g1', .int .u8 a2', .int .u8 b2', .int .u8 c2', .int .u8 d2', .int .u8 f2', .int .u8 g2', .slice pa' pn' pc', .int .u16 lo', .int .u16 hi', .int .i64 fi', .slice sa' sn' sc', .slice qa' qn' qc', .int .i64 se', .int .i64 qu', .int .u32 ra', .int .u32 bu'] 33) := ⟨_, rfl⟩
  have hB : Below w.heap.size w W0 := by rw [hW0]; exact ((Below.refl _ _).alloc (Nat.le_refl _) _).alloc (by simp) _
  have HB : Hid (∀ q, Below w.heap.size w (W0.drewN q)) := fun q => below_drewN hB q
  clear hB
  rw [e6] at CN
  have HN : Hid (∀ V, Below w.heap.size w V → Calls Tryz.prog 47 #[.slice pa pn pc, .slice pa' pn' pc'] V fun e V' => e = .returned (.bool true) ∧ ∃ q, V' = V.drewN q) := CN
  clear CN CP CQ
  clear e6
  go_enter Tryz.func26, Tryz.ntmps26
  go_wp2_with fail
  refine (HN.out _ (by rw [← hW0]; exact HB.out 0)).mono ?_
  rintro e V ⟨rfl, q1, rfl⟩
  go_wp2_with fail
  go_ret
  refine ⟨rfl, ?_⟩
  rw [← hW0]
  exact HB.out _
set_option maxHeartbeats 8000000 in
theorem ht_9 {w : World} {vn a b c d f g x y vt a1 b1 c1 d1 f1 g1 a2 b2 c2 d2 f2 g2 lo hi fi se qu ra bu vn' a' b' c' d' f' g' x' y' vt' a1' b1' c1' d1' f1' g1' a2' b2' c2' d2' f2' g2' lo' hi' fi' se' qu' ra' bu' : Int} {n n' : ByteArray} {po po' : List Int} {st tw st' tw' : List (Int × Int)} {pa sa qa pa' sa' qa' : Option Addr} {pn pc sn sc qn qc pn' pc' sn' sc' qn' qc' : Nat}
    (h0 : (sb n = sb n'))
    (h1 : (vn = vn'))
    (h2 : ([a, b, c, d, f, g, x, y] = [a', b', c', d', f', g', x', y']))
    (h3 : (vt = vt'))
    (h4 : ([a1, b1, c1, d1, f1, g1] = [a1', b1', c1', d1', f1', g1']))
    (h5 : ([a2, b2, c2, d2, f2, g2] = [a2', b2', c2', d2', f2', g2']))
    (h6 : (po = po'))
    (h7 : (lo = lo'))
    (h8 : (hi = hi'))
    (h9 : ¬ (fi = fi'))
    (CN : ∀ V, Below w.heap.size w V → Calls Tryz.prog 47 #[.slice pa pn pc, .slice pa' pn' pc'] V fun e V' => e = .returned (.bool (decide (po = po'))) ∧ ∃ q, V' = V.drewN q)
    (CP : ∀ V, Below w.heap.size w V → Calls Tryz.prog 48 #[.slice sa sn sc, .slice sa' sn' sc'] V fun e V' => e = .returned (.bool (decide (st = st'))) ∧ ∃ q, V' = V.drewN q)
    (CQ : ∀ V, Below w.heap.size w V → Calls Tryz.prog 48 #[.slice qa qn qc, .slice qa' qn' qc'] V fun e V' => e = .returned (.bool (decide (tw = tw'))) ∧ ∃ q, V' = V.drewN q)
    : Calls Tryz.prog 26 #[.agg #[.string n, .int .u32 vn, .int .u8 a, .int .u8 b, .int .u8 c, .int .u8 d, .int .u8 f, .int .u8 g, .int .u8 x, .int .u8 y, .int .u32 vt, .int .u8 a1, .int .u8 b1, .int .u8 c1, .int .u8 d1, .int .u8 f1, .int .u8 g1, .int .u8 a2, .int .u8 b2, .int .u8 c2, .int .u8 d2, .int .u8 f2, .int .u8 g2, .slice pa pn pc, .int .u16 lo, .int .u16 hi, .int .i64 fi, .slice sa sn sc, .slice qa qn qc, .int .i64 se, .int .i64 qu, .int .u32 ra, .int .u32 bu], .agg #[.string n', .int .u32 vn', .int .u8 a', .int .u8 b', .int .u8 c', .int .u8 d', .int .u8 f', .int .u8 g', .int .u8 x', .int .u8 y', .int .u32 vt', .int .u8 a1', .int .u8 b1', .int .u8 c1', .int .u8 d1', .int .u8 f1', .int .u8 g1', .int .u8 a2', .int .u8 b2', .int .u8 c2', .int .u8 d2', .int .u8 f2', .int .u8 g2', .slice pa' pn' pc', .int .u16 lo', .int .u16 hi', .int .i64 fi', .slice sa' sn' sc', .slice qa' qn' qc', .int .i64 se', .int .i64 qu', .int .u32 ra', .int .u32 bu']] w fun e w' => e = .returned (.bool false) ∧ Below w.heap.size w w' := by
  have e0 : (n.toList == n'.toList) = true := by rw [text_same]; exact decide_eq_true h0
  have e1 : (vn == vn') = true := by simpa using h1
  have e2 : ∀ V, (Op.equalIn 10000 25 (.agg #[.int .u8 a, .int .u8 b, .int .u8 c, .int .u8 d, .int .u8 f, .int .u8 g, .int .u8 x, .int .u8 y]) (.agg #[.int .u8 a', .int .u8 b', .int .u8 c', .int .u8 d', .int .u8 f', .int .u8 g', .int .u8 x', .int .u8 y'])).run Tryz.prog V = .ok true V := fun V => by rw [key_eq]; rw [decide_eq_true h2]
  have e3 : (vt == vt') = true := by simpa using h3
  have e4 : ∀ V, (Op.equalIn 10000 24 (.agg #[.int .u8 a1, .int .u8 b1, .int .u8 c1, .int .u8 d1, .int .u8 f1, .int .u8 g1]) (.agg #[.int .u8 a1', .int .u8 b1', .int .u8 c1', .int .u8 d1', .int .u8 f1', .int .u8 g1'])).run Tryz.prog V = .ok true V := fun V => by rw [mac_eq6]; rw [decide_eq_true h4]
  have e5 : ∀ V, (Op.equalIn 10000 24 (.agg #[.int .u8 a2, .int .u8 b2, .int .u8 c2, .int .u8 d2, .int .u8 f2, .int .u8 g2]) (.agg #[.int .u8 a2', .int .u8 b2', .int .u8 c2', .int .u8 d2', .int .u8 f2', .int .u8 g2'])).run Tryz.prog V = .ok true V := fun V => by rw [mac_eq6]; rw [decide_eq_true h5]
  have e6 : decide (po = po') = true := decide_eq_true h6
  have e7 : (lo == lo') = true := by simpa using h7
  have e8 : (hi == hi') = true := by simpa using h8
  have e9 : (fi == fi') = false := by simpa using h9
  clear h0 h1 h2 h3 h4 h5 h6 h7 h8 h9
  obtain ⟨W0, hW0⟩ : ∃ W0, W0 = (w.alloc (.cells #[.string n, .int .u32 vn, .int .u8 a, .int .u8 b, .int .u8 c, .int .u8 d, .int .u8 f, .int .u8 g, .int .u8 x, .int .u8 y, .int .u32 vt, .int .u8 a1, .int .u8 b1, .int .u8 c1, .int .u8 d1, .int .u8 f1, .int .u8 g1, .int .u8 a2, .int .u8 b2, .int .u8 c2, .int .u8 d2, .int .u8 f2, .int .u8 g2, .slice pa pn pc, .int .u16 lo, .int .u16 hi, .int .i64 fi, .slice sa sn sc, .slice qa qn qc, .int .i64 se, .int .i64 qu, .int .u32 ra, .int .u32 bu] 33)).alloc (.cells #[.string n', .int .u32 vn', .int .u8 a', .int .u8 b', .int .u8 c', .int .u8 d', .int .u8 f', .int .u8 g', .int .u8 x', .int .u8 y', .int .u32 vt', .int .u8 a1', .int .u8 b1', .int .u8 c1', .int .u8 d1', .int .u8 f1', .int .u8 g1', .int .u8 a2', .int .u8 b2', .int .u8 c2', .int .u8 d2', .int .u8 f2', .int .u8 g2', .slice pa' pn' pc', .int .u16 lo', .int .u16 hi', .int .i64 fi', .slice sa' sn' sc', .slice qa' qn' qc', .int .i64 se', .int .i64 qu', .int .u32 ra', .int .u32 bu'] 33) := ⟨_, rfl⟩
  have hB : Below w.heap.size w W0 := by rw [hW0]; exact ((Below.refl _ _).alloc (Nat.le_refl _) _).alloc (by simp) _
  have HB : Hid (∀ q, Below w.heap.size w (W0.drewN q)) := fun q => below_drewN hB q
  clear hB
  rw [e6] at CN
  have HN : Hid (∀ V, Below w.heap.size w V → Calls Tryz.prog 47 #[.slice pa pn pc, .slice pa' pn' pc'] V fun e V' => e = .returned (.bool true) ∧ ∃ q, V' = V.drewN q) := CN
  clear CN CP CQ
  clear e6
  go_enter Tryz.func26, Tryz.ntmps26
  go_wp2_with fail
  refine (HN.out _ (by rw [← hW0]; exact HB.out 0)).mono ?_
  rintro e V ⟨rfl, q1, rfl⟩
  go_wp2_with fail
  go_ret
  refine ⟨rfl, ?_⟩
  rw [← hW0]
  exact HB.out _
end Go.Proofs.YtngegdamcfmonaaGreat

namespace Go.Proofs.YtngegdamcfmonaaGreat
open Go.RowKit
open Sm
open Cf
set_option linter.unusedVariables false
set_option maxRecDepth 20000

theorem acc_CIp (V : World) (g off : Nat) : Calls Tryz.prog 52 #[.pointer (some ⟨g, off, none⟩)] V fun e V' => e = .returned (.pointer (some ⟨g, off + 0, none⟩)) ∧ V = V' := by
  go_enter Tryz.func52, Tryz.ntmps52
  go_wp2
  go_ret
  exact ⟨rfl, rfl⟩
theorem acc_CMac (V : World) (g off : Nat) : Calls Tryz.prog 54 #[.pointer (some ⟨g, off, none⟩)] V fun e V' => e = .returned (.slice (some ⟨g, off + 1, none⟩) 6 6) ∧ V = V' := by
  go_enter Tryz.func54, Tryz.ntmps54
  go_wp2
  go_ret
  exact ⟨rfl, rfl⟩
theorem acc_COut (V : World) (g off : Nat) : Calls Tryz.prog 55 #[.pointer (some ⟨g, off, none⟩)] V fun e V' => e = .returned (.slice (some ⟨g, off + 7, none⟩) 6 6) ∧ V = V' := by
  go_enter Tryz.func55, Tryz.ntmps55
  go_wp2
  go_ret
  exact ⟨rfl, rfl⟩
theorem acc_CNext (V : World) (g off : Nat) : Calls Tryz.prog 56 #[.pointer (some ⟨g, off, none⟩)] V fun e V' => e = .returned (.slice (some ⟨g, off + 13, none⟩) 6 6) ∧ V = V' := by
  go_enter Tryz.func56, Tryz.ntmps56
  go_wp2
  go_ret
  exact ⟨rfl, rfl⟩
theorem acc_CKey (V : World) (g off : Nat) : Calls Tryz.prog 57 #[.pointer (some ⟨g, off, none⟩)] V fun e V' => e = .returned (.slice (some ⟨g, off + 19, none⟩) 8 8) ∧ V = V' := by
  go_enter Tryz.func57, Tryz.ntmps57
  go_wp2
  go_ret
  exact ⟨rfl, rfl⟩
theorem acc_CDrain (V : World) (g off : Nat) : Calls Tryz.prog 58 #[.pointer (some ⟨g, off, none⟩)] V fun e V' => e = .returned (.pointer (some ⟨g, off + 27, none⟩)) ∧ V = V' := by
  go_enter Tryz.func58, Tryz.ntmps58
  go_wp2
  go_ret
  exact ⟨rfl, rfl⟩
theorem acc_CCnt (V : World) (g off : Nat) : Calls Tryz.prog 49 #[.pointer (some ⟨g, off, none⟩)] V fun e V' => e = .returned (.pointer (some ⟨g, off + 28, none⟩)) ∧ V = V' := by
  go_enter Tryz.func49, Tryz.ntmps49
  go_wp2
  go_ret
  exact ⟨rfl, rfl⟩
def spCIp : Sp Cgf := spNum 4 (fun t => t.ip) (fun t y => { t with ip := y })
theorem c_CIp {w V : World} {p : Nat × Obj} {E L : List (Nat × Obj)} (h : Mem w V (p :: (E ++ L))) :
    Calls Tryz.prog 51 #[.int .i64 4, .func (.func 52) #[] #[]] V fun e V' => ∃ f E', e = .returned f.val ∧ Mem w V' (p :: (E' ++ L)) ∧ Sub E E' ∧ Fw w E' IC JC f spCIp := by
  refine (mk_num_CU h 4 52).mono ?_
  rintro e V' ⟨bs, bo, rfl, hM⟩
  exact ⟨_, _ :: _ :: E, rfl, swap_front2 hM, fun q hq => List.mem_cons_of_mem _ (List.mem_cons_of_mem _ hq), (fd_num_CU bs bo 4 52 0 (by omega) fits32 _ _ (List.mem_cons_self ..) (List.mem_cons_of_mem _ (List.mem_cons_self ..)) (enters_of Tryz.func52 (by kernel_rfl) rfl) acc_CIp (fun t r V g off h => h.cell 0 (cget h.1.len (by rintro ip a b c d f g a1 b1 c1 d1 f1 g1 a2 b2 c2 d2 f2 g2 k1 k2 k3 k4 k5 k6 k7 k8 dr te rfl; rfl))) (lens_C 0 (by omega) (fun t => .int .u32 t.ip) (fun y => .int .u32 y) (fun t y => { t with ip := y }) (fun t p h => cget h (by rintro ip a b c d f g a1 b1 c1 d1 f1 g1 a2 b2 c2 d2 f2 g2 k1 k2 k3 k4 k5 k6 k7 k8 dr te rfl; rfl)) (fun t y p h => cset h (by rintro ip a b c d f g a1 b1 c1 d1 f1 g1 a2 b2 c2 d2 f2 g2 k1 k2 k3 k4 k5 k6 k7 k8 dr te rfl; rfl)) (fun t y h => ⟨h.mac, h.omac, h.nmac, h.key⟩) (fun t y => rfl))).fw⟩
def spCMac : Sp Cgf := spOct 6 (fun t => t.mac) (fun t y => { t with mac := y })
theorem c_CMac {w V : World} {p : Nat × Obj} {E L : List (Nat × Obj)} (h : Mem w V (p :: (E ++ L))) :
    Calls Tryz.prog 53 #[.func (.func 54) #[] #[]] V fun e V' => ∃ f E', e = .returned f.val ∧ Mem w V' (p :: (E' ++ L)) ∧ Sub E E' ∧ Fw w E' IC JC f spCMac := by
  refine (mk_Oct_C h 54).mono ?_
  rintro e V' ⟨bo, rfl, hM⟩
  refine ⟨_, _ :: E, rfl, swap_front hM, fun q hq => List.mem_cons_of_mem _ hq, (fd_Oct_C bo 6 54 1 (by omega) (by omega) _ _ (List.mem_cons_self ..) (enters_of Tryz.func54 (by kernel_rfl) rfl) acc_CMac (fun t r V g off h => ⟨h.1.len.mac, h.row 1 t.mac h.1.mac (by rw [h.1.len.mac]; omega) (.int .u32 t.ip :: ([])) (t.omac.map (Value.int .u8) ++ (t.nmac.map (Value.int .u8) ++ (t.key.map (Value.int .u8) ++ ([.int .u32 t.drain, r.1])))) rfl (by simp [cc])⟩) ?_).fw⟩
  exact lens_CO 1 6 (fun t y => { t with mac := y }) (fun t p h => ⟨(.int .u32 t.ip :: ([])), t.mac.map (Value.int .u8), (t.omac.map (Value.int .u8) ++ (t.nmac.map (Value.int .u8) ++ (t.key.map (Value.int .u8) ++ ([.int .u32 t.drain, p])))), rfl, (by rw [List.length_map]; exact h.mac), (by simp [cc]), fun y => (by simp [cc])⟩) (fun t y hy h => ⟨hy, h.omac, h.nmac, h.key⟩) (fun t y => rfl)
def spCOut : Sp Cgf := spOct 6 (fun t => t.omac) (fun t y => { t with omac := y })
theorem c_COut {w V : World} {p : Nat × Obj} {E L : List (Nat × Obj)} (h : Mem w V (p :: (E ++ L))) :
    Calls Tryz.prog 53 #[.func (.func 55) #[] #[]] V fun e V' => ∃ f E', e = .returned f.val ∧ Mem w V' (p :: (E' ++ L)) ∧ Sub E E' ∧ Fw w E' IC JC f spCOut := by
  refine (mk_Oct_C h 55).mono ?_
  rintro e V' ⟨bo, rfl, hM⟩
  refine ⟨_, _ :: E, rfl, swap_front hM, fun q hq => List.mem_cons_of_mem _ hq, (fd_Oct_C bo 6 55 7 (by omega) (by omega) _ _ (List.mem_cons_self ..) (enters_of Tryz.func55 (by kernel_rfl) rfl) acc_COut (fun t r V g off h => ⟨h.1.len.omac, h.row 7 t.omac h.1.omac (by rw [h.1.len.omac]; omega) (.int .u32 t.ip :: (t.mac.map (Value.int .u8) ++ [])) (t.nmac.map (Value.int .u8) ++ (t.key.map (Value.int .u8) ++ ([.int .u32 t.drain, r.1]))) (by simp [h.1.len.mac]) (by simp [cc])⟩) ?_).fw⟩
  exact lens_CO 7 6 (fun t y => { t with omac := y }) (fun t p h => ⟨(.int .u32 t.ip :: (t.mac.map (Value.int .u8) ++ [])), t.omac.map (Value.int .u8), (t.nmac.map (Value.int .u8) ++ (t.key.map (Value.int .u8) ++ ([.int .u32 t.drain, p]))), (by simp [h.mac]), (by rw [List.length_map]; exact h.omac), (by simp [cc]), fun y => (by simp [cc])⟩) (fun t y hy h => ⟨h.mac, hy, h.nmac, h.key⟩) (fun t y => rfl)
def spCNext : Sp Cgf := spOct 6 (fun t => t.nmac) (fun t y => { t with nmac := y })
theorem c_CNext {w V : World} {p : Nat × Obj} {E L : List (Nat × Obj)} (h : Mem w V (p :: (E ++ L))) :
    Calls Tryz.prog 53 #[.func (.func 56) #[] #[]] V fun e V' => ∃ f E', e = .returned f.val ∧ Mem w V' (p :: (E' ++ L)) ∧ Sub E E' ∧ Fw w E' IC JC f spCNext := by
  refine (mk_Oct_C h 56).mono ?_
  rintro e V' ⟨bo, rfl, hM⟩
  refine ⟨_, _ :: E, rfl, swap_front hM, fun q hq => List.mem_cons_of_mem _ hq, (fd_Oct_C bo 6 56 13 (by omega) (by omega) _ _ (List.mem_cons_self ..) (enters_of Tryz.func56 (by kernel_rfl) rfl) acc_CNext (fun t r V g off h => ⟨h.1.len.nmac, h.row 13 t.nmac h.1.nmac (by rw [h.1.len.nmac]; omega) (.int .u32 t.ip :: (t.mac.map (Value.int .u8) ++ t.omac.map (Value.int .u8) ++ [])) (t.key.map (Value.int .u8) ++ ([.int .u32 t.drain, r.1])) (by simp [h.1.len.mac, h.1.len.omac]) (by simp [cc])⟩) ?_).fw⟩
  exact lens_CO 13 6 (fun t y => { t with nmac := y }) (fun t p h => ⟨(.int .u32 t.ip :: (t.mac.map (Value.int .u8) ++ t.omac.map (Value.int .u8) ++ [])), t.nmac.map (Value.int .u8), (t.key.map (Value.int .u8) ++ ([.int .u32 t.drain, p])), (by simp [h.mac, h.omac]), (by rw [List.length_map]; exact h.nmac), (by simp [cc]), fun y => (by simp [cc])⟩) (fun t y hy h => ⟨h.mac, h.omac, hy, h.key⟩) (fun t y => rfl)
def spCKey : Sp Cgf := spOct 8 (fun t => t.key) (fun t y => { t with key := y })
theorem c_CKey {w V : World} {p : Nat × Obj} {E L : List (Nat × Obj)} (h : Mem w V (p :: (E ++ L))) :
    Calls Tryz.prog 53 #[.func (.func 57) #[] #[]] V fun e V' => ∃ f E', e = .returned f.val ∧ Mem w V' (p :: (E' ++ L)) ∧ Sub E E' ∧ Fw w E' IC JC f spCKey := by
  refine (mk_Oct_C h 57).mono ?_
  rintro e V' ⟨bo, rfl, hM⟩
  refine ⟨_, _ :: E, rfl, swap_front hM, fun q hq => List.mem_cons_of_mem _ hq, (fd_Oct_C bo 8 57 19 (by omega) (by omega) _ _ (List.mem_cons_self ..) (enters_of Tryz.func57 (by kernel_rfl) rfl) acc_CKey (fun t r V g off h => ⟨h.1.len.key, h.row 19 t.key h.1.key (by rw [h.1.len.key]; omega) (.int .u32 t.ip :: (t.mac.map (Value.int .u8) ++ t.omac.map (Value.int .u8) ++ t.nmac.map (Value.int .u8) ++ [])) ([.int .u32 t.drain, r.1]) (by simp [h.1.len.mac, h.1.len.omac, h.1.len.nmac]) (by simp [cc])⟩) ?_).fw⟩
  exact lens_CO 19 8 (fun t y => { t with key := y }) (fun t p h => ⟨(.int .u32 t.ip :: (t.mac.map (Value.int .u8) ++ t.omac.map (Value.int .u8) ++ t.nmac.map (Value.int .u8) ++ [])), t.key.map (Value.int .u8), ([.int .u32 t.drain, p]), (by simp [h.mac, h.omac, h.nmac]), (by rw [List.length_map]; exact h.key), (by simp [cc]), fun y => (by simp [cc])⟩) (fun t y hy h => ⟨h.mac, h.omac, h.nmac, hy⟩) (fun t y => rfl)
def spCDrain : Sp Cgf := spNum 4 (fun t => t.drain) (fun t y => { t with drain := y })
theorem c_CDrain {w V : World} {p : Nat × Obj} {E L : List (Nat × Obj)} (h : Mem w V (p :: (E ++ L))) :
    Calls Tryz.prog 51 #[.int .i64 4, .func (.func 58) #[] #[]] V fun e V' => ∃ f E', e = .returned f.val ∧ Mem w V' (p :: (E' ++ L)) ∧ Sub E E' ∧ Fw w E' IC JC f spCDrain := by
  refine (mk_num_CU h 4 58).mono ?_
  rintro e V' ⟨bs, bo, rfl, hM⟩
  exact ⟨_, _ :: _ :: E, rfl, swap_front2 hM, fun q hq => List.mem_cons_of_mem _ (List.mem_cons_of_mem _ hq), (fd_num_CU bs bo 4 58 27 (by omega) fits32 _ _ (List.mem_cons_self ..) (List.mem_cons_of_mem _ (List.mem_cons_self ..)) (enters_of Tryz.func58 (by kernel_rfl) rfl) acc_CDrain (fun t r V g off h => h.cell 27 (cget h.1.len (by rintro ip a b c d f g a1 b1 c1 d1 f1 g1 a2 b2 c2 d2 f2 g2 k1 k2 k3 k4 k5 k6 k7 k8 dr te rfl; rfl))) (lens_C 27 (by omega) (fun t => .int .u32 t.drain) (fun y => .int .u32 y) (fun t y => { t with drain := y }) (fun t p h => cget h (by rintro ip a b c d f g a1 b1 c1 d1 f1 g1 a2 b2 c2 d2 f2 g2 k1 k2 k3 k4 k5 k6 k7 k8 dr te rfl; rfl)) (fun t y p h => cset h (by rintro ip a b c d f g a1 b1 c1 d1 f1 g1 a2 b2 c2 d2 f2 g2 k1 k2 k3 k4 k5 k6 k7 k8 dr te rfl; rfl)) (fun t y h => ⟨h.mac, h.omac, h.nmac, h.key⟩) (fun t y => rfl))).fw⟩
def spCCnt : Sp Cgf := spCnt (fun t => t.ten.length) set_ten
theorem c_CCnt {w V : World} {p : Nat × Obj} {E L : List (Nat × Obj)} (h : Mem w V (p :: (E ++ L))) :
    Calls Tryz.prog 59 #[.func (.func 49) #[] #[]] V fun e V' => ∃ f E', e = .returned f.val ∧ Mem w V' (p :: (E' ++ L)) ∧ Sub E E' ∧ Fw w E' IC JC f spCCnt := by
  refine (mk_Cnt_CT h 49).mono ?_
  rintro e V' ⟨bo, rfl, hM⟩
  refine ⟨_, _ :: E, rfl, swap_front hM, fun q hq => List.mem_cons_of_mem _ hq, (fd_Cnt_CT bo 49 28 _ _ (List.mem_cons_self ..) (enters_of Tryz.func49 (by kernel_rfl) rfl) acc_CCnt (fun r => r.1) (fun t r V g off h => ⟨?_, h.cell 28 (cget h.1.len (by rintro ip a b c d f g a1 b1 c1 d1 f1 g1 a2 b2 c2 d2 f2 g2 k1 k2 k3 k4 k5 k6 k7 k8 dr te rfl; rfl))⟩) lens_Cten).fw⟩
  obtain ⟨a, c, e, h1, h2, h3, -⟩ := h.2.2.2.1
  have hl : (r.2.map zc).length = t.ten.length := by rw [List.length_map, ← h.2.2.1, List.length_map]
  rw [hl] at e h1
  exact ⟨a, c, e, h1, h2, h3⟩
theorem c_CItm {w V : World} {p : Nat × Obj} {E L : List (Nat × Obj)} (h : Mem w V (p :: (E ++ L))) (fi : Fv) (hfi : Fd w E IT JT fi spT) :
    Calls Tryz.prog 60 #[.func (.func 49) #[] #[], fi.val] V fun e V' => ∃ f E', e = .returned f.val ∧ Mem w V' (p :: (E' ++ L)) ∧ Sub E E' ∧ Fw w E' IC JC f spTenants := by
  refine (mk_Itm_CT h 49 fi).mono ?_
  rintro e V' ⟨bo, bi, rfl, hM⟩
  exact ⟨_, _ :: _ :: E, rfl, swap_front2 hM, fun q hq => List.mem_cons_of_mem _ (List.mem_cons_of_mem _ hq), fw_Itm_CT bo bi 49 fi (hfi.more (fun q hq => List.mem_cons_of_mem _ (List.mem_cons_of_mem _ hq))) (List.mem_cons_self ..) (List.mem_cons_of_mem _ (List.mem_cons_self ..)) (enters_of Tryz.func49 (by kernel_rfl) rfl) acc_CCnt⟩
theorem c_tenant {w V : World} {p : Nat × Obj} {E L : List (Nat × Obj)} (h : Mem w V (p :: (E ++ L))) :
    Calls Tryz.prog 33 #[] V fun e V' => ∃ f E', e = .returned f.val ∧ Mem w V' (p :: (E' ++ L)) ∧ Sub E E' ∧ Fd w E' IT JT f spT := by
  refine (tenant_any h).mono ?_
  rintro e V' ⟨f, A, rfl, hM, hF⟩
  exact ⟨f, A ++ E, rfl, swap_app hM, fun q hq => List.mem_append_right _ hq, hF.more (fun q hq => List.mem_append_left _ hq)⟩
/-- The fields of settings, in their order. -/
def csp : List (Sp Cgf) := [spCIp, spCMac, spCOut, spCNext, spCKey, spCDrain, spCCnt, spTenants]
def spC : Sp Cgf := spAll csp
end Go.Proofs.YtngegdamcfmonaaGreat

