/-
  Settings held against one another: lychhelp.Tenant, at any two tenants.
  Settings held against one another: lychhelp.Tenant, at any two tenants.
  Settings held against one another: lychhelp.Tenant, at any two tenants.
  Settings held against one another: lychhelp.Tenant, at any two tenants.
  Settings held against one another: lychhelp.Tenant, at any two tenants.
-/
import Derived.Test.YtdigofgjhaakmaaGreatDoorW15
set_option linter.unusedVariables false
set_option maxRecDepth 20000
set_option maxHeartbeats 40000000
namespace Go.Proofs.YtdigofgjhaakmaaGreatDoor
open Go.RowKit
open Sm
open Cf
theorem ht_16 {w:World} {vn a b c d f g x y vt a1 b1 c1 d1 f1 g1 a2 b2 c2 d2 f2 g2 lo hi fi se qu ra bu vn' a' b' c' d' f' g' x' y' vt' a1' b1' c1' d1' f1' g1' a2' b2' c2' d2' f2' g2' lo' hi' fi' se' qu' ra' bu':Int} {n n':ByteArray} {po po':List Int} {st tw st' tw':List (Int×Int)} {pa sa qa pa' sa' qa':Option Addr} {pn pc sn sc qn qc pn' pc' sn' sc' qn' qc':Nat}
  (h0:(sb n=sb n'))
  (h1:(vn=vn'))
  (h2:([a,b,c,d,f,g,x,y]=[a',b',c',d',f',g',x',y']))
  (h3:(vt=vt'))
  (h4:([a1,b1,c1,d1,f1,g1]=[a1',b1',c1',d1',f1',g1']))
  (h5:([a2,b2,c2,d2,f2,g2]=[a2',b2',c2',d2',f2',g2']))
  (h6:(po=po'))
  (h7:(lo=lo'))
  (h8:(hi=hi'))
  (h9:(fi=fi'))
  (h10:(st=st'))
  (h11:(tw=tw'))
  (h12:(se=se'))
  (h13:(qu=qu'))
  (h14:(ra=ra'))
  (h15:(bu=bu'))
  (CN:∀ V,Below w.heap.size w V→Calls Tryz.prog 93 #[.slice pa pn pc,.slice pa' pn' pc'] V fun e V'=>e=.returned (.bool (decide (po=po')))∧∃ q,V'=V.drewN q)
  (CP:∀ V,Below w.heap.size w V→Calls Tryz.prog 94 #[.slice sa sn sc,.slice sa' sn' sc'] V fun e V'=>e=.returned (.bool (decide (st=st')))∧∃ q,V'=V.drewN q)
  (CQ:∀ V,Below w.heap.size w V→Calls Tryz.prog 94 #[.slice qa qn qc,.slice qa' qn' qc'] V fun e V'=>e=.returned (.bool (decide (tw=tw')))∧∃ q,V'=V.drewN q)
  : Calls Tryz.prog 67 #[.agg #[.string n,.int .u32 vn,.int .u8 a,.int .u8 b,.int .u8 c,.int .u8 d,.int .u8 f,.int .u8 g,.int .u8 x,.int .u8 y,.int .u32 vt,.int .u8 a1,.int .u8 b1,.int .u8 c1,.int .u8 d1,.int .u8 f1,.int .u8 g1,.int .u8 a2,.int .u8 b2,.int .u8 c2,.int .u8 d2,.int .u8 f2,.int .u8 g2,.slice pa pn pc,.int .u16 lo,.int .u16 hi,.int .i64 fi,.slice sa sn sc,.slice qa qn qc,.int .i64 se,.int .i64 qu,.int .u32 ra,.int .u32 bu],.agg #[.string n',.int .u32 vn',.int .u8 a',.int .u8 b',.int .u8 c',.int .u8 d',.int .u8 f',.int .u8 g',.int .u8 x',.int .u8 y',.int .u32 vt',.int .u8 a1',.int .u8 b1',.int .u8 c1',.int .u8 d1',.int .u8 f1',.int .u8 g1',.int .u8 a2',.int .u8 b2',.int .u8 c2',.int .u8 d2',.int .u8 f2',.int .u8 g2',.slice pa' pn' pc',.int .u16 lo',.int .u16 hi',.int .i64 fi',.slice sa' sn' sc',.slice qa' qn' qc',.int .i64 se',.int .i64 qu',.int .u32 ra',.int .u32 bu']] w fun e w'=>e=.returned (.bool true)∧Below w.heap.size w w':=by
 have e0:(n.toList == n'.toList)=true:=by rw [text_same];exact decide_eq_true h0
 have e1:(vn == vn')=true:=by simpa using h1
 have e2:∀ V,(Op.equalIn 10000 36 (.agg #[.int .u8 a,.int .u8 b,.int .u8 c,.int .u8 d,.int .u8 f,.int .u8 g,.int .u8 x,.int .u8 y]) (.agg #[.int .u8 a',.int .u8 b',.int .u8 c',.int .u8 d',.int .u8 f',.int .u8 g',.int .u8 x',.int .u8 y'])).run Tryz.prog V=.ok true V:=fun V=>by rw [key_eq];rw [decide_eq_true h2]
 have e3:(vt == vt')=true:=by simpa using h3
 have e4:∀ V,(Op.equalIn 10000 35 (.agg #[.int .u8 a1,.int .u8 b1,.int .u8 c1,.int .u8 d1,.int .u8 f1,.int .u8 g1]) (.agg #[.int .u8 a1',.int .u8 b1',.int .u8 c1',.int .u8 d1',.int .u8 f1',.int .u8 g1'])).run Tryz.prog V=.ok true V:=fun V=>by rw [mac_eq6];rw [decide_eq_true h4]
 have e5:∀ V,(Op.equalIn 10000 35 (.agg #[.int .u8 a2,.int .u8 b2,.int .u8 c2,.int .u8 d2,.int .u8 f2,.int .u8 g2]) (.agg #[.int .u8 a2',.int .u8 b2',.int .u8 c2',.int .u8 d2',.int .u8 f2',.int .u8 g2'])).run Tryz.prog V=.ok true V:=fun V=>by rw [mac_eq6];rw [decide_eq_true h5]
 have e6:decide (po=po')=true:=decide_eq_true h6
 have e7:(lo == lo')=true:=by simpa using h7
 have e8:(hi == hi')=true:=by simpa using h8
 have e9:(fi == fi')=true:=by simpa using h9
 have e10:decide (st=st')=true:=decide_eq_true h10
 have e11:decide (tw=tw')=true:=decide_eq_true h11
 have e12:(se == se')=true:=by simpa using h12
 have e13:(qu == qu')=true:=by simpa using h13
 have e14:(ra == ra')=true:=by simpa using h14
 have e15:(bu == bu')=true:=by simpa using h15
 clear h0 h1 h2 h3 h4 h5 h6 h7 h8 h9 h10 h11 h12 h13 h14 h15
 obtain ⟨W0,hW0⟩:∃ W0,W0=(w.alloc (.cells #[.string n,.int .u32 vn,.int .u8 a,.int .u8 b,.int .u8 c,.int .u8 d,.int .u8 f,.int .u8 g,.int .u8 x,.int .u8 y,.int .u32 vt,.int .u8 a1,.int .u8 b1,.int .u8 c1,.int .u8 d1,.int .u8 f1,.int .u8 g1,.int .u8 a2,.int .u8 b2,.int .u8 c2,.int .u8 d2,.int .u8 f2,.int .u8 g2,.slice pa pn pc,.int .u16 lo,.int .u16 hi,.int .i64 fi,.slice sa sn sc,.slice qa qn qc,.int .i64 se,.int .i64 qu,.int .u32 ra,.int .u32 bu] 46)).alloc (.cells #[.string n',.int .u32 vn',.int .u8 a',.int .u8 b',.int .u8 c',.int .u8 d',.int .u8 f',.int .u8 g',.int .u8 x',.int .u8 y',.int .u32 vt',.int .u8 a1',.int .u8 b1',.int .u8 c1',.int .u8 d1',.int .u8 f1',.int .u8 g1',.int .u8 a2',.int .u8 b2',.int .u8 c2',.int .u8 d2',.int .u8 f2',.int .u8 g2',.slice pa' pn' pc',.int .u16 lo',.int .u16 hi',.int .i64 fi',.slice sa' sn' sc',.slice qa' qn' qc',.int .i64 se',.int .i64 qu',.int .u32 ra',.int .u32 bu'] 46):=⟨_,rfl⟩
 have hB:Below w.heap.size w W0:=by rw [hW0];exact ((Below.refl _ _).alloc (Nat.le_refl _) _).alloc (by simp) _
 have HB:Hid (∀ q,Below w.heap.size w (W0.drewN q)):=fun q=>Go.below_drewN hB q
 clear hB
 rw [e6] at CN
 rw [e10] at CP
 rw [e11] at CQ
 have HN:Hid (∀ V,Below w.heap.size w V→Calls Tryz.prog 93 #[.slice pa pn pc,.slice pa' pn' pc'] V fun e V'=>e=.returned (.bool true)∧∃ q,V'=V.drewN q):=CN
 have HP:Hid (∀ V,Below w.heap.size w V→Calls Tryz.prog 94 #[.slice sa sn sc,.slice sa' sn' sc'] V fun e V'=>e=.returned (.bool true)∧∃ q,V'=V.drewN q):=CP
 have HQ:Hid (∀ V,Below w.heap.size w V→Calls Tryz.prog 94 #[.slice qa qn qc,.slice qa' qn' qc'] V fun e V'=>e=.returned (.bool true)∧∃ q,V'=V.drewN q):=CQ
 clear CN CP CQ
 clear e6
 clear e10
 clear e11
 go_enter Tryz.func67,Tryz.ntmps67
 go_wp2_with fail
 refine (HN.out _ (by rw [←hW0];exact HB.out 0)).mono ?_
 rintro e V ⟨rfl,q1,rfl⟩
 go_wp2_with fail
 refine (HP.out _ (by rw [←hW0];exact HB.out _)).mono ?_
 rintro e V ⟨rfl,q2,rfl⟩
 go_wp2_with fail
 refine (HQ.out _ (by rw [←hW0];exact HB.out _)).mono ?_
 rintro e V ⟨rfl,q3,rfl⟩
 go_wp2_with fail
 go_ret
 refine ⟨rfl,?_⟩
 rw [←hW0]
 exact HB.out _
end Go.Proofs.YtdigofgjhaakmaaGreatDoor
