/- Parts of the proof. -/
import Derived.Test.YtdigofgjhaakmaaGreatDoorF15
set_option linter.all false
set_option maxHeartbeats 40000000
set_option maxRecDepth 20000
open Go.Proofs.Tryz
namespace Go.Proofs.YtdigofgjhaakmaaGreatDoor
open Go.RowKit Sm Cf
theorem jt1 {w:World} {vn a b c d f g x y vt a1 b1 c1 d1 f1 g1 a2 b2 c2 d2 f2 g2 lo hi fi se qu ra bu k a' b' c' d' f' g' x' y' j R P M K I F Q O L J H E C D G m s r N:Int} {n n':ByteArray} {po U:List Int} {st tw T S:List (Int×Int)} {pa sa qa B p v:Option Addr} {pn pc sn sc qn qc z A l o t u:Nat}
  (h0:(sb n=sb n'))
  (h1:(vn=k))
  (h2:([a,b,c,d,f,g,x,y]=[a',b',c',d',f',g',x',y']))
  (h3:(vt=j))
  (h4:([a1,b1,c1,d1,f1,g1]=[R,P,M,K,I,F]))
  (h5:([a2,b2,c2,d2,f2,g2]=[Q,O,L,J,H,E]))
  (h6:(po=U))
  (h7:(lo=C))
  (h8:(hi=D))
  (h9:(fi=G))
  (a3:(st=T))
  (a0:(tw=S))
  (Z:(se=m))
  (Y:(qu=s))
  (X:(ra=r))
  (W:(bu=N))
  (CN:∀ V,Below w.heap.size w V->Calls prog 93 #[.slice pa pn pc,.slice B z A] V fun e i=>e=.returned (.bool (decide (po=U)))/\∃ q,i=V.drewN q)
  (CP:∀ V,Below w.heap.size w V->Calls prog 94 #[.slice sa sn sc,.slice p l o] V fun e i=>e=.returned (.bool (decide (st=T)))/\∃ q,i=V.drewN q)
  (CQ:∀ V,Below w.heap.size w V->Calls prog 94 #[.slice qa qn qc,.slice v t u] V fun e i=>e=.returned (.bool (decide (tw=S)))/\∃ q,i=V.drewN q)
  : Calls prog 67 #[.agg #[.string n,.int .u32 vn,.int .u8 a,.int .u8 b,.int .u8 c,.int .u8 d,.int .u8 f,.int .u8 g,.int .u8 x,.int .u8 y,.int .u32 vt,.int .u8 a1,.int .u8 b1,.int .u8 c1,.int .u8 d1,.int .u8 f1,.int .u8 g1,.int .u8 a2,.int .u8 b2,.int .u8 c2,.int .u8 d2,.int .u8 f2,.int .u8 g2,.slice pa pn pc,.int .u16 lo,.int .u16 hi,.int .i64 fi,.slice sa sn sc,.slice qa qn qc,.int .i64 se,.int .i64 qu,.int .u32 ra,.int .u32 bu],.agg #[.string n',.int .u32 k,.int .u8 a',.int .u8 b',.int .u8 c',.int .u8 d',.int .u8 f',.int .u8 g',.int .u8 x',.int .u8 y',.int .u32 j,.int .u8 R,.int .u8 P,.int .u8 M,.int .u8 K,.int .u8 I,.int .u8 F,.int .u8 Q,.int .u8 O,.int .u8 L,.int .u8 J,.int .u8 H,.int .u8 E,.slice B z A,.int .u16 C,.int .u16 D,.int .i64 G,.slice p l o,.slice v t u,.int .i64 m,.int .i64 s,.int .u32 r,.int .u32 N]] w fun e w'=>e=.returned (.bool true)/\Below w.heap.size w w':=by
 have e0:(n.toList==n'.toList)=true:=by rw [jek];exact decide_eq_true h0
 have e1:(vn==k)=true:=by simpa using h1
 have e2:∀ V,(Op.equalIn 10000 36 (.agg #[.int .u8 a,.int .u8 b,.int .u8 c,.int .u8 d,.int .u8 f,.int .u8 g,.int .u8 x,.int .u8 y]) (.agg #[.int .u8 a',.int .u8 b',.int .u8 c',.int .u8 d',.int .u8 f',.int .u8 g',.int .u8 x',.int .u8 y'])).run prog V=.ok true V:=fun V=>by rw [jls];rw [decide_eq_true h2]
 have e3:(vt==j)=true:=by simpa using h3
 have e4:∀ V,(Op.equalIn 10000 35 (.agg #[.int .u8 a1,.int .u8 b1,.int .u8 c1,.int .u8 d1,.int .u8 f1,.int .u8 g1]) (.agg #[.int .u8 R,.int .u8 P,.int .u8 M,.int .u8 K,.int .u8 I,.int .u8 F])).run prog V=.ok true V:=fun V=>by rw [j47];rw [decide_eq_true h4]
 have e5:∀ V,(Op.equalIn 10000 35 (.agg #[.int .u8 a2,.int .u8 b2,.int .u8 c2,.int .u8 d2,.int .u8 f2,.int .u8 g2]) (.agg #[.int .u8 Q,.int .u8 O,.int .u8 L,.int .u8 J,.int .u8 H,.int .u8 E])).run prog V=.ok true V:=fun V=>by rw [j47];rw [decide_eq_true h5]
 have e6:decide (po=U)=true:=decide_eq_true h6;have e7:(lo==C)=true:=by simpa using h7
 have e8:(hi==D)=true:=by simpa using h8
 have e9:(fi==G)=true:=by simpa using h9
 have a5:decide (st=T)=true:=decide_eq_true a3;have a4:decide (tw=S)=true:=decide_eq_true a0;have a9:(se==m)=true:=by simpa using Z
 have a8:(qu==s)=true:=by simpa using Y
 have a7:(ra==r)=true:=by simpa using X
 have a6:(bu==N)=true:=by simpa using W
 clear h0 h1 h2 h3 h4 h5 h6 h7 h8 h9 a3 a0 Z Y X W;obtain ⟨W0,h⟩:∃ W0,W0=(w.alloc (.cells #[.string n,.int .u32 vn,.int .u8 a,.int .u8 b,.int .u8 c,.int .u8 d,.int .u8 f,.int .u8 g,.int .u8 x,.int .u8 y,.int .u32 vt,.int .u8 a1,.int .u8 b1,.int .u8 c1,.int .u8 d1,.int .u8 f1,.int .u8 g1,.int .u8 a2,.int .u8 b2,.int .u8 c2,.int .u8 d2,.int .u8 f2,.int .u8 g2,.slice pa pn pc,.int .u16 lo,.int .u16 hi,.int .i64 fi,.slice sa sn sc,.slice qa qn qc,.int .i64 se,.int .i64 qu,.int .u32 ra,.int .u32 bu] 46)).alloc (.cells #[.string n',.int .u32 k,.int .u8 a',.int .u8 b',.int .u8 c',.int .u8 d',.int .u8 f',.int .u8 g',.int .u8 x',.int .u8 y',.int .u32 j,.int .u8 R,.int .u8 P,.int .u8 M,.int .u8 K,.int .u8 I,.int .u8 F,.int .u8 Q,.int .u8 O,.int .u8 L,.int .u8 J,.int .u8 H,.int .u8 E,.slice B z A,.int .u16 C,.int .u16 D,.int .i64 G,.slice p l o,.slice v t u,.int .i64 m,.int .i64 s,.int .u32 r,.int .u32 N] 46):=⟨_,rfl⟩;have hB:Below w.heap.size w W0:=by rw [h];exact ((Below.refl _ _).alloc (Nat.le_refl _) _).alloc (by simp) _
 have HB:Hid (∀ q,Below w.heap.size w (W0.drewN q)):=fun q=>Go.below_drewN hB q;clear hB;rw [e6] at CN;rw [a5] at CP;rw [a4] at CQ;have HN:Hid (∀ V,Below w.heap.size w V->Calls prog 93 #[.slice pa pn pc,.slice B z A] V fun e i=>e=.returned (.bool true)/\∃ q,i=V.drewN q):=CN;have HP:Hid (∀ V,Below w.heap.size w V->Calls prog 94 #[.slice sa sn sc,.slice p l o] V fun e i=>e=.returned (.bool true)/\∃ q,i=V.drewN q):=CP;have HQ:Hid (∀ V,Below w.heap.size w V->Calls prog 94 #[.slice qa qn qc,.slice v t u] V fun e i=>e=.returned (.bool true)/\∃ q,i=V.drewN q):=CQ;clear CN CP CQ;clear e6;clear a5;clear a4;go_enter func67,ntmps67;go_wp2_with fail;refine (HN.out _ (by rw [<-h];exact HB.out 0)).mono ?_;rintro e V ⟨rfl,q1,rfl⟩;go_wp2_with fail;refine (HP.out _ (by rw [<-h];exact HB.out _)).mono ?_;rintro e V ⟨rfl,q2,rfl⟩;go_wp2_with fail;refine (HQ.out _ (by rw [<-h];exact HB.out _)).mono ?_;rintro e V ⟨rfl,q3,rfl⟩;go_wp2_with fail;go_ret;refine ⟨rfl,?_⟩;rw [<-h];exact HB.out _
end Go.Proofs.YtdigofgjhaakmaaGreatDoor
