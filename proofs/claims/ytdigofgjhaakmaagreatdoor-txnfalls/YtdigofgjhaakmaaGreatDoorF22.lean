/- Parts of the proof. -/
import Derived.Test.YtdigofgjhaakmaaGreatDoorF21
import Derived.Test.YtdigofgjhaakmaaGreatDoorF20
import Derived.Lib.SplitLaws
import Derived.Sort.KeysCollected
set_option linter.all false
set_option maxHeartbeats 40000000
set_option maxRecDepth 20000
open Go.Proofs.Tryz
open List renaming getElem?_toArray->a1,getElem?_append_right->a2,eq_nil_of_length_eq_zero->a3,length_cons->a4,map_cons->a5,find?_cons->a6
open Nat renaming le_refl->a7,zero_le->a8,le_trans->a9
open Or renaming inr->aa,inl->ab
open Go.Lib renaming decodeGo->ac,validD->ad,decodeL->ae
open Go.Lit renaming string->af
open Go.DataW renaming insert->ag,held->ah
open Option renaming some->ai
namespace Go.Proofs.YtdigofgjhaakmaaGreatDoor
variable {s:ByteArray} {w V:World} {first:Bool} {f n b:Nat} {a:Option Addr} {v:Value} {p:Addr} {x:Int}
section
open Go.RowKit Sm Cf
def ActsW (w:World) (a:Option Addr) (n:Nat) (X:Nat->Ac):Prop:=∀ i,i<n->∃ b off,a=some ⟨b,off,none⟩/\w.rangeAt b (off+i*70) (aC (X i))/\(aC (X i)).length=70/\AcW w (X i)
def LgA (x:Ac):Prop:=Lgt x.y.1.t/\x.y.1.name.size<=300/\Lgts x.c.ten 5
theorem aC_6 (x:Ac):(aC x)[6]?=some (.string x.y.1.name):=rfl
theorem aC_7 (x:Ac):∀ j v,(tc x.y.1.t x.y.2.1 x.y.2.2.1 x.y.2.2.2)[j]?=some v->(aC x)[7+j]?=some v:=fun j v d=>by
 have c:=(List.getElem?_eq_some_iff.mp d).1;rw [show 7+j=j+1+1+1+1+1+1+1 by omega,aC,hc];simp only [List.getElem?_cons_succ,List.cons_append];rw [List.getElem?_append_left c];exact d
theorem js5 {c:Cgf} (h:CLen c) (u:Value):(cc c u).toArray[28]?=some u:=by
 obtain ⟨A,d,e⟩:∃ A:List Value,A.length=28/\∀ u,cc c u=A++[u]:=⟨.int .u32 c.ip::(c.mac.map (Value.int .u8)++(c.omac.map (Value.int .u8)++(c.nmac.map (Value.int .u8)++(c.key.map (Value.int .u8)++[.int .u32 c.drain])))),by simp [h.mac,h.omac,h.nmac,h.key],fun u=>by simp [cc]⟩;rw [e,a1,a2 (by omega),d];rfl
theorem jtc {x:Ac} (e:TLen x.y.1.t) (d:CLen x.c):(aC x)[69]?=some x.u:=by
 have h:(hc x.y.1 x.y.2.1 x.y.2.2.1 x.y.2.2.2).length=35:=by
  have:=ji e x.y.2.1 x.y.2.2.1 x.y.2.2.2;simp [hc,this]
 show (hc x.y.1 x.y.2.1 x.y.2.2.1 x.y.2.2.2++(.bool x.raw::cc x.c x.u))[64]?=_;rw [a2 (by omega),h];show (cc x.c x.u)[28]?=_;have:=js5 d x.u;rwa [a1] at this
def LiP (w:World) (n m:Nat) (X:Nat->Ac) (e:Ending) (V:World):Prop:=∃ R,e=.returned (.bool R)/\(R=true->n<=m/\∀ i,i<n->LgA (X i))/\Below w.heap.size w V
theorem jo8 {cap:Nat} {X:Nat->Ac} (h:ActsW w a n X) (m:Nat) (hm:m<=1000) :
 Calls prog 9 #[.slice a n cap,.int .i64 m] w (LiP w n m X):=by
 have HX:Hid (∀ i,i<n->∃ b d z s u,a=some ⟨b,d,none⟩/\z.length=33/\s=(X i).y.1.name/\∀ V,Below w.heap.size w V->(V.rangeAt b (d+i*70+7) z/\V.cell? ⟨b,d+i*70+6,none⟩=some (.string s)/\V.cell? ⟨b,d+i*70+69,none⟩=some u) /\
  (Calls prog 38 #[.agg z.toArray] V fun e w'=>e=.returned (.bool (decide (Lgt (X i).y.1.t)))/\Below V.heap.size V w') /\
  Calls prog 25 #[u,.int .i64 (5:Nat)] V fun e w'=>e=.returned (.bool (decide (Lgts (X i).c.ten 5)))/\Below V.heap.size V w'):=by
  intro i hi;obtain ⟨b,d,e,hr,-,hw⟩:=h i hi;refine ⟨b,d,tc (X i).y.1.t (X i).y.2.1 (X i).y.2.2.1 (X i).y.2.2.2,(X i).y.1.name,(X i).u,e,ji hw.len _ _ _,rfl,fun V l=>?_⟩;have hc:∀ j v,(aC (X i))[j]?=some v->V.cell? ⟨b,d+i*70+j,none⟩=some v:=fun j v G=>by
   have K:=hr j v G;exact (l.cell (p:=⟨b,d+i*70+j,none⟩) (j9 K)).trans K
  refine ⟨⟨fun j v G=>?_,hc 6 _ (aC_6 _),hc 69 _ (jtc hw.len hw.cin.len)⟩,?_,jd9 (hw.tsv.at_ l (a7 _)) 5 (by omega)⟩
  ·have:=hc (7+j) v (aC_7 _ j v G);rwa [<-Nat.add_assoc] at this
  ·refine j82 ⟨hw.len,_,_,_,rfl,?_⟩;obtain ⟨J,I,r3⟩:=hw.rws;exact ⟨J.below j1g l (a7 _),I.below zj l (a7 _),r3.below zj l (a7 _)⟩
 have Z:Hid (Below w.heap.size w w/\∀ j,j<0->LgA (X j)):=⟨Below.refl _ _,fun j G=>by omega⟩;clear h;go_enter func9,ntmps9;go_wp2_with fail
 go_loopw [5] (fun u5 w'=>∃ i:Nat,i<=n/\i<=m/\u5=.int .i64 i/\Hid (Below w.heap.size w w'/\∀ j,j<i->LgA (X j))) (fun u5 w'=>n-(intOf u5).toNat)
 case atStart=>exact ⟨0,a8 _,a8 _,rfl,Z⟩
 case round =>
  obtain ⟨i,hi,N,rfl,E⟩:=hrel;clear Z;by_cases hlt:i<n
  ·have K:(i:Int)<n:=by omega
   by_cases hlm:i<m
   ·have h2:(i:Int)<m:=by omega
    obtain ⟨b,d,z,s,u,rfl,hx,hs,l⟩:=HX.out i hlt;obtain ⟨⟨F,-,-⟩,W,-⟩:=l _ E.out.1;have L:(prog.info? 46).map (·.size)=some z.length:=by rw [hx];kernel_rfl
    have HV:Hid (∀ V,Below w.heap.size w V->(V.rangeAt b (d+i*70+7) z/\V.cell? ⟨b,d+i*70+6,none⟩=some (.string s)/\V.cell? ⟨b,d+i*70+69,none⟩=some u)/\(Calls prog 38 #[.agg z.toArray] V fun e w'=>e=.returned (.bool (decide (Lgt (X i).y.1.t)))/\Below V.heap.size V w')/\Calls prog 25 #[u,.int .i64 (5:Nat)] V fun e w'=>e=.returned (.bool (decide (Lgts (X i).c.ten 5)))/\Below V.heap.size V w'):=l;clear l hx;obtain ⟨J,B⟩:∃ r,decide (Lgt (X i).y.1.t)=r:=⟨_,rfl⟩;rw [B] at W;have T:Hid (decide (Lgt (X i).y.1.t)=J):=B;clear B;go_wp2_with (refine wpList_load_mid rfl 46 (.tmp 21) (by with_reducible rfl) b (d+i*70+7) (by first|rfl|simp [Act.eval]) z _ F underlying46 rfl L ?_)
    refine W.mono ?_;rintro e Y ⟨rfl,H⟩;have D:=E.out.1.trans (H.mono E.out.1.size);obtain ⟨⟨-,cs,cu⟩,-,C2⟩:=HV.out Y D;have q:Hid (Below w.heap.size w Y):=D;clear W F H D;cases J
    ·go_wp2_with fail;go_ret;exact ⟨_,rfl,(fun h=>by cases h),q.out⟩
    ·obtain ⟨g,M⟩:∃ k,s.size=k:=⟨_,rfl⟩;have U:Hid ((X i).y.1.name.size=g):=by rw [<-hs];exact M
     by_cases h3:g<=300
     ·have R:¬((300:Int)<(g:Int)):=by omega
      have P:decide ((300:Int)<(g:Int))=false:=by simp;omega
      have a0:¬300<g:=by omega
      have O:decide (300<g)=false:=by simp;omega
      obtain ⟨I,A⟩:∃ r,decide (Lgts (X i).c.ten 5)=r:=⟨_,rfl⟩;rw [A] at C2;have S:Hid (decide (Lgts (X i).c.ten 5)=I):=A;clear A hs;go_wp2_with fail;refine C2.mono ?_;rintro e V2 ⟨rfl,hb2⟩;have C:=q.out.trans (hb2.mono q.out.size);cases I
      ·go_wp2_with fail;go_ret;exact ⟨_,rfl,(fun h=>by cases h),C⟩
      ·have HN:Hid (Below w.heap.size w V2/\∀ j,j<i+1->LgA (X j)):=⟨C,fun j G=>by
        by_cases e:j=i
        ·subst e;exact ⟨of_decide_eq_true T.out,by rw [U.out];exact h3,of_decide_eq_true S.out⟩
        ·exact E.out.2 j (by omega)⟩
       clear hb2 C;go_wp2_with fail;go_roundw
       case rel=>exact ⟨i+1,by omega,by omega,by go_num,HN⟩
       case measure=>simp [intOf];omega
     ·have R:(300:Int)<(g:Int):=by omega
      have P:decide ((300:Int)<(g:Int))=true:=by simp;omega
      have O:decide (300<g)=true:=by simp;omega
      clear hs;go_wp2_with fail;go_ret;exact ⟨_,rfl,(fun h=>by cases h),q.out⟩
   ·obtain rfl:i=m:=by omega
    have h2:¬((i:Int)<(i:Int)):=by omega
    have h4:¬((n:Int)<=(i:Int)):=by omega
    have h5:¬(n<=i):=by omega
    go_wp2_with fail;go_ret;exact ⟨_,rfl,(fun h=>by first|(simp at h;omega)|cases h),E.out.1⟩
  ·obtain rfl:i=n:=by omega
   have K:¬((i:Int)<(i:Int)):=by omega
   have h4:((i:Int)<=(m:Int)):=by omega
   go_wp2_with fail;go_ret;exact ⟨_,rfl,fun _=>⟨N,E.out.2⟩,E.out.1⟩
end
section
namespace Ad
end Ad
end
section
open Go.RowKit Ad
theorem j9y (r:Int) (w:World):Calls prog 313 #[.int .i32 r] w fun e w'=>e=.returned (.bool (decide (48<=r/\r<=57)))/\w=w':=by
 by_cases h1:48<=r
 ·by_cases h2:r<=57
  ·have hd:decide (48<=r/\r<=57)=true:=by simp;omega
   rw [hd];go_enter func313,ntmps313
   go_wp2
   go_ret;exact ⟨by first|rfl|simp [h2],rfl⟩
  ·have hd:decide (48<=r/\r<=57)=false:=by simp;omega
   rw [hd];go_enter func313,ntmps313
   go_wp2
   go_ret;exact ⟨by first|rfl|simp [h2],rfl⟩
 ·have hd:decide (48<=r/\r<=57)=false:=by simp;omega
  rw [hd];go_enter func313,ntmps313
  go_wp2
  go_ret;exact ⟨rfl,rfl⟩
theorem wrap64 (d:-9223372036854775808<=x) (c:x<=9223372036854775807):IntKind.i64.wrap x=x:=by
 simp [IntKind.wrap,IntKind.bits,IntKind.signed];omega
theorem jde (w:World) (s:ByteArray) (p:Nat):Below w.heap.size w (w.iter s p):=(Below.refl _ w).alloc (a7 _) _
theorem j0k (s:ByteArray):s.toList==([]:List UInt8) ↔ s.size=0:=by
 rw [ByteArray.toList_eq];have:s.data.toList.length=s.size:=by rw [Array.length_toList];rfl
 simp only [beq_iff_eq];constructor
 ·intro h;rw [h] at this;exact this.symm
 ·intro h;rw [h] at this;exact a3 this
end
section
open Go.RowKit Sm Cf
namespace Df
def nk (t:Ten):List UInt8:=t.name.data.toList
theorem jnx (t:Ten):(⟨(nk t).toArray⟩:ByteArray)=t.name:=by simp [nk]
def stp (M:List Ten) (h:Chg):List Ten:=if h.put then put nk h.t true M else del nk h.name.data.toList M
def app (l:List Ten) (c:List Chg):List Ten:=c.foldl stp (byn nk l)
theorem app_nil (l:List Ten):app l []=byn nk l:=rfl
theorem jnz {M:List Ten} {c:Chg} {x:Ten} (h:x∈stp M c):x∈M\/(c.put=true/\x=c.t):=by
 unfold stp at h;split at h
 ·rename_i d;rcases j6c h with h|h
  ·exact aa ⟨d,h⟩
  ·exact ab h
 ·exact ab (jg1.1 h).1
theorem jjo {c:List Chg}:∀ {M:List Ten} {x:Ten},x∈c.foldl stp M->x∈M\/∃ h∈c,h.put=true/\x=h.t:=by
 induction c with
 | nil=>intro M x h;exact ab h
 | cons y c ih =>
  intro M x h;rcases ih h with h|⟨z,hz,h1⟩
  ·rcases jnz h with h|h
   ·exact ab h
   ·exact aa ⟨y,by simp,h⟩
  ·exact aa ⟨z,by simp [hz],h1⟩
theorem jo0 {l:List Ten} {c:List Chg} {x:Ten} (h:x∈app l c):x∈l\/∃ h∈c,h.put=true/\x=h.t:=by
 rcases jjo h with h|h
 ·exact ab (j6d h)
 ·exact aa h
theorem jcp (M:List Ten) (c:Chg):(stp M c).length<=M.length+1:=by
 unfold stp;split
 ·exact j2a _ _ _
 ·exact a9 (jdt _ _) (Nat.le_succ _)
theorem j92 (c:List Chg):∀ M:List Ten,(c.foldl stp M).length<=M.length+c.length:=by
 induction c with
 | nil=>simp
 | cons x c ih=>intro M;have:=ih (stp M x);have:=jcp M x;simp only [List.foldl_cons,a4];omega
theorem j5i (l:List Ten) (c:List Chg):(app l c).length<=l.length+c.length:=a9 (j92 c _) (Nat.add_le_add_right (j5h l) _)
theorem jej {t z:Ten}:jaq t z ↔ t=z:=by
 constructor
 ·intro h;obtain ⟨n,Y,key,X,Z,ho,po,lo,hi,fi,st,tw,se,qu,ra,bu⟩:=t;obtain ⟨F,I,G,H,J,S,P,R,T,U,L,K,M,O,N,W⟩:=z;obtain ⟨c,E,D,C,B,A,u,r,q,m,l,k,j,i,g,d⟩:=h;simp only at c E D C B A u r q m l k j i g d;have e:n=F:=by
   obtain ⟨⟨a⟩⟩:=n;obtain ⟨⟨b⟩⟩:=F;simp only [sb] at c;have:a=b:=List.map_inj_right (f:=fun b:UInt8=>(b.toNat:Int)) (fun x y h=>UInt8.toNat.inj (Int.ofNat.inj h)) |>.1 c;rw [this]
  subst e E D C B A u r q m l k j i g d;rfl
 ·rintro rfl;exact ⟨rfl,rfl,rfl,rfl,rfl,rfl,rfl,rfl,rfl,rfl,rfl,rfl,rfl,rfl,rfl,rfl⟩
end Df
end
section
open Go.RowKit Ad
structure Vs (w:World):Prop where
 utf:Lib.Utf8Tabs 2 3 w
theorem jp1 (h:w.cell? p=some v):p.block<w.heap.size:=by
 by_cases hc:p.block<w.heap.size
 ·exact hc
 ·have:w.heap[p.block]?=none:=by simp;omega
  simp [World.cell?,this] at h
theorem Vs.below {w':World} (h:Vs w) (hb:Below w.heap.size w w'):Vs w' where
 utf:=Utf8Tabs_below h.utf hb
theorem jdu (c:Vs w) (s:ByteArray) :
  Calls prog 80 #[.string s] w fun e w'=>e=.returned (.tuple #[.int .i32 (ac s).1,.int .i64 (ac s).2])/\Below w.heap.size w w' :=
 Tryz.utf8_DecodeRuneInString s w c.utf
theorem jed (c:Vs w) (s:ByteArray) (hs:s.size<=1000000) :
  Calls prog 258 #[.string s] w fun e w'=>e=.returned (.bool (ad s.data.toList))/\Below w.heap.size w w' :=
 Any.utf8_ValidString Tryz.lays196 s w (by omega) c.utf
namespace Ad
def mb (r:Nat):Bool:=decide ((97<=r/\r<=122)\/127<r)
def mf (r:Nat):Bool:=decide ((48<=r/\r<=57)\/r=45)
def okr (first:Bool) (r:Nat):Bool:=mb r || (!first && mf r)
def pn:Nat->Bool->List UInt8->Bool
 | 0,_,_=>true
 | f+1,first,l=>if l=[] then true else if okr first (ae l).1 then pn f false (l.drop (ae l).2) else false
def rn:Nat->Bool->List UInt8->Bool
 | 0,_,_=>true
 | f+1,first,[]=>true
 | f+1,first,b::t=>if b.toNat<128 then (if okr first b.toNat then rn f false t else false)
  else if (ae (b::t)).1=65533/\(ae (b::t)).2=1 then false else rn f false ((b::t).drop (ae (b::t)).2)
theorem jac (b:UInt8) (t:List UInt8) (h:128<=b.toNat):128<=(ae (b::t)).1:=by
 unfold ae;have hs:(⟨(b::t).toArray⟩:ByteArray).size=t.length+1:=by show (b::t).toArray.size=_;simp
 exact (decode_high ⟨(b::t).toArray⟩ 0 (by omega) (by show 128<=((b::t).toArray[0]).toNat;simpa using h)).1
theorem jnl:∀ (f:Nat) (first:Bool) (l:List UInt8),l.length<=f->(ad l && pn f first l)=rn f first l
 | 0,first,l,h=>by
  have:l=[]:=a3 (by omega);subst this;rfl
 | f+1,first,[],h=>by rw [pn,rn,if_pos rfl,Lib.validD_nil];rfl
 | f+1,first,b::t,h=>by
  have d:b::t≠[]:=by simp
  have hw:=Lib.decodeL_width (b::t);simp only [a4] at h;rw [pn,if_neg d,rn,Lib.validD_step _ d];by_cases ha:b.toNat<128
  ·rw [if_pos ha,Lib.decodeL_ascii b t ha,if_neg (by simp;omega)];simp only [List.drop_succ_cons,List.drop_zero];by_cases c:okr first b.toNat=true
   ·rw [if_pos c,if_pos c];exact jnl f false t (by omega)
   ·rw [if_neg c,if_neg c,Bool.and_false]
  ·rw [if_neg ha];have hd:=jac b t (by omega);have c:okr first (ae (b::t)).1=true:=by
    unfold okr mb;rw [decide_eq_true (aa (by omega)),Bool.true_or]
   rw [if_pos c];by_cases hbad:(ae (b::t)).1=65533/\(ae (b::t)).2=1
   ·rw [if_pos hbad,if_pos hbad,Bool.false_and]
   ·rw [if_neg hbad,if_neg hbad];apply jnl;rw [List.length_drop,a4];omega
def nam (l:List UInt8):Bool:=decide (1<=l.length/\l.length<=32) && rn l.length true l
theorem jqm (f:Nat) (first:Bool):pn f first []=true:=by cases f<;>simp [pn]
theorem jnk {l:List UInt8} (c:l≠[]) (d:l.length<=f):pn f first l=if okr first (ae l).1 then pn (f-1) false (l.drop (ae l).2) else false:=by
 cases f with
 | zero=>exact absurd (a3 (by omega)) c
 | succ f=>rw [pn,if_neg c];rfl
theorem jqe (f:Nat) (first:Bool):rn f first []=true:=by cases f<;>simp [rn]
theorem jqf {b:UInt8} {t:List UInt8} (c:(b::t).length<=f) (h:b.toNat<128):rn f first (b::t)=if okr first b.toNat then rn (f-1) false t else false:=by
 cases f with
 | zero=>simp at c
 | succ f=>rw [rn,if_pos h];rfl
theorem jnb {b:UInt8} {t:List UInt8} (c:(b::t).length<=f) (h:¬b.toNat<128):rn f first (b::t)=if (ae (b::t)).1=65533/\(ae (b::t)).2=1 then false else rn (f-1) false ((b::t).drop (ae (b::t)).2):=by
 cases f with
 | zero=>simp at c
 | succ f=>rw [rn,if_neg h];rfl
end Ad
end
section
open Go.RowKit Sm Cf Df
open Go.Maps (Keyed)
namespace Df
def fk (z:Tv):List UInt8:=nk z.1
def tv (z:Tv):Value:=.agg (zc z).toArray
def RH:Value->Option (DataW Value×List MemPlace):=fun v=>some (.held v,[])
def en (z:Tv):Lit×DataW Value:=(.string (fk z),.held (tv z))
def DM (M:List Tv):DataW Value:=.map (M.map en)
def MV (V:World) (b n:Nat) (M:List Tv):Prop:=V.ownsMap prog 9 RH b n (DM M)/\Srt fk M
theorem law9:Keyed prog 9:=Go.Maps.string_keyed underlying9
theorem j4m (a b:List UInt8):(af a).before (.string b)=decide (a<b):=by
 rw [<-bytesLess_eq];show bytesBefore a b=_
 induction a generalizing b with
 | nil=>cases b<;>rfl
 | cons x a ih =>
  cases b with
  | nil=>rfl
  | cons y b=>simp only [bytesBefore,Op.bytesLess];rw [ih]
theorem same_eq (a b:List UInt8):(af a).sameKey (.string b)=decide (a=b):=by
 by_cases h:a=b
 ·subst h;simp [Lit.sameKey]
 ·simp [Lit.sameKey,h]
theorem j8j (n:List UInt8) (M:List Tv):(M.map en).filter (fun p=>!p.1.sameKey (.string n))=(del fk n M).map en:=by
 unfold del;rw [List.filter_map];congr 1;apply List.filter_congr;intro x _;show (!(af (fk x)).sameKey (.string n))=_;rw [same_eq];simp
theorem jro (n:List UInt8) (M:List Tv):(DM M).del (.string n)=DM (del fk n M):=by
 unfold DM;show DataW.map _=_;rw [j8j]
theorem j8i (z:Tv):∀ {M:List Tv},Srt fk M->ag (en z) ((del fk (fk z) M).map en)=(put fk z true M).map en
 | [],_=>rfl
 | y::r,h=>by
  obtain ⟨i,q⟩:=List.pairwise_cons.1 h;have j:=j8i z q;unfold put;by_cases hy:fk y<fk z
  ·have g:fk y≠fk z:=j6f hy;have e:del fk (fk z) (y::r)=y::del fk (fk z) r:=by simp [del,List.filter_cons,g]
   rw [e,if_pos hy,a5,a5];unfold ag;have hb:(en z).1.before (en y).1=false:=by
    show (af (fk z)).before (.string (fk y))=false;rw [j4m];exact decide_eq_false fun m=>j81 _ (jg5 m hy)
   rw [hb];simp only [Bool.false_eq_true,if_false];rw [j]
  ·rw [if_neg hy];by_cases he:fk y=fk z
   ·have e:del fk (fk z) (y::r)=r:=by
     rw [<-he];have:=jlz h (k:=0) (by simp);simpa using this
    rw [e,if_pos he];simp only [if_true,a5];cases r with
    | nil=>rfl
    | cons x r =>
     have hb:(en z).1.before (en x).1=true:=by
      show (af (fk z)).before (.string (fk x))=true;rw [j4m,<-he];exact decide_eq_true (i x (by simp))
     simp only [a5,ag];rw [hb];rfl
   ·have d:=jo6 hy he;have e:del fk (fk z) (y::r)=y::r:=jly fun k l=>by
     have c:(y::r)[k]∈y::r:=List.getElem_mem l;rcases List.mem_cons.1 c with c|c
     ·rw [c];exact he
     ·exact (j6f (jg5 d (i _ c))).symm
    rw [e,if_neg he];have hb:(en z).1.before (en y).1=true:=by
     show (af (fk z)).before (.string (fk y))=true;rw [j4m];exact decide_eq_true d
    simp only [a5,ag];rw [hb];rfl
theorem jrm {M:List Tv} (h:Srt fk M) (z:Tv):(DM M).put (.string (fk z)) (.held (tv z))=DM (put fk z true M):=by
 unfold DM;show DataW.map (ag _ _)=_;rw [j8j];exact congrArg _ (j8i z h)
theorem jab (n:List UInt8):∀ M:List Tv,(M.map en).find? (fun p=>p.1.sameKey (.string n))=(look fk n M).map en
 | []=>rfl
 | y::r=>by
  have c:=jab n r;unfold look at c ⊢;rw [a5,a6,a6];show (match (af (fk y)).sameKey (.string n) with|true=>_|false=>_)=_;rw [same_eq];by_cases h:fk y=n
  ·simp [h]
  ·simp [h];simpa using c
theorem jrn (n:List UInt8) (M:List Tv):Go.Maps.has (DM M) (.string n)=(look fk n M).isSome:=by
 show (M.map en).any (fun p=>p.1.sameKey (.string n))=_;have h:=jab n M;cases hl:look fk n M with
 | none =>
  rw [hl] at h;show (M.map en).any (fun p=>p.1.sameKey (.string n))=false;rw [List.any_eq_false];intro x hx;have:=List.find?_eq_none.1 h x hx;simpa using this
 | some z =>
  rw [hl] at h;show (M.map en).any (fun p=>p.1.sameKey (.string n))=true;rw [List.any_eq_true];exact ⟨en z,List.mem_of_find?_eq_some h,List.find?_some (p:=fun p:Lit×DataW Value=>p.1.sameKey (.string n)) h⟩
theorem jrp (n:List UInt8) (M:List Tv) (zd:DataW Value):(DM M).atKey (.string n) zd=match look fk n M with|some z=>.held (tv z)|none=>zd:=by
 unfold DM DataW.atKey;simp only;rw [jab];cases look fk n M<;>rfl
theorem jos (M:List Tv):strKeys (DM M)=M.map fk:=by
 show (M.map en).map (fun p=>strOf p.1)=_;rw [List.map_map];rfl
def vat (M:List Tv) (n:List UInt8):Value:=match look fk n M with|some z=>tv z|none=>.agg tz
theorem jpm (w:World):(zeroValue 46).run prog w=.ok (.agg tz) w:=by kernel_rfl
theorem jk0 (h:s.size<=maxLen):keyOf prog 9 (.string s)=some (.string s.data.toList):=Go.WideMaps.keyOf_string_mk underlying9 h
theorem MV.below {d:World} {B:Nat} {M:List Tv} (h:MV V b n M) (hb:Below B V d) (k:V.heap.size<=B):MV d b n M:=by
 have e:=h.1.lt;obtain ⟨⟨j,c,i,g⟩,hs⟩:=h;exact ⟨⟨j,c,(hb.block b (by omega)).trans i,g⟩,hs⟩
theorem MV.size {M:List Tv} (h:MV V b n M):M.length<=n:=by
 have:=h.1.size_le;simpa [DM,Go.Maps.size] using this
theorem MV.made (w:World):MV (w.alloc (.map #[] 0)) w.heap.size 0 []:=⟨World.ownsMap_made w prog 9 RH,List.Pairwise.nil⟩
section
variable {w:World} {ops:Array Oper} {rest:List Oper} {o:Oper} {a:Act} {Q:Exit->Act->World->Prop}
theorem jck (i:o.guard=none) (m x:Operand) (d:o.op=Op.lookup 138 m x true) {M:List Tv} (g:a.eval m=.map (some b)) (h:MV w b n M) (hs:s.size<=maxLen) (hx:a.eval x=.string s)
  (j:wpList prog ops Q rest (a.put o.dst (.tuple #[vat M s.data.toList,.bool (look fk s.data.toList M).isSome])) w):wpList prog ops Q (o::rest) a w:=by
 refine wpList_lookup_own_ok w i m x 138 d 9 46 law9 underlying138 RH (jpm w) (.held (.agg tz)) [] rfl b n (DM M) g h.1 (.string s) _ hx (jk0 hs) ?_;intro v k c;rw [jrp] at c;rw [jrn];have e:v=vat M s.data.toList:=by
  unfold vat;cases hl:look fk s.data.toList M with
  | none =>
   rw [hl] at c;simp only [RH,ai.injEq,Prod.mk.injEq,ah.injEq] at c;exact c.1
  | some z =>
   rw [hl] at c;simp only [RH,ai.injEq,Prod.mk.injEq,ah.injEq] at c;exact c.1
 rw [e];exact j
theorem jm7 (k:o.guard=none) (m x:Operand) (g:o.op=Op.lookup 138 m x false) {M:List Tv} (j:a.eval m=.map (some b)) (h:MV w b n M) (hs:s.size<=maxLen) (hx:a.eval x=.string s)
  (l:wpList prog ops Q rest (a.put o.dst (vat M s.data.toList)) w):wpList prog ops Q (o::rest) a w:=by
 refine wpList_plain k fun r i=>?_;obtain ⟨v,q,d,c⟩:=h.1.lookup law9 underlying138 (jpm w) (zd:=.held (.agg tz)) (zp:=[]) rfl (jk0 hs);rw [jrp] at c;have e:v=vat M s.data.toList:=by
  unfold vat;cases hl:look fk s.data.toList M with
  | none =>
   rw [hl] at c;simp only [RH,ai.injEq,Prod.mk.injEq,ah.injEq] at c;exact c.1
  | some z =>
   rw [hl] at c;simp only [RH,ai.injEq,Prod.mk.injEq,ah.injEq] at c;exact c.1
 subst e;unfold Oper.wp;simp [execOp,g,j,hx,d,Result.andThen];exact i _ _ l
theorem jat (j:o.guard=none) (m x v:Operand) (c:o.op=Op.mapUpdate 138 m x v) {M:List Tv} (i:a.eval m=.map (some b)) (h:MV w b n M) (g:n<maxLen) (z:Tv) (hs:z.1.name.size<=maxLen) (hx:a.eval x=.string z.1.name) (e:a.eval v=tv z)
  (k:∀ w',MV w' b (n+1) (put fk z true M)->w.grownBy w' (some b)->wpList prog ops Q rest (a.put o.dst undef) w'):wpList prog ops Q (o::rest) a w:=by
 refine wpList_mapUpdate_own w j m x v 138 c 9 46 law9 underlying138 RH b n (DM M) i h.1 g _ _ _ hx e (jk0 hs) (.held (tv z)) [] rfl ?_;intro w' d l;rw [show z.1.name.data.toList=fk z from rfl,jrm h.2] at d;exact k w' ⟨d,j0i h.2⟩ l
theorem jm8 (g:o.guard=none) (m x:Operand) (c:o.op=Op.call { callee:=Callee.builtin Builtin.delete,args:=#[m,x],argTypes:=#[138,9] }) {M:List Tv} (e:a.eval m=.map (some b)) (h:MV w b n M) (hs:s.size<=maxLen) (hx:a.eval x=.string s)
  (i:∀ w',MV w' b n (del fk s.data.toList M)->w.grownBy w' (some b)->wpList prog ops Q rest (a.put o.dst (.tuple #[])) w'):wpList prog ops Q (o::rest) a w:=by
 refine wpList_delete_own w g m x 138 9 c 46 law9 underlying138 RH b n (DM M) e h.1 _ _ hx (jk0 hs) ?_;intro w' d j;rw [jro] at d;exact i w' ⟨d,jf0 h.2⟩ j.grown
end
theorem j4v {M:List Tv} (h:Srt fk M) {z y:Tv} (c:look fk (fk z) M=some y):put fk z false M=M:=by
 refine jbv (j0i h) h fun n=>?_;by_cases e:fk z=n
 ·subst e;rw [qg h,c];rfl
 ·rw [kn e]
theorem j4w {M:List Tv} (h:Srt fk M) {z:Tv} (c:look fk (fk z) M=none):put fk z false M=put fk z true M:=by
 refine jbv (j0i h) (j0i h) fun n=>?_;by_cases e:fk z=n
 ·subst e;rw [qg h,qg h,c];rfl
 ·rw [kn e,kn e]
end Df
end
end Go.Proofs.YtdigofgjhaakmaaGreatDoor
