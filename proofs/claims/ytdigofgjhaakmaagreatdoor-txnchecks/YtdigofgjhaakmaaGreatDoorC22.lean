/- Parts of the proof. -/
import Derived.Test.YtdigofgjhaakmaaGreatDoorC21
import Derived.Test.YtdigofgjhaakmaaGreatDoorC20
import Derived.Lib.SplitLaws
import Derived.Sort.KeysCollected
set_option linter.all false
set_option maxHeartbeats 40000000
set_option maxRecDepth 20000
open Go.Proofs.Tryz
open List renaming eq_nil_of_length_eq_zero->a0,length_cons->a1,map_cons->a2,find?_cons->a3
open Or renaming inr->a4,inl->a5
open Go.Lib renaming decodeGo->a6,validD->a7,decodeL->a8
open Go.Lit renaming string->a9
open Go.DataW renaming insert->aa,held->ab
open Option renaming some->ac
namespace Go.Proofs.YtdigofgjhaakmaaGreatDoor
variable {s:ByteArray} {first:Bool} {w V:World} {f b n:Nat} {v:Value} {p:Addr} {x:Int}
section
open Go.RowKit Sm Cf
end
section
namespace Ad
end Ad
end
section
open Go.RowKit Ad
theorem j8i (r:Int) (w:World):Calls prog 313 #[.int .i32 r] w fun e w'=>e=.returned (.bool (decide (48<=r/\r<=57)))/\w=w':=by
 by_cases h1:48<=r
 ·by_cases h2:r<=57
  ·have hd:decide (48<=r/\r<=57)=true:=by simp;omega
   rw [hd];go_enter func313,ntmps313
   go_wp2
   go_ret;exact ⟨by first|rfl|simp [h2],rfl⟩
  ·have hd:decide (48<=r/\r<=57)=false:=by simp;omega
   rw [hd];go_enter func313,ntmps313
   go_wp2
   go_ret;exact ⟨by first|rfl|simp [h2],rfl⟩
 ·have hd:decide (48<=r/\r<=57)=false:=by simp;omega
  rw [hd];go_enter func313,ntmps313
  go_wp2
  go_ret;exact ⟨rfl,rfl⟩
theorem wrap64 (d:-9223372036854775808<=x) (c:x<=9223372036854775807):IntKind.i64.wrap x=x:=by
 simp [IntKind.wrap,IntKind.bits,IntKind.signed];omega
theorem jbq (w:World) (s:ByteArray) (p:Nat):Below w.heap.size w (w.iter s p):=(Below.refl _ w).alloc (Nat.le_refl _) _
theorem j05 (s:ByteArray):s.toList==([]:List UInt8) ↔ s.size=0:=by
 rw [ByteArray.toList_eq];have:s.data.toList.length=s.size:=by rw [Array.length_toList];rfl
 simp only [beq_iff_eq];constructor
 ·intro h;rw [h] at this;exact this.symm
 ·intro h;rw [h] at this;exact a0 this
end
section
open Go.RowKit Sm Cf
namespace Df
def nk (t:Ten):List UInt8:=t.name.data.toList
theorem jl4 (t:Ten):(⟨(nk t).toArray⟩:ByteArray)=t.name:=by simp [nk]
def stp (M:List Ten) (h:Chg):List Ten:=if h.put then put nk h.t true M else del nk h.name.data.toList M
def app (l:List Ten) (c:List Chg):List Ten:=c.foldl stp (byn nk l)
theorem app_nil (l:List Ten):app l []=byn nk l:=rfl
theorem jl6 {M:List Ten} {c:Chg} {x:Ten} (h:x∈stp M c):x∈M\/(c.put=true/\x=c.t):=by
 unfold stp at h;split at h
 ·rename_i d;rcases j56 h with h|h
  ·exact a4 ⟨d,h⟩
  ·exact a5 h
 ·exact a5 (jdz.1 h).1
theorem jhb {c:List Chg}:∀ {M:List Ten} {x:Ten},x∈c.foldl stp M->x∈M\/∃ h∈c,h.put=true/\x=h.t:=by
 induction c with
 | nil=>intro M x h;exact a5 h
 | cons y c ih =>
  intro M x h;rcases ih h with h|⟨z,hz,h1⟩
  ·rcases jl6 h with h|h
   ·exact a5 h
   ·exact a4 ⟨y,by simp,h⟩
  ·exact a4 ⟨z,by simp [hz],h1⟩
theorem jl7 {l:List Ten} {c:List Chg} {x:Ten} (h:x∈app l c):x∈l\/∃ h∈c,h.put=true/\x=h.t:=by
 rcases jhb h with h|h
 ·exact a5 (j58 h)
 ·exact a4 h
theorem jb3 (M:List Ten) (c:Chg):(stp M c).length<=M.length+1:=by
 unfold stp;split
 ·exact j1m _ _ _
 ·exact Nat.le_trans (jc0 _ _) (Nat.le_succ _)
theorem j7q (c:List Chg):∀ M:List Ten,(c.foldl stp M).length<=M.length+c.length:=by
 induction c with
 | nil=>simp
 | cons x c ih=>intro M;have:=ih (stp M x);have:=jb3 M x;simp only [List.foldl_cons,a1];omega
theorem j4k (l:List Ten) (c:List Chg):(app l c).length<=l.length+c.length:=Nat.le_trans (j7q c _) (Nat.add_le_add_right (j4j l) _)
theorem jcm {t z:Ten}:j97 t z ↔ t=z:=by
 constructor
 ·intro h;obtain ⟨n,Y,key,X,Z,ho,po,lo,hi,fi,st,tw,se,qu,ra,bu⟩:=t;obtain ⟨F,I,G,H,J,S,P,R,T,U,L,K,M,O,N,W⟩:=z;obtain ⟨c,E,D,C,B,A,u,r,q,m,l,k,j,i,g,d⟩:=h;simp only at c E D C B A u r q m l k j i g d;have e:n=F:=by
   obtain ⟨⟨a⟩⟩:=n;obtain ⟨⟨b⟩⟩:=F;simp only [sb] at c;have:a=b:=List.map_inj_right (f:=fun b:UInt8=>(b.toNat:Int)) (fun x y h=>UInt8.toNat.inj (Int.ofNat.inj h)) |>.1 c;rw [this]
  subst e E D C B A u r q m l k j i g d;rfl
 ·rintro rfl;exact ⟨rfl,rfl,rfl,rfl,rfl,rfl,rfl,rfl,rfl,rfl,rfl,rfl,rfl,rfl,rfl,rfl⟩
end Df
end
section
open Go.RowKit Ad
structure Vs (w:World):Prop where
 utf:Lib.Utf8Tabs 2 3 w
theorem jm4 (h:w.cell? p=some v):p.block<w.heap.size:=by
 by_cases hc:p.block<w.heap.size
 ·exact hc
 ·have:w.heap[p.block]?=none:=by simp;omega
  simp [World.cell?,this] at h
theorem Vs.below {w':World} (h:Vs w) (hb:Below w.heap.size w w'):Vs w' where
 utf:=Utf8Tabs_below h.utf hb
theorem jc1 (c:Vs w) (s:ByteArray) :
  Calls prog 80 #[.string s] w fun e w'=>e=.returned (.tuple #[.int .i32 (a6 s).1,.int .i64 (a6 s).2])/\Below w.heap.size w w' :=
 Tryz.utf8_DecodeRuneInString s w c.utf
theorem jch (c:Vs w) (s:ByteArray) (hs:s.size<=1000000) :
  Calls prog 258 #[.string s] w fun e w'=>e=.returned (.bool (a7 s.data.toList))/\Below w.heap.size w w' :=
 Any.utf8_ValidString Tryz.lays196 s w (by omega) c.utf
namespace Ad
def mb (r:Nat):Bool:=decide ((97<=r/\r<=122)\/127<r)
def mf (r:Nat):Bool:=decide ((48<=r/\r<=57)\/r=45)
def okr (first:Bool) (r:Nat):Bool:=mb r || (!first && mf r)
def pn:Nat->Bool->List UInt8->Bool
 | 0,_,_=>true
 | f+1,first,l=>if l=[] then true else if okr first (a8 l).1 then pn f false (l.drop (a8 l).2) else false
def rn:Nat->Bool->List UInt8->Bool
 | 0,_,_=>true
 | f+1,first,[]=>true
 | f+1,first,b::t=>if b.toNat<128 then (if okr first b.toNat then rn f false t else false)
  else if (a8 (b::t)).1=65533/\(a8 (b::t)).2=1 then false else rn f false ((b::t).drop (a8 (b::t)).2)
theorem j8u (b:UInt8) (t:List UInt8) (h:128<=b.toNat):128<=(a8 (b::t)).1:=by
 unfold a8;have hs:(⟨(b::t).toArray⟩:ByteArray).size=t.length+1:=by show (b::t).toArray.size=_;simp
 exact (decode_high ⟨(b::t).toArray⟩ 0 (by omega) (by show 128<=((b::t).toArray[0]).toNat;simpa using h)).1
theorem jkr:∀ (f:Nat) (first:Bool) (l:List UInt8),l.length<=f->(a7 l && pn f first l)=rn f first l
 | 0,first,l,h=>by
  have:l=[]:=a0 (by omega);subst this;rfl
 | f+1,first,[],h=>by rw [pn,rn,if_pos rfl,Lib.validD_nil];rfl
 | f+1,first,b::t,h=>by
  have d:b::t≠[]:=by simp
  have hw:=Lib.decodeL_width (b::t);simp only [a1] at h;rw [pn,if_neg d,rn,Lib.validD_step _ d];by_cases ha:b.toNat<128
  ·rw [if_pos ha,Lib.decodeL_ascii b t ha,if_neg (by simp;omega)];simp only [List.drop_succ_cons,List.drop_zero];by_cases c:okr first b.toNat=true
   ·rw [if_pos c,if_pos c];exact jkr f false t (by omega)
   ·rw [if_neg c,if_neg c,Bool.and_false]
  ·rw [if_neg ha];have hd:=j8u b t (by omega);have c:okr first (a8 (b::t)).1=true:=by
    unfold okr mb;rw [decide_eq_true (a4 (by omega)),Bool.true_or]
   rw [if_pos c];by_cases hbad:(a8 (b::t)).1=65533/\(a8 (b::t)).2=1
   ·rw [if_pos hbad,if_pos hbad,Bool.false_and]
   ·rw [if_neg hbad,if_neg hbad];apply jkr;rw [List.length_drop,a1];omega
def nam (l:List UInt8):Bool:=decide (1<=l.length/\l.length<=32) && rn l.length true l
theorem jnk (f:Nat) (first:Bool):pn f first []=true:=by cases f<;>simp [pn]
theorem jkq {l:List UInt8} (c:l≠[]) (d:l.length<=f):pn f first l=if okr first (a8 l).1 then pn (f-1) false (l.drop (a8 l).2) else false:=by
 cases f with
 | zero=>exact absurd (a0 (by omega)) c
 | succ f=>rw [pn,if_neg c];rfl
theorem jnc (f:Nat) (first:Bool):rn f first []=true:=by cases f<;>simp [rn]
theorem jnd {b:UInt8} {t:List UInt8} (c:(b::t).length<=f) (h:b.toNat<128):rn f first (b::t)=if okr first b.toNat then rn (f-1) false t else false:=by
 cases f with
 | zero=>simp at c
 | succ f=>rw [rn,if_pos h];rfl
theorem jkj {b:UInt8} {t:List UInt8} (c:(b::t).length<=f) (h:¬b.toNat<128):rn f first (b::t)=if (a8 (b::t)).1=65533/\(a8 (b::t)).2=1 then false else rn (f-1) false ((b::t).drop (a8 (b::t)).2):=by
 cases f with
 | zero=>simp at c
 | succ f=>rw [rn,if_neg h];rfl
end Ad
end
section
open Go.RowKit Sm Cf Df
open Go.Maps (Keyed)
namespace Df
def fk (z:Tv):List UInt8:=nk z.1
def tv (z:Tv):Value:=.agg (zc z).toArray
def RH:Value->Option (DataW Value×List MemPlace):=fun v=>some (.held v,[])
def en (z:Tv):Lit×DataW Value:=(.string (fk z),.held (tv z))
def DM (M:List Tv):DataW Value:=.map (M.map en)
def MV (V:World) (b n:Nat) (M:List Tv):Prop:=V.ownsMap prog 9 RH b n (DM M)/\Srt fk M
theorem law9:Keyed prog 9:=Go.Maps.string_keyed underlying9
theorem j3p (a b:List UInt8):(a9 a).before (.string b)=decide (a<b):=by
 rw [<-bytesLess_eq];show bytesBefore a b=_
 induction a generalizing b with
 | nil=>cases b<;>rfl
 | cons x a ih =>
  cases b with
  | nil=>rfl
  | cons y b=>simp only [bytesBefore,Op.bytesLess];rw [ih]
theorem same_eq (a b:List UInt8):(a9 a).sameKey (.string b)=decide (a=b):=by
 by_cases h:a=b
 ·subst h;simp [Lit.sameKey]
 ·simp [Lit.sameKey,h]
theorem j75 (n:List UInt8) (M:List Tv):(M.map en).filter (fun p=>!p.1.sameKey (.string n))=(del fk n M).map en:=by
 unfold del;rw [List.filter_map];congr 1;apply List.filter_congr;intro x _;show (!(a9 (fk x)).sameKey (.string n))=_;rw [same_eq];simp
theorem jom (n:List UInt8) (M:List Tv):(DM M).del (.string n)=DM (del fk n M):=by
 unfold DM;show DataW.map _=_;rw [j75]
theorem j74 (z:Tv):∀ {M:List Tv},Srt fk M->aa (en z) ((del fk (fk z) M).map en)=(put fk z true M).map en
 | [],_=>rfl
 | y::r,h=>by
  obtain ⟨i,q⟩:=List.pairwise_cons.1 h;have j:=j74 z q;unfold put;by_cases hy:fk y<fk z
  ·have g:fk y≠fk z:=j5a hy;have e:del fk (fk z) (y::r)=y::del fk (fk z) r:=by simp [del,List.filter_cons,g]
   rw [e,if_pos hy,a2,a2];unfold aa;have hb:(en z).1.before (en y).1=false:=by
    show (a9 (fk z)).before (.string (fk y))=false;rw [j3p];exact decide_eq_false fun m=>j6n _ (je2 m hy)
   rw [hb];simp only [Bool.false_eq_true,if_false];rw [j]
  ·rw [if_neg hy];by_cases he:fk y=fk z
   ·have e:del fk (fk z) (y::r)=r:=by
     rw [<-he];have:=jje h (k:=0) (by simp);simpa using this
    rw [e,if_pos he];simp only [if_true,a2];cases r with
    | nil=>rfl
    | cons x r =>
     have hb:(en z).1.before (en x).1=true:=by
      show (a9 (fk z)).before (.string (fk x))=true;rw [j3p,<-he];exact decide_eq_true (i x (by simp))
     simp only [a2,aa];rw [hb];rfl
   ·have d:=jlc hy he;have e:del fk (fk z) (y::r)=y::r:=jjd fun k l=>by
     have c:(y::r)[k]∈y::r:=List.getElem_mem l;rcases List.mem_cons.1 c with c|c
     ·rw [c];exact he
     ·exact (j5a (je2 d (i _ c))).symm
    rw [e,if_neg he];have hb:(en z).1.before (en y).1=true:=by
     show (a9 (fk z)).before (.string (fk y))=true;rw [j3p];exact decide_eq_true d
    simp only [a2,aa];rw [hb];rfl
theorem jok {M:List Tv} (h:Srt fk M) (z:Tv):(DM M).put (.string (fk z)) (.held (tv z))=DM (put fk z true M):=by
 unfold DM;show DataW.map (aa _ _)=_;rw [j75];exact congrArg _ (j74 z h)
theorem j8t (n:List UInt8):∀ M:List Tv,(M.map en).find? (fun p=>p.1.sameKey (.string n))=(look fk n M).map en
 | []=>rfl
 | y::r=>by
  have c:=j8t n r;unfold look at c ⊢;rw [a2,a3,a3];show (match (a9 (fk y)).sameKey (.string n) with|true=>_|false=>_)=_;rw [same_eq];by_cases h:fk y=n
  ·simp [h]
  ·simp [h];simpa using c
theorem jol (n:List UInt8) (M:List Tv):Go.Maps.has (DM M) (.string n)=(look fk n M).isSome:=by
 show (M.map en).any (fun p=>p.1.sameKey (.string n))=_;have h:=j8t n M;cases hl:look fk n M with
 | none =>
  rw [hl] at h;show (M.map en).any (fun p=>p.1.sameKey (.string n))=false;rw [List.any_eq_false];intro x hx;have:=List.find?_eq_none.1 h x hx;simpa using this
 | some z =>
  rw [hl] at h;show (M.map en).any (fun p=>p.1.sameKey (.string n))=true;rw [List.any_eq_true];exact ⟨en z,List.mem_of_find?_eq_some h,List.find?_some (p:=fun p:Lit×DataW Value=>p.1.sameKey (.string n)) h⟩
theorem jon (n:List UInt8) (M:List Tv) (zd:DataW Value):(DM M).atKey (.string n) zd=match look fk n M with|some z=>.held (tv z)|none=>zd:=by
 unfold DM DataW.atKey;simp only;rw [j8t];cases look fk n M<;>rfl
theorem jlx (M:List Tv):strKeys (DM M)=M.map fk:=by
 show (M.map en).map (fun p=>strOf p.1)=_;rw [List.map_map];rfl
def vat (M:List Tv) (n:List UInt8):Value:=match look fk n M with|some z=>tv z|none=>.agg tz
theorem jmn (w:World):(zeroValue 46).run prog w=.ok (.agg tz) w:=by kernel_rfl
theorem jhn (h:s.size<=maxLen):keyOf prog 9 (.string s)=some (.string s.data.toList):=Go.WideMaps.keyOf_string_mk underlying9 h
theorem MV.below {d:World} {B:Nat} {M:List Tv} (h:MV V b n M) (hb:Below B V d) (k:V.heap.size<=B):MV d b n M:=by
 have e:=h.1.lt;obtain ⟨⟨j,c,i,g⟩,hs⟩:=h;exact ⟨⟨j,c,(hb.block b (by omega)).trans i,g⟩,hs⟩
theorem MV.size {M:List Tv} (h:MV V b n M):M.length<=n:=by
 have:=h.1.size_le;simpa [DM,Go.Maps.size] using this
theorem MV.made (w:World):MV (w.alloc (.map #[] 0)) w.heap.size 0 []:=⟨World.ownsMap_made w prog 9 RH,List.Pairwise.nil⟩
section
variable {w:World} {ops:Array Oper} {rest:List Oper} {o:Oper} {a:Act} {Q:Exit->Act->World->Prop}
theorem jax (i:o.guard=none) (m x:Operand) (d:o.op=Op.lookup 138 m x true) {M:List Tv} (g:a.eval m=.map (some b)) (h:MV w b n M) (hs:s.size<=maxLen) (hx:a.eval x=.string s)
  (j:wpList prog ops Q rest (a.put o.dst (.tuple #[vat M s.data.toList,.bool (look fk s.data.toList M).isSome])) w):wpList prog ops Q (o::rest) a w:=by
 refine wpList_lookup_own_ok w i m x 138 d 9 46 law9 underlying138 RH (jmn w) (.held (.agg tz)) [] rfl b n (DM M) g h.1 (.string s) _ hx (jhn hs) ?_;intro v k c;rw [jon] at c;rw [jol];have e:v=vat M s.data.toList:=by
  unfold vat;cases hl:look fk s.data.toList M with
  | none =>
   rw [hl] at c;simp only [RH,ac.injEq,Prod.mk.injEq,ab.injEq] at c;exact c.1
  | some z =>
   rw [hl] at c;simp only [RH,ac.injEq,Prod.mk.injEq,ab.injEq] at c;exact c.1
 rw [e];exact j
theorem jji (k:o.guard=none) (m x:Operand) (g:o.op=Op.lookup 138 m x false) {M:List Tv} (j:a.eval m=.map (some b)) (h:MV w b n M) (hs:s.size<=maxLen) (hx:a.eval x=.string s)
  (l:wpList prog ops Q rest (a.put o.dst (vat M s.data.toList)) w):wpList prog ops Q (o::rest) a w:=by
 refine wpList_plain k fun r i=>?_;obtain ⟨v,q,d,c⟩:=h.1.lookup law9 underlying138 (jmn w) (zd:=.held (.agg tz)) (zp:=[]) rfl (jhn hs);rw [jon] at c;have e:v=vat M s.data.toList:=by
  unfold vat;cases hl:look fk s.data.toList M with
  | none =>
   rw [hl] at c;simp only [RH,ac.injEq,Prod.mk.injEq,ab.injEq] at c;exact c.1
  | some z =>
   rw [hl] at c;simp only [RH,ac.injEq,Prod.mk.injEq,ab.injEq] at c;exact c.1
 subst e;unfold Oper.wp;simp [execOp,g,j,hx,d,Result.andThen];exact i _ _ l
theorem j9c (j:o.guard=none) (m x v:Operand) (c:o.op=Op.mapUpdate 138 m x v) {M:List Tv} (i:a.eval m=.map (some b)) (h:MV w b n M) (g:n<maxLen) (z:Tv) (hs:z.1.name.size<=maxLen) (hx:a.eval x=.string z.1.name) (e:a.eval v=tv z)
  (k:∀ w',MV w' b (n+1) (put fk z true M)->w.grownBy w' (some b)->wpList prog ops Q rest (a.put o.dst undef) w'):wpList prog ops Q (o::rest) a w:=by
 refine wpList_mapUpdate_own w j m x v 138 c 9 46 law9 underlying138 RH b n (DM M) i h.1 g _ _ _ hx e (jhn hs) (.held (tv z)) [] rfl ?_;intro w' d l;rw [show z.1.name.data.toList=fk z from rfl,jok h.2] at d;exact k w' ⟨d,j03 h.2⟩ l
theorem jjj (g:o.guard=none) (m x:Operand) (c:o.op=Op.call { callee:=Callee.builtin Builtin.delete,args:=#[m,x],argTypes:=#[138,9] }) {M:List Tv} (e:a.eval m=.map (some b)) (h:MV w b n M) (hs:s.size<=maxLen) (hx:a.eval x=.string s)
  (i:∀ w',MV w' b n (del fk s.data.toList M)->w.grownBy w' (some b)->wpList prog ops Q rest (a.put o.dst (.tuple #[])) w'):wpList prog ops Q (o::rest) a w:=by
 refine wpList_delete_own w g m x 138 9 c 46 law9 underlying138 RH b n (DM M) e h.1 _ _ hx (jhn hs) ?_;intro w' d j;rw [jom] at d;exact i w' ⟨d,jd4 h.2⟩ j.grown
end
theorem j3w {M:List Tv} (h:Srt fk M) {z y:Tv} (c:look fk (fk z) M=some y):put fk z false M=M:=by
 refine jac (j03 h) h fun n=>?_;by_cases e:fk z=n
 ·subst e;rw [km h,c];rfl
 ·rw [kd e]
theorem j3x {M:List Tv} (h:Srt fk M) {z:Tv} (c:look fk (fk z) M=none):put fk z false M=put fk z true M:=by
 refine jac (j03 h) (j03 h) fun n=>?_;by_cases e:fk z=n
 ·subst e;rw [km h,km h,c];rfl
 ·rw [kd e,kd e]
end Df
end
end Go.Proofs.YtdigofgjhaakmaaGreatDoor
