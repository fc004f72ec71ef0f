/- Parts of the proof. -/
import Derived.Test.YtdigofgjhaakmaaGreatDoorF10
set_option linter.all false
set_option maxHeartbeats 40000000
set_option maxRecDepth 20000
open Go.Proofs.Tryz
open List renaming length_append->aa,length_cons->ab,append_assoc->ac,getElem?_append_left->ad,getElem?_append_right->ae,set_append_right->af,drop_eq_getElem_cons->ag,take_of_length_le->ah,eq_nil_of_length_eq_zero->ai,length_take->aj,drop_eq_nil_of_le->ak,mem_cons_of_mem->al,mem_cons_self->am,length_map->an,mem_append_right->ao,mem_append_left->ap
open Nat renaming add_assoc->aq,succ_mul->ar,le_refl->au
open Go.IntKind renaming i64->av,wrap_i64->aw,u16->ax
open List.Perm renaming swap->ay,trans->az
open Go.Value renaming int->aA
namespace Go.Proofs.YtdigofgjhaakmaaGreatDoor
variable {E:Array Value} {V w W wr:World} {L K:List (Nat×Obj)} {a:Option Addr} {most b2 gp off n i j:Nat} {r l:List Int} {v:Value}
section
open Go.RowKit Sm
def pcQ (e:En) (most i:Nat) (x:Option Addr×Nat):List Value:=[.int .u64 e.t,.int .i64 e.c,.int .i64 i,.int .i64 (npc most e.r.length),.slice x.1 (lspc e most i).b.length x.2]
def pcL (e:En) (most:Nat):Nat->List (Option Addr×Nat)->List Value
 | _,[]=>[]
 | i,x::l=>pcQ e most i x++pcL e most (i+1) l
theorem jd5 (e:En) (most i:Nat) (l:List (Option Addr×Nat)):(pcL e most i l).length=l.length*5:=by
 induction l generalizing i with
 | nil=>rfl
 | cons x l ih=>rw [pcL,aa,ih,ab];simp [pcQ];omega
theorem jj8 (e:En) (most i:Nat) (l:List (Option Addr×Nat)) (x:Option Addr×Nat):pcL e most i (l++[x])=pcL e most i l++pcQ e most (i+l.length) x:=by
 induction l generalizing i with
 | nil=>simp [pcL]
 | cons y l ih=>rw [List.cons_append,pcL,ih,pcL,ac,ab,aq,Nat.add_comm 1]
theorem jno (e:En) (most:Nat) (l:List (Option Addr×Nat)) (j f:Nat) (x:Option Addr×Nat) (hx:l[j]?=some x) (c:f<5) (i:Nat):(pcL e most i l)[j*5+f]?=(pcQ e most (i+j) x)[f]?:=by
 induction l generalizing i j with
 | nil=>simp at hx
 | cons y l ih =>
  cases j with
  | zero =>
   simp at hx;subst hx;rw [pcL,ad (by simp [pcQ];omega)];simp
  | succ j =>
   simp at hx;have b:(pcQ e most i y).length=5:=rfl;rw [pcL,ae (by omega),b,show (j+1)*5+f-5=j*5+f by omega,ih j hx (i+1),show i+1+j=i+(j+1) by omega]
theorem jnn:(prog.info? pcT).map (fun i=>(i.zero,i.size,i.bytes))=some (some (.agg pc0),5,56):=by kernel_rfl
theorem j9u (n:Nat) (h:n<=1000000) (w:World):(Instr.makeSlice 179 (.int .i64 (n:Int)) (.int .i64 (n:Int))).run prog w=.ok (.slice (some ⟨w.heap.size,0,none⟩) n n) (w.alloc (.cells (madeCells pc0 (n*5)) pcT)):=by
 obtain ⟨i,hi,d,b,c⟩:=info_parts jnn;have hr:=run_make (P:=prog) w 179 pcT i (.agg pc0) underlying179 hi d .i64 .i64 n n (by omega) (Int.le_refl _) (by rw [c];omega) (by omega);simp only [Int.toNat_natCast,b] at hr;exact hr
theorem set5 (A R:List Value) (k:Nat) (t:A.length=k) (a b c d e:Value) (s q o g f:Value) :
  ((((((A++(s::q::o::g::f::R)).toArray.setIfInBounds k a).setIfInBounds (k+1) b).setIfInBounds (k+2) c).setIfInBounds (k+3) d).setIfInBounds (k+4) e).toList=A++([a,b,c,d,e]++R):=by
 subst t;simp only [Array.toList_setIfInBounds];rw [af _ _ (by omega),af _ _ (by omega),af _ _ (by omega),af _ _ (by omega),af _ _ (by omega)];simp
theorem joo (l:List Value) (k:Nat) (h:k+5<=l.length):∃ g f d c b R,l=l.take k++(g::f::d::c::b::R)/\R=l.drop (k+5):=by
 have e:l.drop k=l[k]::l[k+1]::l[k+2]::l[k+3]::l[k+4]::l.drop (k+5):=by
  rw [ag (show k<l.length by omega),ag (show k+1<l.length by omega),ag (show k+1+1<l.length by omega),ag (show k+1+1+1<l.length by omega),ag (show k+1+1+1+1<l.length by omega)]
 exact ⟨_,_,_,_,_,_,by rw [<-e,List.take_append_drop],rfl⟩
structure SpAt (W wr:World) (b2 gp:Nat) (E:Array Value) (e:En) (most n:Nat) (xs:List (Option Addr×Nat)):Prop where
 mem:∃ cur:Array Value,Mem W wr [(b2,.cells E enT (0,0)),(gp,.cells cur pcT (0,0))]/\cur.size=n*5/\cur.toList.take (xs.length*5)=pcL e most 0 xs
theorem SpAt.put {e:En} {xs:List (Option Addr×Nat)} (h:SpAt W wr b2 gp E e most n xs) (y:xs.length<n) (x:Option Addr×Nat) (hi:xs.length=i) :
  SpAt W ((((((wr.setCell ⟨gp,i*5,none⟩ (.int .u64 e.t)).setCell ⟨gp,i*5+1,none⟩ (.int .i64 e.c)).setCell ⟨gp,i*5+2,none⟩ (.int .i64 i)).setCell ⟨gp,i*5+3,none⟩ (.int .i64 (npc most e.r.length))).setCell ⟨gp,i*5+4,none⟩ (.slice x.1 (lspc e most i).b.length x.2))) b2 gp E e most n (xs++[x]):=by
 obtain ⟨d,A,hs,hc⟩:=h.mem;subst hi;have B:=((((A.set 1 rfl (xs.length*5) (.int .u64 e.t)).set 1 rfl (xs.length*5+1) (.int .i64 e.c)).set 1 rfl (xs.length*5+2) (.int .i64 xs.length)).set 1 rfl (xs.length*5+3) (.int .i64 (npc most e.r.length))).set 1 rfl (xs.length*5+4) (.slice x.1 (lspc e most xs.length).b.length x.2);refine ⟨_,B,by simp [hs],?_⟩;have z:d.toList.length=n*5:=by rw [Array.length_toList];exact hs
 obtain ⟨u,s,q,o,k,R,F,-⟩:=joo d.toList (xs.length*5) (by omega);have g:=jd5 e most 0 xs;have f:=set5 (d.toList.take (xs.length*5)) R (xs.length*5) (by rw [hc,g]) (.int .u64 e.t) (.int .i64 e.c) (.int .i64 xs.length) (.int .i64 (npc most e.r.length)) (.slice x.1 (lspc e most xs.length).b.length x.2) u s q o k;rw [<-F] at f;have C:d.toList.toArray=d:=by simp
 rw [C] at f;rw [f,hc,jj8,Nat.zero_add,aa,List.length_singleton,<-ac];exact List.take_left' (by rw [aa,g];simp;omega)
theorem SpAt.cell {e:En} {xs:List (Option Addr×Nat)} (h:SpAt W wr b2 gp E e most n xs) (d:j<n*5):∃ v,wr.cell? ⟨gp,j,none⟩=some v:=by
 obtain ⟨c,b,hs,hc⟩:=h.mem;rw [b.cell 1 rfl j];exact ⟨_,Array.getElem?_eq_getElem (by omega)⟩
theorem SpAt.free {e:En} {xs:List (Option Addr×Nat)} (h:SpAt W wr b2 gp E e most n xs) (j:Nat):wr.frozen? ⟨gp,j,none⟩=false:=by
 obtain ⟨c,b,hs,hc⟩:=h.mem;exact b.free 1 rfl j
theorem SpAt.box {e:En} {xs:List (Option Addr×Nat)} (h:SpAt W wr b2 gp E e most n xs) (j:Nat):wr.cell? ⟨b2,j,none⟩=E[j]?:=by
 obtain ⟨c,b,hs,hc⟩:=h.mem;exact b.cell 0 rfl j
theorem SpAt.drew {e:En} {xs:List (Option Addr×Nat)} (h:SpAt W wr b2 gp E e most n xs):SpAt W wr.drew b2 gp E e most n xs:=by
 obtain ⟨b,c,hs,hc⟩:=h.mem;exact ⟨b,c.drew,hs,hc⟩
def Part (a:Option Addr) (r:List Int) (a':Option Addr) (l:List Int):Prop:=∀ V,Row V a r->Row V a' l
theorem j1p (V:World) (a:Option Addr):Row V a []:=⟨fun i=>by simp,by simp,Or.inl rfl⟩
theorem j7r {b:Nat} (h:Part a r (some ⟨b,off,none⟩) l) (k:Nat) (d:k<=l.length):Part a r (some ⟨b,off,none⟩) (l.take k)/\Part a r (some ⟨b,off+k,none⟩) (l.drop k):=by
 refine ⟨fun V c=>?_,fun V c=>?_⟩
 ·have:=(h V c).part 0 k (by omega);simpa using this
 ·have:=(h V c).part k (l.length-k) (by omega);rwa [ah (by simp)] at this
theorem jd7 (e:En) {k cap:Nat} (hk:e.r.length=k) (a1:k<=cap) (a5:(a=none/\cap=0)\/∃ b off,a=some ⟨b,off,none⟩) (c2:1<=most) (c1:most<=65536) (hl:k<=1000000000) (hn:npc most k<=1000) :
  Calls prog 121 #[.agg (enA e.s e.t e.c (.slice a k cap)),.int .i64 most] W fun ev W'=>∃ gp,ev=.returned (.slice (some ⟨gp,0,none⟩) (npc most k) (npc most k))/\∃ xs,xs.length=npc most k/\(∀ j x,xs[j]?=some x->Part a e.r x.1 (lspc e most j).b/\(lspc e most j).b.length<=x.2)/\∃ J,J.toList=pcL e most 0 xs/\∃ K,Mem W W' ((gp,.cells J pcT (0,0))::K):=by
 have hA:Mem W (W.alloc (.cells (enA e.s e.t e.c (.slice a k cap)) enT)) [(W.heap.size,.cells (enA e.s e.t e.c (.slice a k cap)) enT (0,0))]:=(Mem.nil W).push1 rfl;have k3:(W.alloc (.cells (enA e.s e.t e.c (.slice a k cap)) enT)).cell? ⟨W.heap.size,3,none⟩=some (.slice a k cap):=hA.cell 0 rfl 3;obtain ⟨n,hN⟩:∃ n,n=npc most k:=⟨_,rfl⟩;have a7:=j9u n (by omega) (W.alloc (.cells (enA e.s e.t e.c (.slice a k cap)) enT));have hB:=hA.push (W.heap.size+1) (.cells (madeCells pc0 (n*5)) pcT) (by simp);rw [show (W.alloc (.cells (enA e.s e.t e.c (.slice a k cap)) enT)).heap.size=W.heap.size+1 by simp] at a7;have a2:Hid (SpAt W ((W.alloc (.cells (enA e.s e.t e.c (.slice a k cap)) enT)).alloc (.cells (madeCells pc0 (n*5)) pcT)) W.heap.size (W.heap.size+1) (enA e.s e.t e.c (.slice a k cap)) e most n []):=⟨⟨_,hB,by rw [size_madeCells],by simp [pcL]⟩⟩;have HQ:Hid ((k=0/\((k:Int)+most-1) / (most:Int)=0/\n=1)\/(((k:Int)+most-1) / (most:Int)=1/\n=1)\/(((k:Int)+most-1) / (most:Int)=(n:Int)/\1<n)):=by
  have e:((k:Int)+most-1) / (most:Int)=(((k+most-1) / most:Nat):Int):=by rw [Int.natCast_ediv,Int.natCast_sub (by omega),Int.natCast_add];rfl
  show _\/_\/_;rw [e,hN];unfold npc;by_cases hk0:k=0
  ·left;subst hk0;have:(0+most-1) / most=0:=Nat.div_eq_of_lt (by omega);refine ⟨rfl,by rw [this];rfl,by rw [this];rfl⟩
  ·right;have h1:1<=(k+most-1) / most:=by rw [Nat.le_div_iff_mul_le (by omega)];omega
   by_cases S:(k+most-1) / most=1
   ·left;rw [S];exact ⟨rfl,rfl⟩
   ·right;exact ⟨by omega,by omega⟩
 have b7:((W.alloc (.cells (enA e.s e.t e.c (.slice a k cap)) enT)).alloc (.cells (madeCells pc0 (n*5)) pcT)).cell? ⟨W.heap.size,3,none⟩=some (.slice a k cap):=hB.cell 0 rfl 3;generalize b8:(W.alloc (.cells (enA e.s e.t e.c (.slice a k cap)) enT)).alloc (.cells (madeCells pc0 (n*5)) pcT)=wB at *;generalize b9:W.alloc (.cells (enA e.s e.t e.c (.slice a k cap)) enT)=wA at *;have w1:av.wrap ((k:Int)+most)=(k:Int)+most:=by rw [aw];omega
 have w2:av.wrap ((k:Int)+most-1)=(k:Int)+most-1:=by rw [aw];omega
 have a6:(0:Int)<=(k:Int)+most-1:=by omega
 have c0:(0:Int)<most:=by omega
 rw [<-hN] at hn ⊢;have b4:Hid (n=npc most k):=hN;clear hA hB hN;go_enter func121,ntmps121;go_upto_region 1 with fail
 go_cut [5] from 10 (fun s5 wx=>s5=.int .i64 n/\wx=wA)
 case first =>
  rcases HQ.out with ⟨-,h1,S⟩|⟨h1,S⟩|⟨h1,S⟩
  ·subst S;go_wp2_with fail;go_meet
   case rel=>exact ⟨rfl,rfl⟩
  ·subst S;go_wp2_with fail
   all_goals
    go_meet
    case rel=>exact ⟨rfl,rfl⟩
  ·have h3:(1:Int)<n:=by omega
   go_wp2_with fail;go_meet
   case rel=>exact ⟨rfl,rfl⟩
 case rest =>
 obtain ⟨rfl,rfl⟩:=hcut;clear HQ w1 w2 a6;go_wp2_with fail;have HB:Hid (∀ i,(lspc e most i).b=(e.r.drop (i*most)).take most):=fun i=>rfl
 go_loopw [7,25] (fun s7 u wr=>∃ i:Nat,u=.int .i64 i/\i<=n/\∃ a' f g,s7=.slice a' f g/\f=e.r.length-i*most/\f<=g/\((a'=none/\g=0)\/∃ b off,a'=some ⟨b,off,none⟩)/\Part a e.r a' (e.r.drop (i*most))/\∃ xs,xs.length=i/\(∀ j x,xs[j]?=some x->Part a e.r x.1 (lspc e most j).b/\(lspc e most j).b.length<=x.2)/\SpAt W wr W.heap.size (W.heap.size+1) (enA e.s e.t e.c (.slice a k cap)) e most n xs) (fun _ u _=>n-(intOf u).toNat)
 case atStart=>exact ⟨0,rfl,by omega,a,k,cap,rfl,by omega,a1,a5,by rw [Nat.zero_mul,List.drop_zero];exact fun V hV=>hV,[],rfl,fun j x hx=>by simp at hx,a2.out⟩
 case round =>
  obtain ⟨i,rfl,hi,a',f,g,rfl,U,b6,Z,I,xs,B,R,N⟩:=hrel;clear a2;by_cases hlt:i<n
  ·obtain ⟨y0,j0⟩:=N.cell (j:=i*5) (by omega);obtain ⟨y1,j1⟩:=N.cell (j:=i*5+1) (by omega);obtain ⟨y2,j2⟩:=N.cell (j:=i*5+2) (by omega);obtain ⟨y3,j3⟩:=N.cell (j:=i*5+3) (by omega);obtain ⟨y4,j4⟩:=N.cell (j:=i*5+4) (by omega);have jf:=N.free;have a4:=N.box 1;have a3:=N.box 2;simp at a4 a3;have HS:Hid (SpAt W wr W.heap.size (W.heap.size+1) (enA e.s e.t e.c (.slice a k cap)) e most n xs):=N;have A:Hid ((e.r.drop (i*most)).length=f/\e.r.drop ((i+1)*most)=(e.r.drop (i*most)).drop most):=⟨by rw [List.length_drop,U],by rw [List.drop_drop,ar]⟩;have M:Hid (∀ x:Option Addr×Nat,Part a e.r x.1 (lspc e most i).b->(lspc e most i).b.length<=x.2->∀ j y,(xs++[x])[j]?=some y->Part a e.r y.1 (lspc e most j).b/\(lspc e most j).b.length<=y.2):=by
    intro x h1 S j y X;by_cases hj:j<xs.length
    ·rw [ad hj] at X;exact R j y X
    ·rw [ae (by omega)] at X;have:j=xs.length:=by
      have:=(List.getElem?_eq_some_iff.mp X).1;simp at this;omega
     subst this;simp at X;subst X;rw [B];exact ⟨h1,S⟩
   have F:(lspc e most i).b=(e.r.drop (i*most)).take most:=rfl;have q0:(i:Int)<(n:Int):=by omega
   have P:Hid (xs.length<n):=by show _<_;omega
   clear N R;have Q:Hid (f=e.r.length-i*most):=U;have O:Hid (npc most e.r.length=n):=by show _=_;rw [hk];exact b4.out.symm
   clear U;rcases Z with ⟨rfl,rfl⟩|⟨b,off,rfl⟩
   ·have b0:f=0:=by omega
    subst b0;have H:e.r.drop (i*most)=[]:=ai A.out.1;have C:(lspc e most i).b.length=0:=by rw [F,H];simp
    have b3:(lspc e most i).b=[]:=ai C;have d:=HS.out.put P.out ((none:Option Addr),0) B;rw [C,O.out] at d;have o:Hid (SpAt W _ W.heap.size (W.heap.size+1) (enA e.s e.t e.c (.slice a k cap)) e most n (xs++[((none:Option Addr),0)])):=d.drew;have q:Hid (Part a e.r ((none:Option Addr),0).1 (lspc e most i).b/\(lspc e most i).b.length<=((none:Option Addr),0).2):=⟨by rw [b3];exact fun V _=>j1p V _,by rw [C];exact au _⟩;have G:Hid (Part a e.r none (e.r.drop ((i+1)*most))):=by rw [A.out.2,H,List.drop_nil];exact fun V _=>j1p V _
    have z:Hid (0=e.r.length-(i+1)*most/\0<=0):=by have h7:=Q.out;rw [ar];refine ⟨?_,?_⟩<;>omega
    clear d I F;go_wp2_with fail
    go_region
    all_goals go_wp2_with fail
    all_goals
     go_roundw
     case rel=>exact ⟨i+1,by go_num,by omega,_,_,_,rfl,z.out.1,z.out.2,Or.inl ⟨rfl,rfl⟩,G.out,xs++[((none:Option Addr),0)],by rw [aa,B];rfl,M.out _ q.out.1 q.out.2,o.out⟩
     case measure=>simp [intOf];omega
   ·by_cases hmin:most<=f
    ·have a8:(most:Int)<=(f:Int):=by omega
     obtain ⟨Y,p2⟩:=j7r I most (by rw [A.out.1];exact hmin);have C:(lspc e most i).b.length=most:=by rw [F,aj,A.out.1];omega
     by_cases hcc:g=most
     ·subst hcc;have a9:f=g:=by omega
      subst a9;have H:(e.r.drop (i*f)).drop f=[]:=ak (by rw [A.out.1];exact au _);have d:=HS.out.put P.out ((some ⟨b,off,none⟩:Option Addr),f) B;rw [C,O.out] at d;have o:Hid (SpAt W _ W.heap.size (W.heap.size+1) (enA e.s e.t e.c (.slice a k cap)) e f n (xs++[((some ⟨b,off,none⟩:Option Addr),f)])):=d.drew;have q:Hid (Part a e.r ((some ⟨b,off,none⟩:Option Addr),f).1 (lspc e f i).b/\(lspc e f i).b.length<=((some ⟨b,off,none⟩:Option Addr),f).2):=⟨by rw [F];exact Y,by rw [C];exact au _⟩;have G:Hid (Part a e.r (some ⟨b,off,none⟩) (e.r.drop ((i+1)*f))):=by rw [A.out.2,H];exact fun V _=>j1p V _
      have z:Hid (0=e.r.length-(i+1)*f/\0<=0):=by have h7:=Q.out;rw [ar];refine ⟨?_,?_⟩<;>omega
      clear d I F;go_wp2_with fail
      go_region
      all_goals go_wp2_with fail
      all_goals
       go_roundw
       case rel=>exact ⟨i+1,by go_num,by omega,_,_,_,rfl,z.out.1,z.out.2,Or.inr ⟨b,off,rfl⟩,G.out,xs++[((some ⟨b,off,none⟩:Option Addr),f)],by rw [aa,B];rfl,M.out _ q.out.1 q.out.2,o.out⟩
       case measure=>simp [intOf];omega
     ·have b1:¬(g:Int)=most:=by omega
      have a0:(most:Int)<g:=by omega
      have d:=HS.out.put P.out ((some ⟨b,off,none⟩:Option Addr),g) B;rw [C,O.out] at d;have o:Hid (SpAt W _ W.heap.size (W.heap.size+1) (enA e.s e.t e.c (.slice a k cap)) e most n (xs++[((some ⟨b,off,none⟩:Option Addr),g)])):=d.drew;have q:Hid (Part a e.r ((some ⟨b,off,none⟩:Option Addr),g).1 (lspc e most i).b/\(lspc e most i).b.length<=((some ⟨b,off,none⟩:Option Addr),g).2):=⟨by rw [F];exact Y,by rw [C];show most<=g;omega⟩;have G:Hid (Part a e.r (some ⟨b,off+most,none⟩) (e.r.drop ((i+1)*most))):=by rw [A.out.2];exact p2
      have z:Hid ((f-most)=e.r.length-(i+1)*most/\(f-most)<=(g-most)):=by have h7:=Q.out;rw [ar];refine ⟨?_,?_⟩<;>omega
      clear d I F;go_wp2_with fail
      go_region
      all_goals go_wp2_with fail
      all_goals
       go_roundw
       case rel=>exact ⟨i+1,by go_num,by omega,_,_,_,rfl,z.out.1,z.out.2,Or.inr ⟨b,off+most,rfl⟩,G.out,xs++[((some ⟨b,off,none⟩:Option Addr),g)],by rw [aa,B];rfl,M.out _ q.out.1 q.out.2,o.out⟩
       case measure=>simp [intOf];omega
    ·have a8:¬(most:Int)<=(f:Int):=by omega
     have b5:(f:Int)<most:=by omega
     obtain ⟨Y,p2⟩:=j7r I f (by rw [A.out.1];exact au _);have T:(e.r.drop (i*most)).take most=(e.r.drop (i*most)).take f:=by rw [ah (by rw [A.out.1];omega),ah (by rw [A.out.1];omega)]
     have C:(lspc e most i).b.length=f:=by rw [F,T,aj,A.out.1];omega
     have H:(e.r.drop (i*most)).drop most=[]:=ak (by rw [A.out.1];omega);by_cases hcc:g=f
     ·subst hcc;have d:=HS.out.put P.out ((some ⟨b,off,none⟩:Option Addr),g) B;rw [C,O.out] at d;have o:Hid (SpAt W _ W.heap.size (W.heap.size+1) (enA e.s e.t e.c (.slice a k cap)) e most n (xs++[((some ⟨b,off,none⟩:Option Addr),g)])):=d.drew;have q:Hid (Part a e.r ((some ⟨b,off,none⟩:Option Addr),g).1 (lspc e most i).b/\(lspc e most i).b.length<=((some ⟨b,off,none⟩:Option Addr),g).2):=⟨by rw [F,T];exact Y,by rw [C];exact au _⟩;have G:Hid (Part a e.r (some ⟨b,off,none⟩) (e.r.drop ((i+1)*most))):=by rw [A.out.2,H];exact fun V _=>j1p V _
      have z:Hid (0=e.r.length-(i+1)*most/\0<=0):=by have h7:=Q.out;rw [ar];refine ⟨?_,?_⟩<;>omega
      clear d I F;go_wp2_with fail
      go_region
      all_goals go_wp2_with fail
      all_goals
       go_roundw
       case rel=>exact ⟨i+1,by go_num,by omega,_,_,_,rfl,z.out.1,z.out.2,Or.inr ⟨b,off,rfl⟩,G.out,xs++[((some ⟨b,off,none⟩:Option Addr),g)],by rw [aa,B];rfl,M.out _ q.out.1 q.out.2,o.out⟩
       case measure=>simp [intOf];omega
     ·have b1:¬(g:Int)=f:=by omega
      have a0:(f:Int)<g:=by omega
      have d:=HS.out.put P.out ((some ⟨b,off,none⟩:Option Addr),g) B;rw [C,O.out] at d;have o:Hid (SpAt W _ W.heap.size (W.heap.size+1) (enA e.s e.t e.c (.slice a k cap)) e most n (xs++[((some ⟨b,off,none⟩:Option Addr),g)])):=d.drew;have q:Hid (Part a e.r ((some ⟨b,off,none⟩:Option Addr),g).1 (lspc e most i).b/\(lspc e most i).b.length<=((some ⟨b,off,none⟩:Option Addr),g).2):=⟨by rw [F,T];exact Y,by rw [C];show f<=g;omega⟩;have G:Hid (Part a e.r (some ⟨b,off+f,none⟩) (e.r.drop ((i+1)*most))):=by rw [A.out.2,H];exact fun V _=>j1p V _
      have z:Hid (0=e.r.length-(i+1)*most/\0<=(g-f)):=by have h7:=Q.out;rw [ar];refine ⟨?_,?_⟩<;>omega
      clear d I F;go_wp2_with fail
      go_region
      all_goals go_wp2_with fail
      all_goals
       go_roundw
       case rel=>exact ⟨i+1,by go_num,by omega,_,_,_,rfl,z.out.1,z.out.2,Or.inr ⟨b,off+f,rfl⟩,G.out,xs++[((some ⟨b,off,none⟩:Option Addr),g)],by rw [aa,B];rfl,M.out _ q.out.1 q.out.2,o.out⟩
       case measure=>simp [intOf];omega
  ·have:i=n:=by omega
   subst this;have HE:Hid (∃ J,J.toList=pcL e most 0 xs/\∃ K,Mem W wr ((W.heap.size+1,.cells J pcT (0,0))::K)):=by
    obtain ⟨J,hM,hs,hc⟩:=N.mem;refine ⟨J,?_,[(W.heap.size,.cells (enA e.s e.t e.c (.slice a k cap)) enT (0,0))],hM.perm (ay _ _ _)⟩;rw [<-hc,B,ah (by rw [Array.length_toList];omega)]
   have M:Hid (∀ j x,xs[j]?=some x->Part a e.r x.1 (lspc e most j).b/\(lspc e most j).b.length<=x.2):=R;clear N R
   go_wp2
   go_ret;exact ⟨W.heap.size+1,rfl,xs,B,M.out,HE.out⟩
structure Gl (W:World) (a:Addr):Prop where
 sent:W.cell? ⟨0,0,none⟩=some (.iface 342 (.pointer (some a)))
 hand:W.cell? ⟨1,0,none⟩=some (.iface 192 (.agg #[.pointer (some ⟨4,134,none⟩)]))
theorem Gl.on {b:World} {a:Addr} (g:Gl W a) (h:Mem W b K):Gl b a :=
 ⟨by rw [<-g.sent];exact h.old (j9 g.sent),by rw [<-g.hand];exact h.old (j9 g.hand)⟩
section
variable {w W:World} {p h m:Nat} {D:Dk} {hc:Array Value} {ks:List Bk} {L:List (Nat×Obj)}
end
end
section
open Go.RowKit Sm Cf
theorem jlt:∀ q,0<=q->q<256 ^ 2->ax.wrap q=q:=fun q b c=>zr q b (by omega)
theorem jgr (n:Nat) (b:n<=4):∀ q,0<=q->q<256 ^ n->av.wrap q=q:=by
 intro q d c;refine qk (by omega) ?_;have:(256:Int) ^ n<=256 ^ 4:=by
  match n,b with
  | 0,_=>decide
  | 1,_=>decide
  | 2,_=>decide
  | 3,_=>decide
  | 4,_=>decide
 have e:(256:Int) ^ 4=4294967296:=by decide
 omega
def ttl (t:Ten) (p s q:Value):List Value:=[p,.int .u16 t.lo,.int .u16 t.hi,.int .i64 t.filter,s,q,.int .i64 t.sess,.int .i64 t.queue,.int .u32 t.rate,.int .u32 t.burst]
theorem ju {p a:Nat×Obj} {E:List (Nat×Obj)} (h:Mem w V (a::p::(E++L))):Mem w V (p::((a::E)++L)):=h.perm (ay _ _ _)
theorem jj {p a b:Nat×Obj} {E:List (Nat×Obj)} (h:Mem w V (a::b::p::(E++L))):Mem w V (p::((a::b::E)++L)) :=
 h.perm (by refine az ((ay p b _).cons a) ?_;exact ay p a _)
theorem j5r {p:Nat×Obj} {A E:List (Nat×Obj)} (h:Mem w V (A++(p::(E++L)))):Mem w V (p::((A++E)++L)) :=
 h.perm (by rw [ac];exact List.perm_middle (l₁:=A))
theorem IT.cell {t:Ten} {r:Value×Value×Value} {g:Nat} (h:IT t r V g off) (o:Nat) (b:(tc t r.1 r.2.1 r.2.2)[o]?=some v):V.cell? ⟨g,off+o,none⟩=some v:=h.2.1 o v b
theorem IT.row {t:Ten} {r:Value×Value×Value} {g:Nat} (h:IT t r V g off) (o:Nat) (x:List Int) (hb:j6 x) (hx:x.length<=1000) (a c:List Value) (b:a.length=o) (e:tc t r.1 r.2.1 r.2.2=a++(x.map (aA .u8)++c)) :
  Row V (some ⟨g,off+o,none⟩) x:=by
 refine ⟨hb,by omega,Or.inr ⟨g,off+o,rfl,fun i hi=>?_⟩⟩;have:=h.2.1 (o+i) (.int .u8 (x.getD i 0)) (by
  rw [e,ae (by omega),ad (by simp;omega),b,Nat.add_sub_cancel_left];simp [hi])
 rw [aq];exact this
def jb7:Sp Ten:=jct (fun t=>t.name) (fun t y=>{ t with name:=y })
theorem jsa {p:Nat×Obj} {E:List (Nat×Obj)} (h:Mem w V (p::(E++L))) :
  Calls prog 231 #[.func (.func 232) #[] #[]] V fun e Y=>∃ f k,e=.returned f.val/\Mem w Y (p::(k++L))/\Sub E k/\Fd w k IT JT f jb7:=by
 refine (jjn h 232).mono ?_;rintro e Y ⟨bo,rfl,hM⟩;exact ⟨_,_::E,rfl,ju hM,fun q Z=>al _ Z,jkg bo 232 0 _ _ (am ..) (enters_of func232 (by kernel_rfl) rfl) jl9 (fun t r V g off h=>⟨by have:=h.1.name;omega,h.cell 0 (tget h.1.len (by rintro n u a b c d f g x y o X T R P N I U b2 Q O M H F G hi J st z A C B S rfl;rfl))⟩) (j15 0 (by omega) (fun t=>.string t.name) (fun y=>.string y) (fun t y=>{ t with name:=y }) (fun t p s q h=>tget h (by rintro n u a b c d f g x y o X T R P N I U b2 Q O M H F G hi J st z A C B S rfl;rfl)) (fun t y p s q h=>tset h (by rintro n u a b c d f g x y o X T R P N I U b2 Q O M H F G hi J st z A C B S rfl;rfl)) (fun t y h=>⟨h.key,h.vmac,h.host⟩) (fun t y=>⟨rfl,rfl,rfl⟩))⟩
def jig:Sp Ten:=jz 4 (fun t=>t.vni) (fun t y=>{ t with vni:=y })
theorem jt7 {p:Nat×Obj} {E:List (Nat×Obj)} (h:Mem w V (p::(E++L))) :
  Calls prog 233 #[.int .i64 4,.func (.func 234) #[] #[]] V fun e Y=>∃ f k,e=.returned f.val/\Mem w Y (p::(k++L))/\Sub E k/\Fd w k IT JT f jig:=by
 refine (j1q h 4 234).mono ?_;rintro e Y ⟨bs,bo,rfl,hM⟩;exact ⟨_,_::_::E,rfl,jj hM,fun q Z=>al _ (al _ Z),j1x bs bo 4 234 1 (by omega) j1w _ _ (am ..) (al _ (am ..)) (enters_of func234 (by kernel_rfl) rfl) jph (fun t r V g off h=>h.cell 1 (tget h.1.len (by rintro n u a b c d f g x y o X T R P N I U b2 Q O M H F G hi J st z A C B S rfl;rfl))) (j15 1 (by omega) (fun t=>.int .u32 t.vni) (fun y=>.int .u32 y) (fun t y=>{ t with vni:=y }) (fun t p s q h=>tget h (by rintro n u a b c d f g x y o X T R P N I U b2 Q O M H F G hi J st z A C B S rfl;rfl)) (fun t y p s q h=>tset h (by rintro n u a b c d f g x y o X T R P N I U b2 Q O M H F G hi J st z A C B S rfl;rfl)) (fun t y h=>⟨h.key,h.vmac,h.host⟩) (fun t y=>⟨rfl,rfl,rfl⟩))⟩
def jih:Sp Ten:=j18 8 (fun t=>t.key) (fun t y=>{ t with key:=y })
theorem jt8 {p:Nat×Obj} {E:List (Nat×Obj)} (h:Mem w V (p::(E++L))) :
  Calls prog 235 #[.func (.func 236) #[] #[]] V fun e c=>∃ f b,e=.returned f.val/\Mem w c (p::(b++L))/\Sub E b/\Fd w b IT JT f jih:=by
 refine (j6b h 236).mono ?_;rintro e c ⟨u,rfl,o⟩;refine ⟨_,_::E,rfl,ju o,fun q k=>al _ k,j6w u 8 236 2 (by omega) (by omega) _ _ (am ..) (enters_of func236 (by kernel_rfl) rfl) jpi (fun t r V g off h=>⟨h.1.len.key,h.row 2 t.key h.1.key (by rw [h.1.len.key];omega) [.string t.name,.int .u32 t.vni] _ rfl rfl⟩) ?_⟩;exact j9w 2 8 (fun t y=>{ t with key:=y }) (fun t p s q h=>⟨[.string t.name,.int .u32 t.vni],t.key.map (aA .u8),_,rfl,(by rw [an];exact h.key),rfl,fun y=>rfl⟩) (fun t y d h=>⟨d,h.vmac,h.host⟩) (fun t y=>⟨rfl,rfl,rfl⟩)
def jb3:Sp Ten:=jz 4 (fun t=>t.vtep) (fun t y=>{ t with vtep:=y })
theorem js6 {p:Nat×Obj} {E:List (Nat×Obj)} (h:Mem w V (p::(E++L))) :
  Calls prog 233 #[.int .i64 4,.func (.func 237) #[] #[]] V fun e Y=>∃ f k,e=.returned f.val/\Mem w Y (p::(k++L))/\Sub E k/\Fd w k IT JT f jb3:=by
 refine (j1q h 4 237).mono ?_;rintro e Y ⟨bs,bo,rfl,hM⟩;exact ⟨_,_::_::E,rfl,jj hM,fun q Z=>al _ (al _ Z),j1x bs bo 4 237 10 (by omega) j1w _ _ (am ..) (al _ (am ..)) (enters_of func237 (by kernel_rfl) rfl) jl6 (fun t r V g off h=>h.cell 10 (tget h.1.len (by rintro n u a b c d f g x y o X T R P N I U b2 Q O M H F G hi J st z A C B S rfl;rfl))) (j15 10 (by omega) (fun t=>.int .u32 t.vtep) (fun y=>.int .u32 y) (fun t y=>{ t with vtep:=y }) (fun t p s q h=>tget h (by rintro n u a b c d f g x y o X T R P N I U b2 Q O M H F G hi J st z A C B S rfl;rfl)) (fun t y p s q h=>tset h (by rintro n u a b c d f g x y o X T R P N I U b2 Q O M H F G hi J st z A C B S rfl;rfl)) (fun t y h=>⟨h.key,h.vmac,h.host⟩) (fun t y=>⟨rfl,rfl,rfl⟩))⟩
def j1i:Sp Ten:=j18 6 (fun t=>t.vmac) (fun t y=>{ t with vmac:=y })
theorem jhj {p:Nat×Obj} {E:List (Nat×Obj)} (h:Mem w V (p::(E++L))) :
  Calls prog 235 #[.func (.func 238) #[] #[]] V fun e c=>∃ f b,e=.returned f.val/\Mem w c (p::(b++L))/\Sub E b/\Fd w b IT JT f j1i:=by
 refine (j6b h 238).mono ?_;rintro e c ⟨u,rfl,o⟩;refine ⟨_,_::E,rfl,ju o,fun q k=>al _ k,j6w u 6 238 11 (by omega) (by omega) _ _ (am ..) (enters_of func238 (by kernel_rfl) rfl) jap (fun t r V g off h=>⟨h.1.len.vmac,h.row 11 t.vmac h.1.vmac (by rw [h.1.len.vmac];omega) (.string t.name::.int .u32 t.vni::(t.key.map (aA .u8)++[.int .u32 t.vtep])) (t.host.map (aA .u8)++ttl t r.1 r.2.1 r.2.2) (by simp [h.1.len.key]) (by simp [tc,ttl])⟩) ?_⟩;exact j9w 11 6 (fun t y=>{ t with vmac:=y }) (fun t p s q h=>⟨(.string t.name::.int .u32 t.vni::(t.key.map (aA .u8)++[.int .u32 t.vtep])),t.vmac.map (aA .u8),(t.host.map (aA .u8)++ttl t p s q),(by simp [h.key]),(by rw [an];exact h.vmac),(by simp [tc,ttl]),fun y=>(by simp [tc,ttl])⟩) (fun t y d h=>⟨h.key,d,h.host⟩) (fun t y=>⟨rfl,rfl,rfl⟩)
def jb8:Sp Ten:=j18 6 (fun t=>t.host) (fun t y=>{ t with host:=y })
theorem jsb {p:Nat×Obj} {E:List (Nat×Obj)} (h:Mem w V (p::(E++L))) :
  Calls prog 235 #[.func (.func 239) #[] #[]] V fun e c=>∃ f b,e=.returned f.val/\Mem w c (p::(b++L))/\Sub E b/\Fd w b IT JT f jb8:=by
 refine (j6b h 239).mono ?_;rintro e c ⟨u,rfl,o⟩;refine ⟨_,_::E,rfl,ju o,fun q k=>al _ k,j6w u 6 239 17 (by omega) (by omega) _ _ (am ..) (enters_of func239 (by kernel_rfl) rfl) jla (fun t r V g off h=>⟨h.1.len.host,h.row 17 t.host h.1.host (by rw [h.1.len.host];omega) (.string t.name::.int .u32 t.vni::(t.key.map (aA .u8)++.int .u32 t.vtep::t.vmac.map (aA .u8))) (ttl t r.1 r.2.1 r.2.2) (by simp [h.1.len.key,h.1.len.vmac]) (by simp [tc,ttl])⟩) ?_⟩;exact j9w 17 6 (fun t y=>{ t with host:=y }) (fun t p s q h=>⟨(.string t.name::.int .u32 t.vni::(t.key.map (aA .u8)++.int .u32 t.vtep::t.vmac.map (aA .u8))),t.host.map (aA .u8),(ttl t p s q),(by simp [h.key,h.vmac]),(by rw [an];exact h.host),(by simp [tc,ttl]),fun y=>(by simp [tc,ttl])⟩) (fun t y d h=>⟨h.key,h.vmac,d⟩) (fun t y=>⟨rfl,rfl,rfl⟩)
def spLo:Sp Ten:=jz 2 (fun t=>t.lo) (fun t y=>{ t with lo:=y })
theorem c_Lo {p:Nat×Obj} {E:List (Nat×Obj)} (h:Mem w V (p::(E++L))) :
  Calls prog 240 #[.int .i64 2,.func (.func 241) #[] #[]] V fun e V'=>∃ f E',e=.returned f.val/\Mem w V' (p::(E'++L))/\Sub E E'/\Fd w E' IT JT f spLo:=by
 refine (j7v h 2 241).mono ?_;rintro e V' ⟨bs,bo,rfl,hM⟩;exact ⟨_,_::_::E,rfl,jj hM,fun q hq=>al _ (al _ hq),j8b bs bo 2 241 24 (by omega) jlt _ _ (am ..) (al _ (am ..)) (enters_of func241 (by kernel_rfl) rfl) jsl (fun t r V g off h=>h.cell 24 (tget h.1.len (by rintro n vn a b c d f g x y vt a1 b1 c1 d1 f1 g1 a2 b2 c2 d2 f2 g2 po lo hi fi st tw se qu ra bu rfl;rfl))) (j15 24 (by omega) (fun t=>.int .u16 t.lo) (fun y=>.int .u16 y) (fun t y=>{ t with lo:=y }) (fun t p s q h=>tget h (by rintro n vn a b c d f g x y vt a1 b1 c1 d1 f1 g1 a2 b2 c2 d2 f2 g2 po lo hi fi st tw se qu ra bu rfl;rfl)) (fun t y p s q h=>tset h (by rintro n vn a b c d f g x y vt a1 b1 c1 d1 f1 g1 a2 b2 c2 d2 f2 g2 po lo hi fi st tw se qu ra bu rfl;rfl)) (fun t y h=>⟨h.key,h.vmac,h.host⟩) (fun t y=>⟨rfl,rfl,rfl⟩))⟩
def spHi:Sp Ten:=jz 2 (fun t=>t.hi) (fun t y=>{ t with hi:=y })
theorem c_Hi {p:Nat×Obj} {E:List (Nat×Obj)} (h:Mem w V (p::(E++L))) :
  Calls prog 240 #[.int .i64 2,.func (.func 242) #[] #[]] V fun e Y=>∃ f k,e=.returned f.val/\Mem w Y (p::(k++L))/\Sub E k/\Fd w k IT JT f spHi:=by
 refine (j7v h 2 242).mono ?_;rintro e Y ⟨bs,bo,rfl,hM⟩;exact ⟨_,_::_::E,rfl,jj hM,fun q Z=>al _ (al _ Z),j8b bs bo 2 242 25 (by omega) jlt _ _ (am ..) (al _ (am ..)) (enters_of func242 (by kernel_rfl) rfl) jsm (fun t r V g off h=>h.cell 25 (tget h.1.len (by rintro n u a b c d f g x y o X T R P N I U b2 Q O M H F G hi J st z A C B S rfl;rfl))) (j15 25 (by omega) (fun t=>.int .u16 t.hi) (fun y=>.int .u16 y) (fun t y=>{ t with hi:=y }) (fun t p s q h=>tget h (by rintro n u a b c d f g x y o X T R P N I U b2 Q O M H F G hi J st z A C B S rfl;rfl)) (fun t y p s q h=>tset h (by rintro n u a b c d f g x y o X T R P N I U b2 Q O M H F G hi J st z A C B S rfl;rfl)) (fun t y h=>⟨h.key,h.vmac,h.host⟩) (fun t y=>⟨rfl,rfl,rfl⟩))⟩
def j2w:Sp Ten:=jz 1 (fun t=>t.filter) (fun t y=>{ t with filter:=y })
theorem jky {p:Nat×Obj} {E:List (Nat×Obj)} (h:Mem w V (p::(E++L))) :
  Calls prog 243 #[.int .i64 1,.func (.func 244) #[] #[]] V fun e Y=>∃ f k,e=.returned f.val/\Mem w Y (p::(k++L))/\Sub E k/\Fd w k IT JT f j2w:=by
 refine (j43 h 1 244).mono ?_;rintro e Y ⟨bs,bo,rfl,hM⟩;exact ⟨_,_::_::E,rfl,jj hM,fun q Z=>al _ (al _ Z),j4g bs bo 1 244 26 (by omega) (jgr 1 (by omega)) _ _ (am ..) (al _ (am ..)) (enters_of func244 (by kernel_rfl) rfl) je7 (fun t r V g off h=>h.cell 26 (tget h.1.len (by rintro n u a b c d f g x y o X T R P N I U b2 Q O M H F G hi J st z A C B S rfl;rfl))) (j15 26 (by omega) (fun t=>.int .i64 t.filter) (fun y=>.int .i64 y) (fun t y=>{ t with filter:=y }) (fun t p s q h=>tget h (by rintro n u a b c d f g x y o X T R P N I U b2 Q O M H F G hi J st z A C B S rfl;rfl)) (fun t y p s q h=>tset h (by rintro n u a b c d f g x y o X T R P N I U b2 Q O M H F G hi J st z A C B S rfl;rfl)) (fun t y h=>⟨h.key,h.vmac,h.host⟩) (fun t y=>⟨rfl,rfl,rfl⟩))⟩
def jb4:Sp Ten:=jz 2 (fun t=>t.sess) (fun t y=>{ t with sess:=y })
theorem js7 {p:Nat×Obj} {E:List (Nat×Obj)} (h:Mem w V (p::(E++L))) :
  Calls prog 243 #[.int .i64 2,.func (.func 245) #[] #[]] V fun e Y=>∃ f k,e=.returned f.val/\Mem w Y (p::(k++L))/\Sub E k/\Fd w k IT JT f jb4:=by
 refine (j43 h 2 245).mono ?_;rintro e Y ⟨bs,bo,rfl,hM⟩;exact ⟨_,_::_::E,rfl,jj hM,fun q Z=>al _ (al _ Z),j4g bs bo 2 245 29 (by omega) (jgr 2 (by omega)) _ _ (am ..) (al _ (am ..)) (enters_of func245 (by kernel_rfl) rfl) jl7 (fun t r V g off h=>h.cell 29 (tget h.1.len (by rintro n u a b c d f g x y o X T R P N I U b2 Q O M H F G hi J st z A C B S rfl;rfl))) (j15 29 (by omega) (fun t=>.int .i64 t.sess) (fun y=>.int .i64 y) (fun t y=>{ t with sess:=y }) (fun t p s q h=>tget h (by rintro n u a b c d f g x y o X T R P N I U b2 Q O M H F G hi J st z A C B S rfl;rfl)) (fun t y p s q h=>tset h (by rintro n u a b c d f g x y o X T R P N I U b2 Q O M H F G hi J st z A C B S rfl;rfl)) (fun t y h=>⟨h.key,h.vmac,h.host⟩) (fun t y=>⟨rfl,rfl,rfl⟩))⟩
def j5u:Sp Ten:=jz 2 (fun t=>t.queue) (fun t y=>{ t with queue:=y })
theorem jp2 {p:Nat×Obj} {E:List (Nat×Obj)} (h:Mem w V (p::(E++L))) :
  Calls prog 243 #[.int .i64 2,.func (.func 246) #[] #[]] V fun e Y=>∃ f k,e=.returned f.val/\Mem w Y (p::(k++L))/\Sub E k/\Fd w k IT JT f j5u:=by
 refine (j43 h 2 246).mono ?_;rintro e Y ⟨bs,bo,rfl,hM⟩;exact ⟨_,_::_::E,rfl,jj hM,fun q Z=>al _ (al _ Z),j4g bs bo 2 246 30 (by omega) (jgr 2 (by omega)) _ _ (am ..) (al _ (am ..)) (enters_of func246 (by kernel_rfl) rfl) jhu (fun t r V g off h=>h.cell 30 (tget h.1.len (by rintro n u a b c d f g x y o X T R P N I U b2 Q O M H F G hi J st z A C B S rfl;rfl))) (j15 30 (by omega) (fun t=>.int .i64 t.queue) (fun y=>.int .i64 y) (fun t y=>{ t with queue:=y }) (fun t p s q h=>tget h (by rintro n u a b c d f g x y o X T R P N I U b2 Q O M H F G hi J st z A C B S rfl;rfl)) (fun t y p s q h=>tset h (by rintro n u a b c d f g x y o X T R P N I U b2 Q O M H F G hi J st z A C B S rfl;rfl)) (fun t y h=>⟨h.key,h.vmac,h.host⟩) (fun t y=>⟨rfl,rfl,rfl⟩))⟩
def jb5:Sp Ten:=jz 4 (fun t=>t.rate) (fun t y=>{ t with rate:=y })
theorem js8 {p:Nat×Obj} {E:List (Nat×Obj)} (h:Mem w V (p::(E++L))) :
  Calls prog 233 #[.int .i64 4,.func (.func 247) #[] #[]] V fun e Y=>∃ f k,e=.returned f.val/\Mem w Y (p::(k++L))/\Sub E k/\Fd w k IT JT f jb5:=by
 refine (j1q h 4 247).mono ?_;rintro e Y ⟨bs,bo,rfl,hM⟩;exact ⟨_,_::_::E,rfl,jj hM,fun q Z=>al _ (al _ Z),j1x bs bo 4 247 31 (by omega) j1w _ _ (am ..) (al _ (am ..)) (enters_of func247 (by kernel_rfl) rfl) jl8 (fun t r V g off h=>h.cell 31 (tget h.1.len (by rintro n u a b c d f g x y o X T R P N I U b2 Q O M H F G hi J st z A C B S rfl;rfl))) (j15 31 (by omega) (fun t=>.int .u32 t.rate) (fun y=>.int .u32 y) (fun t y=>{ t with rate:=y }) (fun t p s q h=>tget h (by rintro n u a b c d f g x y o X T R P N I U b2 Q O M H F G hi J st z A C B S rfl;rfl)) (fun t y p s q h=>tset h (by rintro n u a b c d f g x y o X T R P N I U b2 Q O M H F G hi J st z A C B S rfl;rfl)) (fun t y h=>⟨h.key,h.vmac,h.host⟩) (fun t y=>⟨rfl,rfl,rfl⟩))⟩
def j5y:Sp Ten:=jz 4 (fun t=>t.burst) (fun t y=>{ t with burst:=y })
theorem jp5 {p:Nat×Obj} {E:List (Nat×Obj)} (h:Mem w V (p::(E++L))) :
  Calls prog 233 #[.int .i64 4,.func (.func 248) #[] #[]] V fun e Y=>∃ f k,e=.returned f.val/\Mem w Y (p::(k++L))/\Sub E k/\Fd w k IT JT f j5y:=by
 refine (j1q h 4 248).mono ?_;rintro e Y ⟨bs,bo,rfl,hM⟩;exact ⟨_,_::_::E,rfl,jj hM,fun q Z=>al _ (al _ Z),j1x bs bo 4 248 32 (by omega) j1w _ _ (am ..) (al _ (am ..)) (enters_of func248 (by kernel_rfl) rfl) jhw (fun t r V g off h=>h.cell 32 (tget h.1.len (by rintro n u a b c d f g x y o X T R P N I U b2 Q O M H F G hi J st z A C B S rfl;rfl))) (j15 32 (by omega) (fun t=>.int .u32 t.burst) (fun y=>.int .u32 y) (fun t y=>{ t with burst:=y }) (fun t p s q h=>tget h (by rintro n u a b c d f g x y o X T R P N I U b2 Q O M H F G hi J st z A C B S rfl;rfl)) (fun t y p s q h=>tset h (by rintro n u a b c d f g x y o X T R P N I U b2 Q O M H F G hi J st z A C B S rfl;rfl)) (fun t y h=>⟨h.key,h.vmac,h.host⟩) (fun t y=>⟨rfl,rfl,rfl⟩))⟩
def jb6:Sp Ten:=j1l (fun t=>t.pool.length) j1o
theorem js9 {p:Nat×Obj} {E:List (Nat×Obj)} (h:Mem w V (p::(E++L))) :
  Calls prog 249 #[.func (.func 227) #[] #[]] V fun e s=>∃ f k,e=.returned f.val/\Mem w s (p::(k++L))/\Sub E k/\Fd w k IT JT f jb6:=by
 refine (jfy h 227).mono ?_;rintro e s ⟨F,rfl,A⟩;refine ⟨_,_::E,rfl,ju A,fun q u=>al _ u,jgu F 227 23 _ _ (am ..) (enters_of func227 (by kernel_rfl) rfl) jce (fun r=>r.1) (fun t r V g off h=>⟨?_,h.cell 23 (tget h.1.len (by rintro n H a b c d f g x y G a1 b1 c1 Y U R a2 b2 Z X T Q O P hi S st I J N M bu rfl;rfl))⟩) jdd⟩;obtain ⟨a,c,e,o,C,B,-⟩:=h.2.2.1;have z:(ux t.pool).length=t.pool.length:=by simp [ux]
 rw [z] at e o;exact ⟨a,c,e,o,C,B⟩
def j1k:Sp Ten:=j1l (fun t=>t.stat.length) j1n
theorem jhl {p:Nat×Obj} {E:List (Nat×Obj)} (h:Mem w V (p::(E++L))) :
  Calls prog 250 #[.func (.func 228) #[] #[]] V fun e s=>∃ f k,e=.returned f.val/\Mem w s (p::(k++L))/\Sub E k/\Fd w k IT JT f j1k:=by
 refine (j7z h 228).mono ?_;rintro e s ⟨F,rfl,A⟩;refine ⟨_,_::E,rfl,ju A,fun q u=>al _ u,j8f F 228 27 _ _ (am ..) (enters_of func228 (by kernel_rfl) rfl) j4q (fun r=>r.2.1) (fun t r V g off h=>⟨?_,h.cell 27 (tget h.1.len (by rintro n H a b c d f g x y G a1 b1 c1 Y U R a2 b2 Z X T Q O P hi S st I J N M bu rfl;rfl))⟩) jdc⟩;obtain ⟨a,c,e,o,C,B,-⟩:=h.2.2.2.1;have z:(px t.stat).length=t.stat.length:=by simp [px]
 rw [z] at e o;exact ⟨a,c,e,o,C,B⟩
def j2v:Sp Ten:=j1l (fun t=>t.twi.length) j3s
theorem jkx {p:Nat×Obj} {E:List (Nat×Obj)} (h:Mem w V (p::(E++L))) :
  Calls prog 250 #[.func (.func 229) #[] #[]] V fun e s=>∃ f k,e=.returned f.val/\Mem w s (p::(k++L))/\Sub E k/\Fd w k IT JT f j2v:=by
 refine (j7z h 229).mono ?_;rintro e s ⟨F,rfl,A⟩;refine ⟨_,_::E,rfl,ju A,fun q u=>al _ u,j8f F 229 28 _ _ (am ..) (enters_of func229 (by kernel_rfl) rfl) j5k (fun r=>r.2.2) (fun t r V g off h=>⟨?_,h.cell 28 (tget h.1.len (by rintro n H a b c d f g x y G a1 b1 c1 Y U R a2 b2 Z X T Q O P hi S st I J N M bu rfl;rfl))⟩) jge⟩;obtain ⟨a,c,e,o,C,B,-⟩:=h.2.2.2.2;have z:(px t.twi).length=t.twi.length:=by simp [px]
 rw [z] at e o;exact ⟨a,c,e,o,C,B⟩
def j5v:Sp Ten:=j5w 0 spU (fun t=>t.pool) (fun t y=>{ t with pool:=y })
theorem jp3 {p:Nat×Obj} {E:List (Nat×Obj)} (h:Mem w V (p::(E++L))) (k:Fv) (s:Fd w E IU JU k spU) :
  Calls prog 251 #[.func (.func 227) #[] #[],k.val] V fun e z=>∃ f u,e=.returned f.val/\Mem w z (p::(u++L))/\Sub E u/\Fd w u IT JT f j5v:=by
 refine (jfw h 227 k).mono ?_;rintro e z ⟨B,C,rfl,A⟩;exact ⟨_,_::_::E,rfl,jj A,fun q o=>al _ (al _ o),jgt B C 227 23 _ _ k spU jq1 (s.more (fun q o=>al _ (al _ o))) (am ..) (al _ (am ..)) (enters_of func227 (by kernel_rfl) rfl) jce (fun r=>r.1) (fun t r V g off h=>⟨h.1.pool,h.2.2.1,h.cell 23 (tget h.1.len (by rintro n G a b c d f g x y F a1 b1 Y U S Q a2 b2 X T R P N O hi k st H I M J Z rfl;rfl))⟩) jdb⟩
def j0t:Sp Ten:=j5w (0,0) spP (fun t=>t.stat) (fun t y=>{ t with stat:=y })
theorem jdx {p:Nat×Obj} {E:List (Nat×Obj)} (h:Mem w V (p::(E++L))) (k:Fv) (s:Fd w E IP JP k spP) :
  Calls prog 253 #[.func (.func 228) #[] #[],k.val] V fun e z=>∃ f u,e=.returned f.val/\Mem w z (p::(u++L))/\Sub E u/\Fd w u IT JT f j0t:=by
 refine (j7y h 228 k).mono ?_;rintro e z ⟨B,C,rfl,A⟩;exact ⟨_,_::_::E,rfl,jj A,fun q o=>al _ (al _ o),j8e B C 228 27 _ _ k spP jlj (s.more (fun q o=>al _ (al _ o))) (am ..) (al _ (am ..)) (enters_of func228 (by kernel_rfl) rfl) j4q (fun r=>r.2.1) (fun t r V g off h=>⟨h.1.stat,h.2.2.2.1,h.cell 27 (tget h.1.len (by rintro n G a b c d f g x y F a1 b1 Y U S Q a2 b2 X T R P N O hi k st H I M J Z rfl;rfl))⟩) jda⟩
def j1j:Sp Ten:=j5w (0,0) spP (fun t=>t.twi) (fun t y=>{ t with twi:=y })
theorem jhk {p:Nat×Obj} {E:List (Nat×Obj)} (h:Mem w V (p::(E++L))) (k:Fv) (s:Fd w E IP JP k spP) :
  Calls prog 253 #[.func (.func 229) #[] #[],k.val] V fun e z=>∃ f u,e=.returned f.val/\Mem w z (p::(u++L))/\Sub E u/\Fd w u IT JT f j1j:=by
 refine (j7y h 229 k).mono ?_;rintro e z ⟨B,C,rfl,A⟩;exact ⟨_,_::_::E,rfl,jj A,fun q o=>al _ (al _ o),j8e B C 229 28 _ _ k spP jlj (s.more (fun q o=>al _ (al _ o))) (am ..) (al _ (am ..)) (enters_of func229 (by kernel_rfl) rfl) j5k (fun r=>r.2.2) (fun t r V g off h=>⟨h.1.twi,h.2.2.2.2,h.cell 28 (tget h.1.len (by rintro n G a b c d f g x y F a1 b1 Y U S Q a2 b2 X T R P N O hi k st H I M J Z rfl;rfl))⟩) jgc⟩
theorem jhi {p:Nat×Obj} {E:List (Nat×Obj)} (h:Mem w V (p::(E++L))) :
  Calls prog 252 #[] V fun e d=>∃ f c,e=.returned f.val/\Mem w d (p::(c++L))/\Sub E c/\Fd w c IU JU f spU:=by
 refine (jan h).mono ?_;rintro e d ⟨f,A,rfl,g,hF⟩;exact ⟨f,A++E,rfl,j5r g,fun q b=>ao _ b,hF.more (fun q b=>ap _ b)⟩
theorem jm1 {p:Nat×Obj} {E:List (Nat×Obj)} (h:Mem w V (p::(E++L))) :
  Calls prog 254 #[] V fun e d=>∃ f c,e=.returned f.val/\Mem w d (p::(c++L))/\Sub E c/\Fd w c IP JP f spP:=by
 refine (jj9 h).mono ?_;rintro e d ⟨f,A,rfl,g,hF⟩;exact ⟨f,A++E,rfl,j5r g,fun q b=>ao _ b,hF.more (fun q b=>ap _ b)⟩
def tsp:List (Sp Ten):=[jb7,jig,jih,jb3,j1i,jb8,spLo,spHi,j2w,jb4,j5u,jb5,j5y,jb6,j1k,j2v,j5v,j0t,j1j]
def spT:Sp Ten:=j0j tsp
end
end Go.Proofs.YtdigofgjhaakmaaGreatDoor
