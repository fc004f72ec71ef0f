/- Parts of the proof. -/
import Derived.Test.YtdigofgjhaakmaaGreatDoorF01
import Derived.Lib.SmallJoins
set_option linter.all false
set_option maxHeartbeats 40000000
open Go.Proofs.Tryz
open Go.Value renaming int->a0,ownBlock->a1
open Or renaming inr->a2,inl->a3
open Nat renaming zero_add->a4,le_refl->a5,le_of_not_lt->a6
open List renaming getD->a7,getElem?_eq_none->a8,mem_append->a9,map_append->aa,mem_map->ab,map_set->ac,getElem?_eq_some_iff->ae,getElem?_map->af,getElem?_take->ag,getElem?_append_left->ah,getElem?_eq_getElem->ai,set_cons_succ->aj,length_map->ak,perm_append_comm->al,getElem?_append_right->am,nodup_cons->an,mem_cons->ao,length_append->ap
open Option renaming map_some->aq,some->ar
open Array renaming getElem?_toList->au,length_toList->av
open Int renaming mul_comm->aw,mul_assoc->ax,mul_le_mul_of_nonneg_right->ay
open Go.Builtin renaming append_->az
namespace Go.Proofs.YtdigofgjhaakmaaGreatDoor
variable {l b:List Int} {i g n j:Nat} {a:Option Addr} {t ty:TypeId} {w W2 w' W W':World} {new c x A':Array Value} {o:Obj} {L K L':List (Nat×Obj)} {c0 v' v:Value}
section
open Go.RowKit Sm
namespace Sm
end Sm
theorem j63 (w:World) (l:List Int) (hb:j6 l) (d:l.length<=140737488351232) (T:TypeId):Row (w.alloc (.cells (l.map (a0 .u8)).toArray T)) (some ⟨w.heap.size,0,none⟩) l :=
 ⟨hb,d,a2 ⟨_,0,rfl,fun i hi=>by rw [a4,World.cell?_alloc_new];simp [hi]⟩⟩
namespace Sm
theorem jq {x:Int} (hx:0<=x/\x<=255) (h:j6 l):j6 (x::l):=by
 intro i;cases i with
 | zero=>simpa using hx
 | succ i=>simpa using h i
theorem ku:j6 []:=fun i=>by simp
theorem jdy (h:j6 l) (i m:Nat):j6 ((l.drop i).take m):=by
 intro j;by_cases hj:j<m
 ·have:((l.drop i).take m).getD j 0=l.getD (i+j) 0:=by simp [a7,hj]
  rw [this];exact h _
 ·have:((l.drop i).take m).getD j 0=0:=by
   simp only [a7];rw [a8 (by simp;omega)];rfl
  rw [this];omega
end Sm
theorem jg (x:Int) (d:0<=x) (f:x<=4294967295):IntKind.u32.wrap x=x:=wraps_u32 x d (by omega)
theorem yh (h:Row w a l):Row (w.alloc o) a l:=h.below ((Below.refl _ _).alloc (a5 _) _) (a5 _)
theorem j0v (h:Row w a l):Row w.drew a l:=h.below ((Below.refl _ _).drew) (a5 _)
theorem yg (h:Row w a l):Row (w.drewN n) a l:=h.below (Go.below_drewN (Below.refl _ _) n) (a5 _)
theorem Mem.push1 (h:Mem w W []) (d:g=W.heap.size):Mem w (W.alloc o) [(g,o)]:=h.push g o d
theorem Mem.push2 {p:Nat×Obj} (h:Mem w W [p]) (d:g=W.heap.size):Mem w (W.alloc o) [p,(g,o)]:=h.push g o d
theorem Wrote.trans {f d:World} {y:Array Value} {u:TypeId} (h:Wrote w f g x t) (k:Wrote f d g y u):Wrote w d g y u :=
 ⟨k.here,fun j r=>(k.there j r).trans (h.there j r),k.size.trans h.size,fun B q s hb=>k.below B q s (h.below B q s hb)⟩
theorem Wrote.cell {d:World} (h:Wrote w d g x t) {b:Nat} (hb:g≠b):d.cell? ⟨b,i,none⟩=w.cell? ⟨b,i,none⟩:=by
 unfold World.cell?;simp only;rw [h.there b (fun e=>hb e.symm)]
theorem Mem.join {f:World} (h:Mem f w L) (k:Mem w w' K):Mem f w' (L++K):=by
 have hs:=h.below.size;refine ⟨h.below.trans (k.below.mono hs),fun p d=>?_,fun p d=>?_,?_⟩
 ·rcases a9.mp d with d|d
  ·exact h.low p d
  ·exact Nat.le_trans hs (k.low p d)
 ·rcases a9.mp d with d|d
  ·rw [k.below.block p.1 (h.lt d)];exact h.at_ p d
  ·exact k.at_ p d
 ·rw [aa,List.nodup_append];refine ⟨h.apart,k.apart,fun a s b hb=>?_⟩;obtain ⟨p,d,rfl⟩:=ab.mp s;obtain ⟨q,r,rfl⟩:=ab.mp hb;have y:=h.lt d;have u:=k.low q r;omega
abbrev bs (l:List Int):Array Value:=(l.map (a0 .u8)).toArray
theorem jm2 (h:i<l.length):(bs l)[i]?=some (.int .u8 (l.getD i 0)):=by simp [h]
theorem jho (l:List Int) (i:Nat) (x:Int):(bs l).setIfInBounds i (.int .u8 x)=bs (l.set i x):=by
 simp [bs,ac]
theorem jaf (n:Nat):madeCells #[a0 .u8 0] n=bs (List.replicate n 0):=by
 apply Array.toList_inj.mp;rw [toList_madeCells_one];simp
theorem jhn (l:List Int):(bs l).size=l.length:=by simp [bs]
structure Inv (T:TypeId) (w W:World) (pA:Array Value) (v:Value) (n:Nat) (L:List Int):Prop where
 own:W.ownsRow (w.heap.size+1) 5 1 v n (L.map (a0 .u8))
 mem:Mem w W [(w.heap.size,.cells pA T (0,0))]
 size:w.heap.size+1<=W.heap.size
section
variable {T:TypeId} {w W W':World} {pA:Array Value} {v v':Value} {n m:Nat} {L K:List Int}
end
section
open Go.ChangeShapes Go.WideShapes Go.ChangeAt Go.Joins
variable {H:Type} {enc:TypeId×Value->H} {W:World} {base:Nat} {held:Bool}
theorem j7t {d:Nat} {k:IntKind} {y:DataW H×List MemPlace} (r:prog.underlying t=some (.int k)) (h:DataW.trod enc prog W base (fun _=>true) held d t [c0]=some y) :
  ∃ x,c0=.int k x/\(Lit.int k x).wf=true:=by
 obtain ⟨a,f,-,q⟩:=DataW.trod_int r h;simp only [List.cons.injEq,and_true] at f;exact ⟨a,f,q⟩
end
structure Bk where
 g:Nat
 cap:Nat
 cur:Array Value
 b:List Int
def Bk.hd (m:Nat) (k:Bk):Value:=.slice (some ⟨k.g,0,none⟩) m k.cap
def Bk.ob (k:Bk):Nat×Obj:=(k.g,.cells k.cur 5)
structure Bk.Ok (m:Nat) (k:Bk):Prop where
 cap:m<=k.cap
 size:k.cap<=k.cur.size
 here:k.cur.toList.take m=k.b.map (a0 .u8)
 len:k.b.length=m
 bytes:j6 k.b
abbrev dkL (p:Nat) (A:Array Value) (T:TypeId) (h:Nat) (hc:Array Value) (ks:List Bk) (L:List (Nat×Obj)):List (Nat×Obj) :=
 (p,.cells A T (0,0))::(h,.cells hc 86)::(ks.map Bk.ob++L)
structure St (w W:World) (p:Nat) (A:Array Value) (T:TypeId) (h m:Nat) (hc:Array Value) (ks:List Bk) (L:List (Nat×Obj)):Prop where
 mem:Mem w W (dkL p A T h hc ks L)
 heads:hc.toList.take ks.length=ks.map (Bk.hd m)
 ok:∀ k∈ks,k.Ok m
section
variable {w W:World} {p:Nat} {A:Array Value} {T:TypeId} {h m:Nat} {hc:Array Value} {ks:List Bk} {L:List (Nat×Obj)}
theorem St.box (s:St w W p A T h m hc ks L) (i:Nat):W.cell? ⟨p,i,none⟩=A[i]?:=s.mem.cell 0 rfl i
theorem St.boxFree (s:St w W p A T h m hc ks L) (i:Nat):W.frozen? ⟨p,i,none⟩=false:=s.mem.free 0 rfl i
theorem St.head (s:St w W p A T h m hc ks L) {k:Bk} (hi:ks[i]?=some k):W.cell? ⟨h,i,none⟩=some (.slice (some ⟨k.g,0,none⟩) m k.cap):=by
 have d:=(ae.mp hi).1;rw [s.mem.cell 1 rfl i];have e:=congrArg (fun l=>l[i]?) s.heads;simp only [af,hi,aq,ag,if_pos d,au] at e;exact e
theorem St.at_ (s:St w W p A T h m hc ks L) {k:Bk} (hi:ks[i]?=some k):(dkL p A T h hc ks L)[i+2]?=some (k.g,.cells k.cur 5):=by
 have d:=(ae.mp hi).1;show ((ks.map Bk.ob++L))[i]?=_;rw [ah (by simpa using d),af,hi];rfl
theorem St.okAt (s:St w W p A T h m hc ks L) {k:Bk} (hi:ks[i]?=some k):k.Ok m:=s.ok k (List.mem_of_getElem? hi)
theorem St.cell (s:St w W p A T h m hc ks L) {k:Bk} (hi:ks[i]?=some k) (f:j<m):W.cell? ⟨k.g,j,none⟩=some (.int .u8 (k.b.getD j 0)):=by
 have o:=s.okAt hi;rw [s.mem.cell (i+2) (s.at_ hi) j];have e:=congrArg (fun l=>l[j]?) o.here;have d:j<k.b.length:=by rw [o.len];exact f
 simp only [af,ag,if_pos f,au,ai d,aq] at e;rw [e,j1c d]
theorem St.row (s:St w W p A T h m hc ks L) {k:Bk} (hi:ks[i]?=some k) (f:m<=140737488351232):Row W (some ⟨k.g,0,none⟩) k.b:=by
 have o:=s.okAt hi;exact ⟨o.bytes,by rw [o.len];exact f,a2 ⟨k.g,0,rfl,fun j d=>by rw [a4];exact s.cell hi (by rw [o.len] at d;exact d)⟩⟩
theorem St.drew (s:St w W p A T h m hc ks L):St w W.drew p A T h m hc ks L:=⟨s.mem.drew,s.heads,s.ok⟩
theorem St.put (s:St w W p A T h m hc ks L) (j:Nat) (v:Value):St w (W.setCell ⟨p,j,none⟩ v) p (A.setIfInBounds j v) T h m hc ks L :=
 ⟨s.mem.set 0 rfl j v,s.heads,s.ok⟩
theorem St.set (s:St w W p A T h m hc ks L) {k:Bk} (hi:ks[i]?=some k) (hw:Wrote W W2 k.g new 5) (r:new.size=k.cur.size)
  (d:new.toList.take m=b.map (a0 .u8)) (hb:j6 b) (B:b.length=m):St w W2 p A T h m hc (ks.set i ⟨k.g,k.cap,new,b⟩) L:=by
 have o:=s.okAt hi;have f:=(ae.mp hi).1;refine ⟨?_,?_,?_⟩
 ·have:=s.mem.wrote (i+2) (s.at_ hi) hw;have e:(dkL p A T h hc ks L).set (i+2) (k.g,.cells new 5)=dkL p A T h hc (ks.set i ⟨k.g,k.cap,new,b⟩) L:=by
   simp only [dkL,aj,ac];rw [List.set_append_left _ _ (by simpa using f)];rfl
  rw [e] at this;exact this
 ·rw [List.length_set,s.heads,ac];apply List.ext_getElem?;intro j;by_cases e:i=j
  ·subst e;rw [List.getElem?_set_self (by simpa using f),af,hi];rfl
  ·rw [List.getElem?_set_ne e]
 ·intro y u;rcases List.mem_or_eq_of_mem_set u with q|q
  ·exact s.ok y q
  ·subst q;exact ⟨o.cap,by rw [r];exact o.size,d,B,hb⟩
theorem St.fill (s:St w W p A T h m hc ks L) {k:Bk} (hi:ks[i]?=some k) (f:l.length<=m) (hb:j6 l)
  (d:new.toList=k.cur.toList.take 0++(l.map (a0 .u8)++k.cur.toList.drop (0+l.length))) (hw:Wrote W W2 k.g new 5) :
  St w W2 p A T h m hc (ks.set i ⟨k.g,k.cap,new,l++k.b.drop l.length⟩) L:=by
 have o:=s.okAt hi;have r:=o.cap;have q:=o.size;rw [List.take_zero,List.nil_append,a4] at d;refine s.set hi hw ?_ ?_ ?_ ?_
 ·rw [<-av,d,<-av];simp;omega
 ·rw [d,aa,List.map_drop,<-o.here,List.drop_take,List.take_append,ak,List.take_of_length_le (by simpa using f)]
 ·refine bytes_append hb ?_;intro j;have:(k.b.drop l.length).getD j 0=k.b.getD (l.length+j) 0:=by simp [a7]
  rw [this];exact o.bytes _
 ·have:=o.len;simp;omega
theorem St.perm (s:St w W p A T h m hc ks L) (d:L.Perm L'):St w W p A T h m hc ks L' :=
 ⟨s.mem.perm (((d.append_left _).cons _).cons _),s.heads,s.ok⟩
theorem St.join (s:St w W p A T h m hc ks L) (k:Mem W W2 K):St w W2 p A T h m hc ks (K++L):=by
 refine ⟨(s.mem.join k).perm ?_,s.heads,s.ok⟩;simp only [dkL,List.cons_append,List.append_assoc];exact (((al).append_left _).cons _).cons _
theorem St.extra {q:Nat×Obj} (s:St w W p A T h m hc ks (q::L)):(dkL p A T h hc ks (q::L))[ks.length+2]?=some q:=by
 show ((ks.map Bk.ob++q::L))[ks.length]?=_;rw [am (by simp)];simp
theorem St.extraFree (s:St w W p A T h m hc ks ((g,.cells c t (0,0))::L)) (j:Nat):W.frozen? ⟨g,j,none⟩=false:=s.mem.free _ s.extra j
theorem St.extraSet (s:St w W p A T h m hc ks ((g,.cells c t (0,0))::L)) (j:Nat) (v:Value):St w (W.setCell ⟨g,j,none⟩ v) p A T h m hc ks ((g,.cells (c.setIfInBounds j v) t (0,0))::L):=by
 refine ⟨?_,s.heads,s.ok⟩;have d:=s.mem.set _ s.extra j v;have e:(dkL p A T h hc ks ((g,.cells c t (0,0))::L)).set (ks.length+2) (g,.cells (c.setIfInBounds j v) t (0,0))=dkL p A T h hc ks ((g,.cells (c.setIfInBounds j v) t (0,0))::L):=by
  simp only [dkL,aj];rw [List.set_append_right _ _ (by simp)];simp
 rw [e] at d;exact d
end
namespace Cf
def be:Nat->Int->List Int
 | 0,_=>[]
 | n+1,x=>(x / 256 ^ n % 256)::be n x
theorem jr:∀ (n:Nat) (x:Int),(be n x).length=n
 | 0,_=>rfl
 | n+1,x=>by simp [be,jr n x]
theorem ya (x:Int):0<=x % 256/\x % 256<=255:=by omega
theorem jm3:∀ (n:Nat) (x:Int) (i:Nat),i<n->(be n x).getD i 0=x / 256 ^ (n-1-i) % 256
 | n+1,x,0,_=>by simp [be]
 | n+1,x,i+1,h=>by
  rw [be,List.getD_cons_succ,jm3 n x i (by omega),show n+1-1-(i+1)=n-1-i by omega]
theorem jag (n:Nat) (x:Int) (i:Nat) (h:i<n):(be n x).take (i+1)=(be n x).take i++[x / 256 ^ (n-1-i) % 256]:=by
 rw [List.take_succ_eq_append_getElem (by rw [jr];exact h)];congr 2;rw [<-jm3 n x i h];simp [a7,jr,h]
def num (l:List Int):Int:=l.foldl (fun x y=>x*256+y) 0
theorem jje (l:List Int) (y:Int):num (l++[y])=num l*256+y:=by simp [num]
theorem jbo (l:List Int) (i:Nat) (h:i<l.length):num (l.take (i+1))=num (l.take i)*256+l.getD i 0:=by
 rw [List.take_succ_eq_append_getElem h,jje];simp [a7,h]
theorem jdl (l:List Int):∀ (a:Int),j6 l->0<=a->a*256 ^ l.length<=l.foldl (fun x y=>x*256+y) a/\l.foldl (fun x y=>x*256+y) a<(a+1)*256 ^ l.length:=by
 induction l with
 | nil=>intro a _ h;simp;omega
 | cons y l ih =>
  intro a hb h;have r:=hb 0;simp only [List.getD_cons_zero] at r;have d:j6 l:=fun i=>by have:=hb (i+1);simpa using this
  obtain ⟨k,f⟩:=ih (a*256+y) d (by omega);simp only [List.foldl_cons,List.length_cons,Int.pow_succ];have s:(0:Int)<256 ^ l.length:=Int.pow_pos (by decide);generalize (256:Int) ^ l.length=q at k f s ⊢;constructor
  ·refine Int.le_trans ?_ k;rw [aw q 256,<-ax];exact ay (by omega) (by omega)
  ·refine Int.lt_of_lt_of_le f ?_;rw [aw q 256,<-ax];exact ay (by omega) (by omega)
theorem j0m (h:j6 l):0<=num l/\num l<256 ^ l.length:=by
 have:=jdl l 0 h (Int.le_refl _);simp only [Int.zero_mul,Int.zero_add,Int.one_mul] at this;exact this
theorem j0e (h:j6 l) (i:Nat):j6 (l.take i):=by
 have:=jdy h 0 i;simpa using this
theorem j8o {a:List Int} (d:j6 a) (hb:j6 b):j6 (a++b):=by
 intro i;by_cases h:i<a.length
 ·have:(a++b).getD i 0=a.getD i 0:=by simp [a7,ah h]
  rw [this];exact d i
 ·have:(a++b).getD i 0=b.getD (i-a.length) 0:=by simp [a7,am (a6 h)]
  rw [this];exact hb _
end Cf
structure Dk where
 dead:Bool
 set:Bool
 left:Int
 pre:Int
abbrev dkA (h n:Nat) (D:Dk):Array Value:=#[.slice (some ⟨h,0,none⟩) n n,.bool D.dead,.bool D.set,.int .i64 D.left,.int .i64 D.pre]
abbrev dkT:TypeId:=90
structure DkAt (w W:World) (p h m:Nat) (D:Dk) (hc:Array Value) (ks:List Bk) (L:List (Nat×Obj)):Prop where
 st:St w W p (dkA h ks.length D) dkT h m hc ks L
 pos:0<ks.length
 top:ks.length<=64
 mlo:64<=m
 mhi:m<=65536
 left:0<=D.left/\D.left<=9223372036854775807
 pre:0<=D.pre/\D.pre<=m
def dbd (n lo hi:Int):Int:=min (max n lo) hi
def dIn (n:Nat) (i:Int):Bool:=decide (0<=i) && decide (i<n)
theorem j1e (n d hi:Int) (w:World):Calls prog 39 #[.int .i64 n,.int .i64 d,.int .i64 hi] w fun e w'=>e=.returned (.int .i64 (dbd n d hi))/\w=w':=by
 go_enter func39,ntmps39
 go_wp2
 all_goals go_ret
 all_goals exact ⟨j28 (by unfold dbd;omega),rfl⟩
section
variable {w W:World} {p h m:Nat} {D:Dk} {hc:Array Value} {ks:List Bk} {L:List (Nat×Obj)}
theorem j4h (H:DkAt w W p h m D hc ks L):Calls prog 74 #[.pointer (some ⟨p,0,none⟩)] W fun e W'=>e=.returned (.int .i64 ks.length)/\W=W':=by
 have c0:=H.st.box 0;simp at c0;generalize ks.length=n at c0 ⊢;clear H;go_enter func74,ntmps74
 go_wp2
 go_ret;exact ⟨rfl,rfl⟩
theorem yk (H:DkAt w W p h m D hc ks L):Calls prog 50 #[.pointer (some ⟨p,0,none⟩)] W fun e W'=>e=.returned (.int .i64 m)/\W=W':=by
 have c0:=H.st.box 0;simp at c0;have f:=H.pos;obtain ⟨k,q⟩:∃ k,ks[0]?=some k:=⟨_,ai f⟩;have r:=H.st.head q;have d:(0:Int)<(ks.length:Int):=by omega
 generalize ks.length=n at c0 f d ⊢;clear H q;go_enter func50,ntmps50
 go_wp2
 go_ret;exact ⟨rfl,rfl⟩
theorem jh5 (H:DkAt w W p h m D hc ks L):Calls prog 21 #[.pointer (some ⟨p,0,none⟩)] W fun e W'=>e=.returned (.bool D.dead)/\W=W':=by
 have c0:=H.st.box 1;simp at c0;clear H;go_enter func21,ntmps21
 go_wp2
 go_ret;exact ⟨rfl,rfl⟩
theorem j6y (H:DkAt w W p h m D hc ks L) (i:Int):Calls prog 144 #[.pointer (some ⟨p,0,none⟩),.int .i64 i] W fun e W'=>e=.returned (.bool (dIn ks.length i))/\W=W':=by
 have c0:=H.st.box 0;simp at c0;generalize ks.length=n at c0 ⊢;clear H;unfold dIn;by_cases h0:0<=i
 ·go_enter func144,ntmps144
  go_wp2
  go_ret;exact ⟨by simp [h0],rfl⟩
 ·go_enter func144,ntmps144
  go_wp2
  go_ret;exact ⟨by simp;omega,rfl⟩
theorem jh0 (r:l.length=n) (hr:Row W a l) (c:Nat) :
  Calls prog 255 #[.slice a n c] W fun e W'=>∃ g,e=.returned (.slice (some ⟨g,0,none⟩) n n)/\Mem W W' [(g,.cells (bs l) 5)]:=by
 have E:=hr.len;have F:=j07 n (by omega) W;have f:Mem W (W.alloc (.cells (madeCells #[.int .u8 0] n) 5)) [(W.heap.size,.cells (madeCells #[.int .u8 0] n) 5)]:=(Mem.nil W).push1 rfl;have d:Row (W.alloc (.cells (madeCells #[.int .u8 0] n) 5)) a l:=yh hr;generalize W.alloc (.cells (madeCells #[.int .u8 0] n) 5)=B at F f d;obtain ⟨y,s,k⟩:=j08 B 3 (some ⟨W.heap.size,0,none⟩) a n n n c W.heap.size 0 _ (bs l) 5 (f.get 0 rfl) l (by rw [r];exact (Nat.min_self n).symm)
  (fun C=>by
   rcases d.cells with e|⟨b,off,rfl,hc⟩
   ·subst e;simp at C
   ·exact ⟨rfl,_,rfl,d.news⟩)
  (by rw [size_madeCells];simp;omega) (jbs n l r)
 rw [r] at s;have q:=f.wrote 0 rfl k;have u:Hid (Mem W y [(W.heap.size,.cells (bs l) 5)]):=q;generalize W.heap.size=g at *;clear f hr d k E r q;go_enter func255,ntmps255
 go_wp2
 go_ret;exact ⟨g,rfl,u.out⟩
theorem jlx (H:DkAt w W p h m D hc ks L) (f:Bool) (s':Bool) (d q':Int) (q:0<=d/\d<=9223372036854775807) (k:0<=q'/\q'<=m) (hs:St w W' p A' dkT h m hc ks L)
  (r:A'=dkA h ks.length ⟨f,s',d,q'⟩):DkAt w W' p h m ⟨f,s',d,q'⟩ hc ks L:=by
 subst r;exact ⟨hs,H.pos,H.top,H.mlo,H.mhi,q,k⟩
theorem jdp (H:DkAt w W p h m D hc ks L):Calls prog 24 #[.pointer (some ⟨p,0,none⟩)] W fun e W'=>e=.returned (.tuple #[])/\DkAt w W' p h m ⟨false,false,0,0⟩ hc ks L:=by
 have q:=H.st.box 1;have k:=H.st.box 2;have f:=H.st.box 3;have d:=H.st.box 4;simp at q k f d;have B:=H.st.boxFree 1;have y:=H.st.boxFree 2;have u:=H.st.boxFree 3;have s:=H.st.boxFree 4;have r:Hid (DkAt w W p h m D hc ks L):=H;clear H;go_enter func24,ntmps24
 go_wp2
 go_end0
 have H:=r.out;exact ⟨rfl,jlx H false false 0 0 (by omega) (by omega) ((((H.st.put 1 (.bool false)).put 2 (.bool false)).put 3 (.int .i64 0)).put 4 (.int .i64 0)) (by simp [dkA])⟩
theorem jko (H:DkAt w W p h m D hc ks L) (n q:Int) (C:n<=9223372036854775807):Calls prog 19 #[.pointer (some ⟨p,0,none⟩),.int .i64 n,.int .i64 q] W fun e W'=>e=.returned (.tuple #[])/\DkAt w W' p h m ⟨D.dead,true,max n 0,dbd q 0 m⟩ hc ks L:=by
 have B:=H.st.box 2;have y:=H.st.box 3;have u:=H.st.box 4;simp at B y u;have I:=H.st.boxFree 2;have G:=H.st.boxFree 3;have F:=H.st.boxFree 4;have s:Hid (Calls prog 50 #[.pointer (some ⟨p,0,none⟩)] W fun e W'=>e=.returned (.int .i64 m)/\W=W'):=yk H;have r:Hid (DkAt w W p h m D hc ks L):=H;clear H;have J:Hid (dbd q 0 m=dbd q 0 m):=rfl;have hb:=j1e q 0 m W;have k:Hid (0<=dbd q 0 m/\dbd q 0 m<=m):=by constructor<;>unfold dbd<;>omega
 generalize dbd q 0 m=z at hb k ⊢;have f:∀ x,x=max n 0->Hid (DkAt w ((((W.setCell ⟨p,2,none⟩ (.bool true)).setCell ⟨p,3,none⟩ (.int .i64 x)).setCell ⟨p,4,none⟩ (.int .i64 z))) p h m ⟨D.dead,true,max n 0,z⟩ hc ks L):=by
  intro x hx;subst hx;have H:=r.out;exact jlx H D.dead true (max n 0) z (by omega) k.out (((H.st.put 2 _).put 3 _).put 4 _) (by simp [dkA])
 by_cases h0:n<0
 ·have d:=f 0 (by omega);clear f r k;go_enter func19,ntmps19;go_wp2_with fail;refine s.out.mono ?_;rintro e w' ⟨rfl,rfl⟩;go_wp2_with fail;refine hb.mono ?_;rintro e w' ⟨rfl,rfl⟩
  go_wp2
  go_end0
  exact ⟨rfl,d.out⟩
 ·have d:=f n (by omega);have E:0<=n:=by omega
  clear f r k h0;go_enter func19,ntmps19;go_wp2_with fail;refine s.out.mono ?_;rintro e w' ⟨rfl,rfl⟩;go_wp2_with fail;refine hb.mono ?_;rintro e w' ⟨rfl,rfl⟩
  go_wp2
  go_end0
  exact ⟨rfl,d.out⟩
end
def Ow (w W:World) (e:TypeId) (sz:Nat) (v:Value) (n:Nat) (xs:List Value) (L:List (Nat×Obj)):Prop :=
 xs.length=n*sz/\((v=.slice none 0 0/\n=0/\Mem w W L) \/
  ∃ g cap cur,v=.slice (some ⟨g,0,none⟩) n cap/\Mem w W ((g,.cells cur e (0,0))::L)/\n<=cap/\cap<=maxLen/\cur.size=cap*sz/\cur.toList.take (n*sz)=xs)
section
variable {w W W':World} {e t ty:TypeId} {sz bytes n m:Nat} {v v' z:Value} {xs ys:List Value} {L:List (Nat×Obj)}
theorem Ow.nil (h:Mem w W L):Ow w W e sz (.slice none 0 0) 0 [] L:=⟨by simp,a3 ⟨rfl,rfl,h⟩⟩
theorem Ow.mem (h:Ow w W e sz v n xs L):Mem w W L:=by
 rcases h.2 with ⟨_,_,h⟩|⟨g,cap,cur,_,h,_⟩
 ·exact h
 ·exact h.sub
theorem Ow.owns (h:Ow w W e sz v n xs L):W.ownsRow w.heap.size e sz v n xs:=by
 refine ⟨h.1,?_⟩;rcases h.2 with ⟨rfl,rfl,_⟩|⟨g,cap,cur,rfl,hm,r⟩
 ·exact a3 ⟨rfl,rfl⟩
 ·exact a2 ⟨g,cap,cur,rfl,hm.ge 0 rfl,hm.get 0 rfl,r⟩
theorem Ow.after (h:Ow w W e sz v n xs L) (hb:Below W.heap.size W W'):Ow w W' e sz v n xs L:=by
 refine ⟨h.1,?_⟩;rcases h.2 with ⟨rfl,rfl,hm⟩|⟨g,cap,cur,rfl,hm,r⟩
 ·exact a3 ⟨rfl,rfl,hm.after hb⟩
 ·exact a2 ⟨g,cap,cur,rfl,hm.after hb,r⟩
theorem Ow.of (h:Ow w W e sz v n xs L) (C:W'.ownsRow w.heap.size e sz v' m ys) (E:W.grownBy W' v.ownBlock) (f:v'.ownBlock=v.ownBlock\/v'.ownBlock=some W.heap.size):Ow w W' e sz v' m ys L:=by
 have u:=h.mem;have s:∀ k,v.ownBlock=some k->w.heap.size<=k/\∀ p∈L,p.1≠k:=by
  intro k y;rcases h.2 with ⟨rfl,_⟩|⟨g,cap,cur,rfl,hm,r⟩
  ·simp [a1] at y
  ·simp only [a1,ar.injEq] at y;subst y;refine ⟨hm.ge 0 rfl,fun p d e=>?_⟩;have:=(an.mp hm.apart).1;exact this (by simp only [ab];exact ⟨p,d,e⟩)
 have q:Mem w W' L:=by
  refine ⟨u.below.grown E u.below.size (fun k y=>(s k y).1),u.low,fun p d=>?_,u.apart⟩;rw [E.block p.1 (u.lt d) (fun e=>(s p.1 e.symm).2 p d rfl)];exact u.at_ p d
 refine ⟨C.1,?_⟩;rcases C.2 with ⟨rfl,rfl⟩|⟨g,cap,cur,rfl,hb,hh,r⟩
 ·exact a3 ⟨rfl,rfl,q⟩
 ·refine a2 ⟨g,cap,cur,rfl,⟨q.below,fun p d=>?_,fun p d=>?_,?_⟩,r⟩
  ·rcases ao.mp d with rfl|d
   ·exact hb
   ·exact q.low p d
  ·rcases ao.mp d with rfl|d
   ·exact hh
   ·exact q.at_ p d
  ·rw [List.map_cons,an];refine ⟨fun B=>?_,q.apart⟩;obtain ⟨p,d,F⟩:=ab.mp B;simp only [a1] at f;rcases f with f|f
   ·exact (s g f.symm).2 p d F
   ·simp only [ar.injEq] at f;have:=u.lt d;simp only at F;omega
theorem yi (B:prog.underlying t=some (.slice e)) (hi:(prog.info? e).map (fun i=>(i.zero,i.size,i.bytes))=some (some z,sz,bytes)) (f:z.cells.size=sz) (k:0<sz)
  (h:Ow w W e sz v n xs L) (a:Addr) (m c:Nat) (news:List Value) (C:news.length=m*sz) (d:∀ j u,news[j]?=some u->W.cell? (a.add j)=some u) (I:∀ u∈news,u.oneCell'=true)
  (s:n+m<=maxLen) (hb:(n+m)*bytes<=140737488355328) :
  ∃ v' W',(az #[t,t] ty #[v,.slice (some a) m c]).run prog W=.ok v' W'/\Ow w W' e sz v' (n+m) (xs++news) L:=by
 obtain ⟨i,hi,y,q,r⟩:=info_parts hi;obtain ⟨v',W',hr,G,F,_,E⟩:=run_append_own_at (P:=prog) W w.heap.size t ty e i z sz bytes B hi y q r f k v n xs h.owns a m c news C d I s hb h.mem.below.size;exact ⟨v',W',hr,h.of G F E⟩
end
theorem wpList_append_run {d:Array Oper} {rest:List Oper} {o:Oper} {a:Act} {Q:Exit->Act->World->Prop}
  (s x:Operand) (t f:TypeId) (y:o.op=.call { callee:=.builtin .append,args:=#[s,x],argTypes:=#[t,f] }) {u r:Value}
  (hr:(az #[t,f] ty #[u,r]).run prog W=.ok v' w') (k:o.type=ty) (q:Region.wanted o (yielded d a.tmps)=true) (hs:a.eval s=u) (hx:a.eval x=r) (h:wpList prog d Q rest (a.put o.dst v') w') :
  wpList prog d Q (o::rest) a W:=by
 subst k;exact yq q fun K B=>j0b s x t f y hs hx hr (B _ _ h)
def Out (w W:World) (v:Value) (l:List Int) (L:List (Nat×Obj)):Prop:=j6 l/\Ow w W 5 1 v l.length (l.map (a0 .u8)) L
section
variable {w W W':World} {v:Value} {l:List Int} {L:List (Nat×Obj)}
theorem Out.mem (h:Out w W v l L):Mem w W L:=h.2.mem
theorem Out.after (h:Out w W v l L) (hb:Below W.heap.size W W'):Out w W' v l L:=⟨h.1,h.2.after hb⟩
theorem Out.nil (h:Mem w W L):Out w W (.slice none 0 0) [] L:=⟨ku,Ow.nil h⟩
theorem Out.own (h:Out w W v l L):W.ownsRow w.heap.size 5 1 v l.length (l.map (a0 .u8)):=h.2.owns
theorem Out.drop {p:Nat×Obj} (h:Out w W v l (p::L)):Out w W v l L:=by
 refine ⟨h.1,h.2.1,?_⟩;rcases h.2.2 with ⟨rfl,e,hm⟩|⟨g,cap,cur,rfl,hm,r⟩
 ·exact a3 ⟨rfl,e,hm.sub⟩
 ·exact a2 ⟨g,cap,cur,rfl,(hm.perm (List.Perm.swap _ _ _)).sub,r⟩
theorem Out.add (h:Out w W v l L) (d:g=W.heap.size):Out w (W.alloc o) v l ((g,o)::L):=by
 refine ⟨h.1,h.2.1,?_⟩;rcases h.2.2 with ⟨rfl,e,hm⟩|⟨k,cap,cur,rfl,hm,r⟩
 ·exact a3 ⟨rfl,e,(hm.push g o d).perm al⟩
 ·refine a2 ⟨k,cap,cur,rfl,(hm.push g o d).perm ?_,r⟩;exact al.trans (List.Perm.swap _ _ _)
theorem qq (h:Out w W v l L) (ad:Addr) (m c:Nat) (k:List Int) (d:k.length=m) (hr:Row W (some ad) k) (hb:l.length+m<=1000000000) (ty:TypeId) :
  ∃ v' W',(az #[86,86] ty #[v,.slice (some ad) m c]).run prog W=.ok v' W'/\Out w W' v' (l++k) L:=by
 obtain ⟨v',W',r,q⟩:=yi (ty:=ty) underlying86 jdg rfl (by decide) h.2 ad m c (k.map (a0 .u8)) (by simp [d]) (by
  rcases hr.cells with e|⟨b,off,e,_⟩
  ·subst e;intro j u f;simp at f
  ·cases e;exact hr.news) (ints_oneCell _ _) (by unfold maxLen;omega) (by omega)
 refine ⟨v',W',r,Cf.j8o h.1 hr.bytes,?_⟩;rw [ap,aa,d];exact q
theorem j1b (h:Out w W v l L) (x:Int) (hx:0<=x/\x<=255) (hb:l.length+1<=1000000000) (ty:TypeId) :
  ∃ v' W',(az #[86,86] ty #[v,.slice (some ⟨W.heap.size,0,none⟩) 1 1]).run prog (W.alloc (.cells #[.int .u8 x] 5))=.ok v' W'/\Out w W' v' (l++[x]) L:=by
 have hr:=j63 W [x] (jq hx ku) (by simp) 5;exact qq (h.after ((Below.refl _ _).alloc (a5 _) _)) _ 1 1 [x] rfl hr hb ty
theorem j5s (s:ByteArray):Lib.strCells s=(s.data.toList.map (fun b=>(b.toNat:Int))).map (a0 .u8):=by
 simp [Lib.strCells,Function.comp_def]
end
def sb (s:ByteArray):List Int:=s.data.toList.map (fun b=>(b.toNat:Int))
theorem j54 (s:ByteArray):(sb s).length=s.size:=by simp only [sb,ak,av];rfl
theorem jbd (s:ByteArray):j6 (sb s):=by
 intro i;by_cases h:i<(sb s).length
 ·rw [j1c h];simp only [sb,List.getElem_map];have:=(s.data.toList[i]'(by simpa [sb] using h)).toNat_lt;omega
 ·have:(sb s).getD i 0=0:=by simp [a7,a8 (a6 h)]
  rw [this];omega
theorem j67 {a b:Value} (h:(Result.ok a w:Result Value)=.ok b w'):a.ownBlock=b.ownBlock:=by cases h;rfl
theorem jfp (h:Out w W v l L) (s:ByteArray) (hb:l.length+s.size<=1000000000) (ty:TypeId) :
  ∃ v' W',(az #[86,9] ty #[v,.string s]).run prog W=.ok v' W'/\Out w W' v' (l++sb s) L:=by
 obtain ⟨i,hi,y,f,k⟩:=info_parts jdg;have F:=h.mem;have q:=underlying86;have d:=underlying9;obtain ⟨v',W',hr,C,I,G⟩:=Lib.run_append_own_string (P:=prog) W w.heap.size 86 9 ty 5 i q d hi y f k v l.length _ h.own s (by unfold maxLen;omega) (by omega) F.below.size;refine ⟨v',W',hr,Cf.j8o h.1 (jbd s),?_⟩;rw [ap,aa,j54];rw [j5s] at C;refine h.2.of C I ?_;rcases h.2.2 with ⟨rfl,e,hm⟩|⟨g,cap,cur,rfl,hm,hnc,hcm,hcs,htake⟩
 ·have J:l=[]:=List.length_eq_zero_iff.mp e;subst J;obtain ⟨M,W2,r,B,_⟩:=Lib.run_append_own_string (P:=prog) W W.heap.size 86 9 ty 5 i q d hi y f k (.slice none 0 0) 0 [] (World.ownsRow_nil _ _ _ _) s (by unfold maxLen;omega) (by omega) (a5 _);rw [hr] at r;cases r;rcases B.2 with ⟨rfl,_⟩|⟨g,cap,cur,rfl,hb,hh,_⟩
  ·exact a3 rfl
  ·right;simp only [a1,ar.injEq];have E:=hr;by_cases hs0:s.size=0
   ·have:=(G.2 ⟨rfl,hs0⟩);cases this
   ·have:=run_append_nil_string (P:=prog) W 86 9 ty 5 i (.int .u8 0) q d hi y s (by omega) (by omega) (by rw [k];omega);have u:=j67 (hr.symm.trans this);simpa [a1] using u
 ·by_cases hroom:l.length+s.size<=cap
  ·have:=Lib.run_append_room_string (P:=prog) W 86 9 ty 5 i q d hi f g l.length cap cur (hm.get 0 rfl) s hroom (by omega);have u:=j67 (hr.symm.trans this);exact a3 u
  ·have:=Lib.run_append_grow_string (P:=prog) W 86 9 ty 5 i (.int .u8 0) q d hi y ⟨g,0,none⟩ l.length cap (l.map (a0 .u8)) (by rw [f];simp) (World.ownsRow.cells h.own rfl) s (by omega) (by omega) (growslice_fits (by omega) (by rw [k];omega));have u:=j67 (hr.symm.trans this);exact a2 u
end
end Go.Proofs.YtdigofgjhaakmaaGreatDoor
