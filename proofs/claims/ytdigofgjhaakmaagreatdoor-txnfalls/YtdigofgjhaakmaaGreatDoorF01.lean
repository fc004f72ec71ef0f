/- Parts of the proof. -/
import Derived.Test.YtdigofgjhaakmaaGreatDoorRows
import Derived.WalkSpells
import Derived.WalkLawsBesides
import Derived.Laws.AppendOwnNone
import Derived.Lib.AppendZerosOnto
import Derived.Laws.CopyOwn
import Derived.Deep.OwnRows
import Derived.Deep.RegionHeld3
import Derived.BigQuiet
import Derived.Deep.DeepCutAuto
import Derived.Lib.BufferRead
set_option linter.all false
set_option maxHeartbeats 40000000
open Go.Proofs.Tryz
open Go.IntKind renaming u32->a0,u64->a1,wrap->a2,bits->a3,signed->a4,i64->a5,wrap_i64->a6,u16->a7,u8->a8
open Or renaming inl->a9,inr->aa
open List renaming getD->ab,getElem?_eq_getElem->ac,getElem?_eq_some_iff->ae,getElem?_append_left->af,getElem?_append_right->ag,take_add_one->ah,foldl_append->ai,foldl_cons->aj,getElem?_eq_none->ak,replicate->al,append_assoc->am,getElem?_set_ne->an,take_of_length_le->ao,getElem_mem->ap,replicate_succ->aq,drop_eq_nil_of_le->ar,length_set->au,length_map->av,mem_append->aw,mem_cons_of_mem->ax,mem_of_getElem?->ay,pairwise_iff_getElem->az
open Go.Value renaming int->aA
open Option renaming some->aB,toList->aD,getD->aE
open Go.Region renaming wanted->aF
open Nat renaming le_of_not_lt->aG,add_zero->aH,div_lt_iff_lt_mul->aI,le_one_iff_eq_zero_or_eq_one->aJ,le_refl->aK,min->aL,lt_trichotomy->aM
open Int renaming emod_nonneg->aN,emod_lt_of_pos->aO,mul_comm->aP,mul_assoc->aQ,mul_le_mul_of_nonneg_right->aR,pow_succ->aS,toNat_natCast->aT
open Prod renaming fst->aU
namespace Go.Proofs.YtdigofgjhaakmaaGreatDoor
variable {L:List (Nat×Obj)} {w w' W:World} {bl bl':List (List Int)} {l:List Int} {g i m slot n off b B:Nat} {t:TypeId} {c new:Array Value} {a:Option Addr} {o:Obj} {v v':Value} {p:Addr} {x:Int}
section
namespace Sm
theorem wraps_u32 (n:Int) (e:0<=n) (d:n<2 ^ 32):a0.wrap n=n:=by rw [IntKind.wrap_u32];omega
theorem wraps_u64 (n:Int) (e:0<=n) (d:n<2 ^ 64):a1.wrap n=n:=by
 simp [a2,a3,a4];omega
def j6 (l:List Int):Prop:=∀ i:Nat,0<=l.getD i 0/\l.getD i 0<=255
end Sm
theorem sqa {α:Type} {xs:List α} (h:i<xs.toArray.size):xs.toArray[i]=xs[i]'(by simpa using h):=List.getElem_toArray h
theorem sqb {α:Type} {a:α} {l:List α} {h:0<(a::l).length}:(a::l)[0]=a:=List.getElem_cons_zero a l h
theorem sqc {α:Type} {a:α} {l:List α} {h:i+1<(a::l).length}:(a::l)[i+1]=l[i]'(Nat.lt_of_succ_lt_succ h):=List.getElem_cons_succ a l i h
theorem sqd {α:Type} {l:List α} {a:α}:l.toArray.setIfInBounds i a=(l.set i a).toArray:=List.setIfInBounds_toArray l i a
theorem sqe {α:Type} {x:α} {xs:List α} {a:α}:(x::xs).set 0 a=a::xs:=List.set_cons_zero
theorem sqf {α:Type} {x:α} {xs:List α} {a:α}:(x::xs).set (i+1) a=x::xs.set i a:=List.set_cons_succ
theorem sqx:(∀ {α:Type} {xs:List α} {i:Nat} (h:i<xs.toArray.size),xs.toArray[i]=xs[i]'(by simpa using h))/\(∀ {α:Type} {a:α} {l:List α} {h:0<(a::l).length},(a::l)[0]=a)/\(∀ {α:Type} {a:α} {l:List α} {i:Nat} {h:i+1<(a::l).length},(a::l)[i+1]=l[i]'(Nat.lt_of_succ_lt_succ h))/\(∀ {α:Type} {l:List α} {i:Nat} {a:α},l.toArray.setIfInBounds i a=(l.set i a).toArray)/\(∀ {α:Type} {x:α} {xs:List α} {a:α},(x::xs).set 0 a=a::xs)/\∀ {α:Type} {x:α} {xs:List α} {i:Nat} {a:α},(x::xs).set (i+1) a=x::xs.set i a:=⟨sqa,sqb,sqc,sqd,sqe,sqf⟩
theorem tkq {P:Program} {k:Region.Mode} {e:Array Oper} {Q:Exit->Act->World->Prop} {S:World->Prop} {f:Nat} {d:Array Bool} {a:Act} (i:Nat) {j:Oper} (hi:e[i]?=some j)
  (q:YieldsIf P e S j v a) (h:wpAnyH P k e Q S f (d.setIfInBounds i true) (a.put j.dst v) w)
  (hs:Region.noSelect e=true:=by kernel_rfl) (r:Region.free k e d i=true:=by kernel_rfl) (hr:(Region.ready k e d).contains i=true:=by kernel_rfl)
  (u:∀ c a w,Q (.panic c) (a.put j.dst v) w->Q (.panic c) a w:=by exact fun _ _ _ h=>h) (s:S w:=by assumption):wpAnyH P k e Q S (f+1) d a w :=
 wpAnyH_take hi hs r hr u q s h
end
section
open Go.RowKit Sm
theorem j28 {k:IntKind} {a b:Int} (h:a=b):Ending.returned (.int k a)=.returned (.int k b):=by rw [h]
structure Row (w:World) (a:Option Addr) (l:List Int):Prop where
 bytes:j6 l
 len:l.length<=140737488351232
 cells:l=[]\/∃ b off,a=some ⟨b,off,none⟩/\∀ i,i<l.length->w.cell? ⟨b,off+i,none⟩=some (.int .u8 (l.getD i 0))
theorem j9 (h:w.cell? p=some v):p.block<w.heap.size:=by
 by_cases hc:p.block<w.heap.size
 ·exact hc
 ·have:w.heap[p.block]?=none:=by simp;omega
  simp [World.cell?,this] at h
theorem Row.below (h:Row w a l) (hb:Below B w w') (d:w.heap.size<=B):Row w' a l:=by
 refine ⟨h.bytes,h.len,?_⟩;rcases h.cells with e|⟨b,off,rfl,hc⟩
 ·exact a9 e
 ·refine aa ⟨b,off,rfl,fun i hi=>?_⟩;have:=j9 (hc i hi);rw [hb.cell (p:=⟨b,off+i,none⟩) (by simp at this ⊢;omega)];exact hc i hi
theorem jdg:(prog.info? 5).map (fun i=>(i.zero,i.size,i.bytes))=some (some (.int .u8 0),1,1):=by kernel_rfl
theorem j1c (h:i<l.length):l.getD i 0=l[i]:=by simp [ab,ac h]
theorem Row.news (h:Row w (some ⟨b,off,none⟩) l) :
  ∀ (j:Nat) (u:Value),(l.map (aA .u8))[j]?=some u->w.cell? ((⟨b,off,none⟩:Addr).add j)=some u:=by
 intro j u f;have d:j<l.length:=by
  have:=(ae.mp f).1;simpa using this
 have e:((⟨b,off,none⟩:Addr).add j)=⟨b,off+j,none⟩:=by
  by_cases e:j=0
  ·subst e;simp [Addr.add]
  ·simp [Addr.add,e]
 rcases h.cells with e'|⟨b',off',e',hc⟩
 ·subst e';simp at d
 ·simp only [aB.injEq,Addr.mk.injEq] at e';obtain ⟨rfl,rfl,-⟩:=e';rw [e,hc j d];rw [j1c d];simpa [d] using f
theorem yq {P:Program} {d:Array Oper} {Q:Exit->Act->World->Prop} {a:Act} {rest:List Oper} {o:Oper} (hw:aF o (yielded d a.tmps)=true)
  (h:∀ K:Act->World->Prop,(∀ a w,wpList P d Q rest a w->K a w)->o.wp P a w K Q):wpList P d Q (o::rest) a w :=
 wpList_step fun K e=>by rw [if_pos hw];exact h K e
theorem j0b {o:Oper} {a:Act} {K:Act->World->Prop} {Q:Exit->Act->World->Prop} (s x:Operand) (t f:TypeId)
  (j:o.op=.call { callee:=.builtin .append,args:=#[s,x],argTypes:=#[t,f] }) {e d:Value} (hs:a.eval s=e) (hx:a.eval x=d)
  (hr:(Builtin.append_ #[t,f] o.type #[e,d]).run prog w=.ok v' w') (h:K (a.put o.dst v') w'):o.wp prog a w K Q :=
 Lib.wp_append_run w s x t f j e d hs hx v' w' hr h
namespace Sm
theorem ja1 (a b:List Int) (i:Nat):(a++b).getD i 0=if i<a.length then a.getD i 0 else b.getD (i-a.length) 0:=by
 by_cases h:i<a.length
 ·rw [if_pos h];simp [ab,af h]
 ·rw [if_neg h];simp [ab,ag (aG h)]
theorem bytes_append {a b:List Int} (d:j6 a) (hb:j6 b):j6 (a++b):=by
 intro i;rw [ja1];split
 ·exact d i
 ·exact hb _
end Sm
end
section
open Sm
def crc1 (s:Int):Int:=if s % 2=1 then bits .xor .u32 (s / 2) 3988292384 else s / 2
def c8:Nat->Int->Int
 | 0,s=>s
 | n+1,s=>c8 n (crc1 s)
def cby (s x:Int):Int:=c8 8 (bits .xor .u32 s x)
def crl (s:Int) (l:List Int):Int:=l.foldl cby s
def crc (l:List Int):Int:=bits .xor .u32 4294967295 (crl 4294967295 l)
theorem j0a (a b:Int) (e:0<=a) (h:a<=4294967295) (d:0<=b) (f:b<=4294967295):0<=bits .xor .u32 a b/\bits .xor .u32 a b<=4294967295:=by
 rw [u32_xor a b e (by omega) d (by omega)];have:a.toNat ^^^ b.toNat<2 ^ 32:=Nat.xor_lt_two_pow (by omega) (by omega);omega
theorem jc8 (s:Int) (e:0<=s) (d:s<=4294967295):0<=crc1 s/\crc1 s<=4294967295:=by
 unfold crc1;split
 ·exact j0a _ _ (by omega) (by omega) (by decide) (by decide)
 ·omega
theorem jc7 (n:Nat) (s:Int) (e:0<=s) (d:s<=4294967295):0<=c8 n s/\c8 n s<=4294967295:=by
 induction n generalizing s with
 | zero=>exact ⟨e,d⟩
 | succ n ih=>exact ih _ (jc8 s e d).1 (jc8 s e d).2
theorem jsh (n k:Nat) (s:Int):c8 (n+k) s=c8 k (c8 n s):=by
 induction n generalizing s with
 | zero=>simp [c8]
 | succ n ih=>rw [Nat.succ_add];exact ih _
theorem jp6 (n:Nat) (s:Int):c8 (n+1) s=crc1 (c8 n s):=by rw [jsh];rfl
theorem jhg (s x:Int) (f:0<=s) (e:s<=4294967295) (d:0<=x) (h:x<=255):0<=cby s x/\cby s x<=4294967295:=by
 have:=j0a s x f e d (by omega);exact jc7 8 _ this.1 this.2
theorem j0f (h:j6 (x::l)):(0<=x/\x<=255)/\j6 l:=⟨by simpa using h 0,fun i=>by simpa using h (i+1)⟩
theorem j8k (l:List Int) (hb:j6 l) (s:Int) (e:0<=s) (d:s<=4294967295):0<=crl s l/\crl s l<=4294967295:=by
 induction l generalizing s with
 | nil=>exact ⟨e,d⟩
 | cons x l ih =>
  have hx:=(j0f hb).1;have:=jhg s x e d hx.1 hx.2;exact ih (j0f hb).2 _ this.1 this.2
theorem j1y (l:List Int) (hb:j6 l):0<=crc l/\crc l<=4294967295:=by
 have:=j8k l hb 4294967295 (by decide) (by decide);exact j0a _ _ (by decide) (by decide) this.1 this.2
theorem jkq (s:Int) (l:List Int) (i:Nat) (hi:i<l.length):crl s (l.take (i+1))=cby (crl s (l.take i)) (l.getD i 0):=by
 rw [ah,ac hi,ab,ac hi];simp only [crl,ai,aD,aj,List.foldl_nil,aE]
def gtv (x:Int) (l:List Int):Int:=l.foldl (fun x y=>x*256+y) x
def gt (l:List Int):Int:=gtv 0 l
def lbe:Nat->Int->List Int
 | 0,_=>[]
 | k+1,x=>(x / 256 ^ k % 256)::lbe k x
theorem jc (k:Nat) (x:Int):(lbe k x).length=k:=by
 induction k with
 | zero=>rfl
 | succ k ih=>simp [lbe,ih]
theorem ke (k:Nat) (x:Int):j6 (lbe k x):=by
 induction k with
 | zero=>intro i;simp [lbe]
 | succ k ih =>
  intro i
  match i with
  | 0=>simp [lbe];omega
  | i+1=>simpa [lbe] using ih i
theorem jpe (k i:Nat) (x:Int) (hi:i<k):(lbe k x).getD i 0=x / 256 ^ (k-1-i) % 256:=by
 induction k generalizing i with
 | zero=>omega
 | succ k ih =>
  match i with
  | 0=>simp [lbe]
  | i+1 =>
   have:k+1-1-(i+1)=k-1-i:=by omega
   rw [this,<-ih i (by omega)];simp [lbe]
theorem jdo (x p:Int) (d:0<p):x % (p*256)=(x / p % 256)*p+x % p:=by
 have a:=Int.emod_add_mul_ediv x p;have b:=Int.emod_add_mul_ediv (x / p) 256;have z:=aN x (Int.ne_of_gt d);have y:=aO x d;have f:0<=x / p % 256:=aN (x / p) (by decide);have q:x / p % 256<256:=aO (x / p) (by decide);generalize x % p=r at *;generalize hs:x / p % 256=s at *;generalize h:x / p / 256=u at *;have e:x=(s*p+r)+(p*256)*u:=by
  rw [<-a,<-b,Int.mul_add,aP p s,<-aQ p 256 u];omega
 have k:s*p<=255*p:=aR (by omega) (Int.le_of_lt d);have j:0<=s*p:=Int.mul_nonneg f (Int.le_of_lt d);rw [e,Int.add_mul_emod_self_left,Int.emod_eq_of_lt (by omega) (by omega)]
theorem jre (k:Nat) (a x:Int):gtv a (lbe k x)=a*256 ^ k+x % 256 ^ k:=by
 induction k generalizing a with
 | zero=>simp [lbe,gtv,Int.emod_one]
 | succ k ih =>
  have h:gtv a (lbe (k+1) x)=gtv (a*256+x / 256 ^ k % 256) (lbe k x):=rfl;rw [h,ih];have d:(0:Int)<256 ^ k:=Int.pow_pos (by decide);have e:x % 256 ^ (k+1)=(x / 256 ^ k % 256)*256 ^ k+x % 256 ^ k:=by
   rw [aS,jdo x _ d]
  rw [e,Int.add_mul,aS,aQ a 256,aP 256 (256 ^ k),Int.add_assoc]
theorem jt3 (k:Nat) (x:Int) (e:0<=x) (d:x<256 ^ k):gt (lbe k x)=x:=by
 rw [gt,jre,Int.zero_mul,Int.zero_add,Int.emod_eq_of_lt e d]
theorem jgo (l:List Int) (hb:j6 l) (x:Int) (f:0<=x):0<=gtv x l/\gtv x l<(x+1)*256 ^ l.length:=by
 induction l generalizing x with
 | nil=>simp [gtv];omega
 | cons y l ih =>
  have e:=(j0f hb).1;have:=ih (j0f hb).2 (x*256+y) (by omega);refine ⟨this.1,Int.lt_of_lt_of_le this.2 ?_⟩;have d:(0:Int)<=256 ^ l.length:=Int.pow_nonneg (by decide);rw [List.length_cons,aS,aP (256 ^ l.length) 256,<-aQ];exact aR (by omega) d
theorem j0z (l:List Int) (hb:j6 l):0<=gt l/\gt l<256 ^ l.length:=by
 have:=jgo l hb 0 (by decide);simpa [gt] using this
theorem joi (l:List Int) (i:Nat) (hi:i<l.length):gt (l.take (i+1))=gt (l.take i)*256+l.getD i 0:=by
 rw [ah,ac hi,ab,ac hi];simp only [gt,gtv,ai,aD,aj,List.foldl_nil,aE]
def sl (l:List Int) (lo hi:Nat):List Int:=(l.drop lo).take (hi-lo)
theorem jw (l:List Int) (d hi:Nat) (h:hi<=l.length):(sl l d hi).length=hi-d:=by simp [sl];omega
theorem kh (h:j6 l) (d hi:Nat):j6 (sl l d hi):=by
 intro i;by_cases e:i<hi-d
 ·have:(sl l d hi).getD i 0=l.getD (d+i) 0:=by simp [sl,ab,e]
  rw [this];exact h _
 ·have:(sl l d hi).getD i 0=0:=by
   rw [ab,ak (by simp [sl];omega)];rfl
  rw [this];omega
theorem j1m (a b c:List Int) {d hi:Nat} (e:a.length=d) (f:d+b.length=hi):sl (a++(b++c)) d hi=b:=by
 subst e;unfold sl;rw [List.drop_left' rfl,List.take_left' (by omega)]
structure Pc where
 t:Int
 c:Int
 i:Int
 n:Int
 b:List Int
def j00 (p:Pc):List Int:=lbe 8 p.t++(lbe 8 p.c++(lbe 1 p.i++(lbe 1 p.n++(lbe 4 p.b.length++(al 36 0++p.b)))))
def frm (m:Nat) (p:Pc):List Int:=[165]++(lbe 4 (crc (j00 p))++(j00 p++(al (m-64-p.b.length) 0++[165])))
def unf (b:List Int):Option Pc :=
 if b.getD 0 0≠165\/b.getD (b.length-1) 0≠165\/(b.length:Int)-64<gt (sl b 23 27) then none
 else if crc (sl b 5 (63+(gt (sl b 23 27)).toNat))≠gt (sl b 1 5) then none
 else some ⟨gt (sl b 5 13),a5.wrap (gt (sl b 13 21)),gt (sl b 21 22),gt (sl b 22 23),sl b 63 (63+(gt (sl b 23 27)).toNat)⟩
structure PcOk (m:Nat) (p:Pc):Prop where
 t:0<=p.t/\p.t<18446744073709551616
 c:0<=p.c/\p.c<9223372036854775808
 i:0<=p.i/\p.i<256
 n:0<=p.n/\p.n<256
 len:p.b.length+64<=m
 top:m<=65536
 bytes:j6 p.b
theorem jp {l₁ l₂:List Int} (f:j6 l₁) (d:j6 l₂):j6 (l₁++l₂):=by
 intro i;by_cases e:i<l₁.length
 ·have:(l₁++l₂).getD i 0=l₁.getD i 0:=by simp [ab,af e]
  rw [this];exact f i
 ·have:(l₁++l₂).getD i 0=l₂.getD (i-l₁.length) 0:=by simp [ab,ag (aG e)]
  rw [this];exact d _
theorem j09 (n:Nat) (x:Int) (h:0<=x/\x<=255):j6 (al n x):=by
 intro i;by_cases e:i<n
 ·simp [ab,e];exact h
 ·simp [ab,e]
theorem j0l (p:Pc):(j00 p).length=58+p.b.length:=by simp [j00,jc];omega
theorem j3y (p:Pc) (h:j6 p.b):j6 (j00 p) :=
 jp (ke _ _) (jp (ke _ _) (jp (ke _ _) (jp (ke _ _) (jp (ke _ _) (jp (j09 _ _ (by omega)) h)))))
theorem j11 {p:Pc} (h:p.b.length+64<=m):(frm m p).length=m:=by
 simp [frm,jc,j0l];omega
theorem j89 {p:Pc} (h:j6 p.b):j6 (frm m p) :=
 jp (j09 1 165 (by omega)) (jp (ke _ _) (jp (j3y p h) (jp (j09 _ _ (by omega)) (j09 1 165 (by omega)))))
theorem jka {p:Pc} (h:p.b.length+64<=m):(frm m p).getD (m-1) 0=165:=by
 have f:(frm m p).length=m:=j11 h;have e:frm m p=([165]++(lbe 4 (crc (j00 p))++(j00 p++al (m-64-p.b.length) 0)))++[165]:=by simp [frm]
 rw [e] at f ⊢;have d:([165]++(lbe 4 (crc (j00 p))++(j00 p++al (m-64-p.b.length) (0:Int)))).length=m-1:=by simp at f ⊢;omega
 simp only [ab];rw [ag (by omega),d];simp
theorem jgq (m:Nat) (p:Pc):(frm m p).getD 0 0=165:=by simp [frm]
theorem jmg {p:Pc} (h:PcOk m p):unf (frm m p)=some p:=by
 have d:=j11 h.len;have s:=h.len;have q:=h.top;have A:∀ (x:Int) (k:Nat),0<=x->x<256 ^ k->gt (lbe k x)=x:=fun x k=>jt3 k x;have H:sl (frm m p) 1 5=lbe 4 (crc (j00 p)):=j1m [165] _ _ (by simp) (by rw [jc]);have G:sl (frm m p) 5 (63+p.b.length)=j00 p:=by
  have e:frm m p=([165]++lbe 4 (crc (j00 p)))++(j00 p++(al (m-64-p.b.length) 0++[165])):=by simp [frm]
  rw [e];exact j1m _ _ _ (by simp [jc]) (by rw [j0l];omega)
 have z:frm m p=([165]++lbe 4 (crc (j00 p)))++(lbe 8 p.t++(lbe 8 p.c++(lbe 1 p.i++(lbe 1 p.n++(lbe 4 p.b.length++(al 36 0++(p.b++(al (m-64-p.b.length) 0++[165])))))))):=by simp [frm,j00]
 have u:sl (frm m p) 5 13=lbe 8 p.t:=by rw [z];exact j1m _ _ _ (by simp [jc]) (by rw [jc])
 have E:sl (frm m p) 13 21=lbe 8 p.c:=by
  have e:=z;rw [<-am] at e;rw [e];exact j1m _ _ _ (by simp [jc]) (by rw [jc])
 have D:sl (frm m p) 21 22=lbe 1 p.i:=by
  have e:=z;rw [<-am,<-am] at e;rw [e];exact j1m _ _ _ (by simp [jc]) (by rw [jc])
 have y:sl (frm m p) 22 23=lbe 1 p.n:=by
  have e:=z;rw [<-am,<-am,<-am] at e;rw [e];exact j1m _ _ _ (by simp [jc]) (by rw [jc])
 have C:sl (frm m p) 23 27=lbe 4 p.b.length:=by
  have e:=z;rw [<-am,<-am,<-am,<-am] at e;rw [e];exact j1m _ _ _ (by simp [jc]) (by rw [jc])
 have F:sl (frm m p) 63 (63+p.b.length)=p.b:=by
  have e:=z;rw [<-am,<-am,<-am,<-am,<-am,<-am] at e;rw [e];exact j1m _ _ _ (by simp [jc]) rfl
 have j:gt (lbe 4 p.b.length)=p.b.length:=A _ 4 (by omega) (by omega);have r:=j1y (j00 p) (j3y p h.bytes);have f:gt (lbe 4 (crc (j00 p)))=crc (j00 p):=A _ 4 (by omega) (by omega);unfold unf;rw [d,jgq,jka h.len,C,j,aT,G,H,f,u,E,D,y,F];rw [A p.t 8 h.t.1 (by have:=h.t;omega),A p.c 8 h.c.1 (by have:=h.c;omega),A p.i 1 h.i.1 (by have:=h.i;omega),A p.n 1 h.n.1 (by have:=h.n;omega)];rw [if_neg (by rintro (e|e|e)<;>omega),if_neg (fun e=>e rfl)];have:a5.wrap p.c=p.c:=by rw [a6];have:=h.c;omega
 rw [this]
theorem j5m (b:List Int) (h:b.getD 0 0≠165):unf b=none:=by unfold unf;rw [if_pos (a9 h)]
theorem jme (b:List Int) (h:b.getD (b.length-1) 0≠165):unf b=none:=by unfold unf;rw [if_pos (aa (a9 h))]
def sbk (n:Nat):Nat:=(n-1) / 2
def rp (bl:List (List Int)) (slot i:Nat):Option Pc :=
 match unf (bl.getD (slot*sbk bl.length+i) []) with
 | none=>none
 | some p=>if p.i≠i\/(sbk bl.length:Int)<p.n then none else some p
def rdL (bl:List (List Int)) (slot:Nat) (t:Int):Nat->Nat->List Int->Option (List Int)
 | 0,_,acc=>some acc
 | k+1,i,acc =>
  match rp bl slot i with
  | none=>none
  | some p=>if p.t=t then rdL bl slot t k (i+1) (acc++p.b) else none
structure En where
 s:Nat
 t:Int
 c:Int
 r:List Int
def rd (bl:List (List Int)) (slot:Nat):Option En :=
 match rp bl slot 0 with
 | none=>none
 | some f=>(rdL bl slot f.t (f.n.toNat-1) 1 f.b).map fun r=>⟨slot,f.t,f.c,r⟩
def ltr (a b:Int):Bool:=decide (0<a5.wrap (a1.wrap (a-b)))
def fd (bl:List (List Int)):List En :=
 match rd bl 0,rd bl 1 with
 | none,none=>[]
 | some a,none=>[a]
 | none,some b=>[b]
 | some a,some b=>if ltr a.t b.t then [b,a] else [a,b]
def En.zero:En:=⟨0,0,0,[]⟩
def nw (l:List En):En:=l.getLastD .zero
def kpL (last:Int):List En->List (List Int)
 | []=>[]
 | [a]=>[a.r]
 | a::b::l=>(if a5.wrap (a.c+1)=last then [a.r] else [])++kpL last (b::l)
def kp (l:List En):List (List Int):=kpL (nw l).c l
def npc (most len:Nat):Nat:=max 1 ((len+most-1) / most)
def lspc (e:En) (most i:Nat):Pc:=⟨e.t,e.c,i,npc most e.r.length,(e.r.drop (i*most)).take most⟩
def yj (m:Nat) (e:En) (bl:List (List Int)):Nat->List (List Int)
 | 0=>bl.set (e.s*sbk bl.length) (al m 0)
 | k+1=>(yj m e bl k).set (e.s*sbk bl.length+(npc (m-64) e.r.length-1-k)) (frm m (lspc e (m-64) (npc (m-64) e.r.length-1-k)))
theorem jm (m:Nat) (e:En) (bl:List (List Int)) (k:Nat):(yj m e bl k).length=bl.length:=by
 induction k with
 | zero=>simp [yj]
 | succ k ih=>simp [yj,ih]
theorem getD_set_ne {α:Type} {l:List α} {j:Nat} {x d:α} (h:i≠j):(l.set i x).getD j d=l.getD j d:=by
 simp [ab,an h]
theorem qv {α:Type} {l:List α} {x d:α} (h:i<l.length):(l.set i x).getD i d=x:=by
 simp [ab,h]
theorem j57 (m:Nat) (e:En) (bl:List (List Int)) (k j:Nat) (d:∀ i,i<npc (m-64) e.r.length->e.s*sbk bl.length+i≠j):(yj m e bl k).getD j []=bl.getD j []:=by
 have f:0<npc (m-64) e.r.length:=by unfold npc;omega
 induction k with
 | zero=>rw [yj,getD_set_ne (by have:=d 0 f;simpa using this)]
 | succ k ih=>rw [yj,getD_set_ne (d _ (by omega)),ih]
theorem j58 (m:Nat) (e:En) (bl:List (List Int)) (k:Nat) (hs:e.s*sbk bl.length<bl.length) (d:k<npc (m-64) e.r.length):(yj m e bl k).getD (e.s*sbk bl.length) []=al m 0:=by
 induction k with
 | zero=>rw [yj,qv hs]
 | succ k ih=>rw [yj,getD_set_ne (by omega),ih (by omega)]
theorem j2b (m:Nat) (e:En) (bl:List (List Int)) (k i:Nat) (hs:e.s*sbk bl.length+i<bl.length) (hi:npc (m-64) e.r.length-k<=i) (d:i<npc (m-64) e.r.length) (f:k<=npc (m-64) e.r.length) :
  (yj m e bl k).getD (e.s*sbk bl.length+i) []=frm m (lspc e (m-64) i):=by
 induction k with
 | zero=>omega
 | succ k ih =>
  by_cases h:i=npc (m-64) e.r.length-1-k
  ·rw [yj,<-h,qv (by rw [jm];exact hs)]
  ·rw [yj,getD_set_ne (by omega),ih (by omega) (by omega)]
theorem jqd (d:bl'.length=bl.length) (h:bl'.getD (slot*sbk bl.length+i) []=bl.getD (slot*sbk bl.length+i) []):rp bl' slot i=rp bl slot i:=by
 unfold rp;rw [d,h]
theorem jqj {t:Int} (d:bl'.length=bl.length) (k i:Nat) (acc:List Int) (h:∀ j,i<=j->j<i+k->bl'.getD (slot*sbk bl.length+j) []=bl.getD (slot*sbk bl.length+j) []):rdL bl' slot t k i acc=rdL bl slot t k i acc:=by
 induction k generalizing i acc with
 | zero=>rfl
 | succ k ih =>
  unfold rdL;rw [jqd d (h i (by omega) (by omega))];split
  ·rfl
  ·split
   ·exact ih _ _ fun j f e=>h j (by omega) (by omega)
   ·rfl
theorem rp_n {p:Pc} (h:rp bl slot i=some p):p.i=i/\p.n<=sbk bl.length:=by
 unfold rp at h;split at h
 ·cases h
 ·split at h
  ·cases h
  ·rename_i d;simp only [aB.injEq] at h;subst h;exact ⟨Classical.byContradiction fun e=>d (a9 e),by
    have:¬((sbk bl.length:Int)<_):=fun e=>d (aa e);omega⟩
theorem jqh (e:bl'.length=bl.length) (d:0<sbk bl.length) (h:∀ j,j<sbk bl.length->bl'.getD (slot*sbk bl.length+j) []=bl.getD (slot*sbk bl.length+j) []):rd bl' slot=rd bl slot:=by
 unfold rd;rw [jqd e (h 0 d)];split
 ·rfl
 ·rename_i f k;have:=(rp_n k).2;rw [jqj e _ _ _ fun j r q=>h j (by omega)]
theorem jiz (h:unf (bl.getD (slot*sbk bl.length) [])=none):rd bl slot=none:=by
 unfold rd rp;rw [aH,h]
structure EnOk (n m:Nat) (e:En):Prop where
 s:e.s<=1
 t:0<=e.t/\e.t<18446744073709551616
 c:0<=e.c/\e.c<9223372036854775808
 len:e.r.length<=sbk n*(m-64)
 bytes:j6 e.r
 n0:4<=n
 n1:n<=64
 m0:256<=m
 m1:m<=65536
theorem j2p {e:En} (h:EnOk n m e):0<npc (m-64) e.r.length/\npc (m-64) e.r.length<=sbk n/\sbk n<=31/\1<=sbk n:=by
 have q:=h.len;have k:=h.m0;have j:=h.n0;have f:=h.n1;have hs:1<=sbk n:=by unfold sbk;omega
 have d:sbk n<=31:=by unfold sbk;omega
 refine ⟨by unfold npc;omega,?_,d,hs⟩;have:(e.r.length+(m-64)-1) / (m-64)<=sbk n:=by
  have:(e.r.length+(m-64)-1) / (m-64)<sbk n+1:=by
   rw [aI (by omega),Nat.add_mul];omega
  omega
 unfold npc;omega
theorem jf3 {e:En} (h:EnOk n m e) (i:Nat) (hi:i<npc (m-64) e.r.length):PcOk m (lspc e (m-64) i):=by
 have d:=j2p h;refine ⟨h.t,h.c,?_,?_,?_,h.m1,?_⟩
 ·simp only [lspc];omega
 ·simp only [lspc];omega
 ·simp only [lspc,List.length_take];have:=h.m0;omega
 ·have:=kh h.bytes (i*(m-64)) (i*(m-64)+(m-64));rwa [sl,Nat.add_sub_cancel_left] at this
theorem jfb {e:En} (h:EnOk n m e) (d:bl.length=n) (i:Nat) (hi:i<npc (m-64) e.r.length)
  (hb:bl.getD (e.s*sbk bl.length+i) []=frm m (lspc e (m-64) i)):rp bl e.s i=some (lspc e (m-64) i):=by
 unfold rp;rw [hb,jmg (jf3 h i hi),d];have f:=j2p h;refine if_neg ?_;rintro (c|c)
 ·exact c rfl
 ·simp only [lspc] at c;omega
theorem jes (r:List Int) (a k:Nat):r.take a++(r.drop a).take k=r.take (a+k):=by rw [List.take_add]
theorem jj1 {e:En} (h:EnOk n m e) (d:bl.length=n) (hb:∀ i,i<npc (m-64) e.r.length->bl.getD (e.s*sbk bl.length+i) []=frm m (lspc e (m-64) i))
  (k i:Nat) (f:i+k=npc (m-64) e.r.length):rdL bl e.s e.t k i (e.r.take (i*(m-64)))=some e.r:=by
 induction k generalizing i with
 | zero =>
  rw [rdL,ao];have u:=h.m0;have:i=npc (m-64) e.r.length:=by omega
  rw [this];have q:(e.r.length+(m-64)-1) / (m-64)<=npc (m-64) e.r.length:=by unfold npc;omega
  have j:e.r.length+(m-64)-1<((e.r.length+(m-64)-1) / (m-64)+1)*(m-64):=by
   rw [<-aI (by omega)];omega
  have y:(e.r.length+(m-64)-1) / (m-64)*(m-64)<=npc (m-64) e.r.length*(m-64):=Nat.mul_le_mul_right _ q;rw [Nat.add_mul] at j;omega
 | succ k ih =>
  rw [rdL,jfb h d i (by omega) (hb i (by omega))];simp only [lspc,if_true];rw [jes,<-Nat.succ_mul];exact ih (i+1) (by omega)
theorem j9m {e:En} (h:EnOk n m e) (f:bl.length=n) (hb:∀ i,i<npc (m-64) e.r.length->bl.getD (e.s*sbk bl.length+i) []=frm m (lspc e (m-64) i)):rd bl e.s=some e:=by
 have d:=j2p h;unfold rd;rw [jfb h f 0 d.1 (hb 0 d.1)];have:=jj1 h f hb (npc (m-64) e.r.length-1) 1 (by omega);rw [Nat.one_mul] at this;simp only [lspc,Nat.zero_mul,List.drop_zero,aT,this,Option.map_some]
def cutB (q:Nat) (new old:List Int):List Int:=new.take q++old.drop q
inductive Left (m:Nat) (e:En) (bl:List (List Int)):List (List Int)->Prop where
 | all:Left m e bl (yj m e bl (npc (m-64) e.r.length))
 | blank (q:Nat) (hq:q<=m):Left m e bl (bl.set (e.s*sbk bl.length) (cutB q (al m 0) (bl.getD (e.s*sbk bl.length) [])))
 | mid (k q:Nat) (hk:k<npc (m-64) e.r.length) (hq:q<=m):Left m e bl ((yj m e bl k).set (e.s*sbk bl.length+(npc (m-64) e.r.length-1-k)) (cutB q (frm m (lspc e (m-64) (npc (m-64) e.r.length-1-k))) ((yj m e bl k).getD (e.s*sbk bl.length+(npc (m-64) e.r.length-1-k)) [])))
theorem Left.length {e:En} (h:Left m e bl bl'):bl'.length=bl.length:=by
 cases h<;>simp [jm]
theorem jcu {s s' j:Nat} (f:s<=1) (d:s'<=1) (k:s≠s') (hi:i<sbk n) (h:j<sbk n):s*sbk n+i≠s'*sbk n+j:=by
 rcases aJ.mp f with e|e<;>rcases aJ.mp d with e'|e'<;>subst e<;>subst e'<;>omega
theorem Left.other {e:En} (h:EnOk n m e) (f:bl.length=n) (u:Left m e bl bl'):rd bl' (1-e.s)=rd bl (1-e.s):=by
 have y:=j2p h;have hs:=h.s;refine jqh u.length (by rw [f];omega) fun j r=>?_;rw [f] at r;have d:∀ i,i<sbk n->e.s*sbk bl.length+i≠(1-e.s)*sbk bl.length+j:=by
  intro i hi;rw [f];exact jcu hs (by omega) (by omega) hi r
 cases u with
 | all=>exact j57 _ _ _ _ _ fun i hi=>d i (by omega)
 | blank q hq=>rw [getD_set_ne (by have:=d 0 (by omega);simpa using this)]
 | mid k q hk hq=>rw [getD_set_ne (d _ (by omega)),j57 _ _ _ _ _ fun i hi=>d i (by omega)]
theorem j27 {s:Nat} (d:s<=1) (f:4<=n) (hi:i<sbk n):s*sbk n+i<n:=by
 unfold sbk at *;rcases aJ.mp d with e|e<;>subst e<;>omega
theorem Left.own {e:En} (h:EnOk n m e) (D:bl.length=n) (hb:∀ b∈bl,b.length=m) (H:Left m e bl bl') :
  rd bl' e.s=rd bl e.s\/rd bl' e.s=none\/rd bl' e.s=some e:=by
 have G:=j2p h;have hs:=h.s;have K:=h.m0;have d:∀ i,i<sbk n->e.s*sbk bl.length+i<bl.length:=fun i hi=>by rw [D];exact j27 hs h.n0 hi
 have F:(bl.getD (e.s*sbk bl.length) []).length=m:=by
  have E:e.s*sbk bl.length<bl.length:=d 0 (by omega);have C:bl.getD (e.s*sbk bl.length) []=bl[e.s*sbk bl.length]:=by simp [ab,E]
  rw [C];exact hb _ (ap _)
 cases H with
 | all =>
  refine aa (aa (j9m h (by rw [jm];exact D) fun i hi=>?_));rw [jm];exact j2b _ _ _ _ _ (d i (by omega)) (by omega) hi (aK _)
 | blank q hq =>
  have A:(bl.set (e.s*sbk bl.length) (cutB q (al m 0) (bl.getD (e.s*sbk bl.length) []))).length=bl.length:=by simp
  by_cases E:q=0
  ·left;subst E;refine jqh A (by rw [D];omega) fun j M=>?_;by_cases C:j=0
   ·subst C;rw [aH,qv (by have:=d 0 (by omega);simpa using this)];simp [cutB]
   ·rw [getD_set_ne (by omega)]
  ·right;left;refine jiz ?_;rw [A,qv (by have:=d 0 (by omega);simpa using this)];refine j5m _ ?_;have:(cutB q (al m 0) (bl.getD (e.s*sbk bl.length) [])).getD 0 0=0:=by
    obtain ⟨q',rfl⟩:∃ q',q=q'+1:=⟨q-1,by omega⟩;obtain ⟨u,rfl⟩:∃ u,m=u+1:=⟨m-1,by omega⟩;simp [cutB,aq]
   rw [this];decide
 | mid k q hk hq =>
  have f:=d (npc (m-64) e.r.length-1-k) (by omega);by_cases E:k+1=npc (m-64) e.r.length
  ·have J:npc (m-64) e.r.length-1-k=0:=by omega
   rw [J,aH] at f ⊢;rw [j58 m e bl k f hk];have z:(frm m (lspc e (m-64) 0)).length=m:=j11 (jf3 h 0 G.1).len;by_cases hqm:q=m
   ·right;right;subst hqm;have C:cutB q (frm q (lspc e (q-64) 0)) (al q 0)=frm q (lspc e (q-64) 0):=by
     rw [cutB,ao (by omega),ar (by simp),List.append_nil]
    rw [C];refine j9m h (by simp [jm];exact D) fun i hi=>?_;rw [au,jm];by_cases ei:i=0
    ·subst ei;rw [aH,qv (by rw [jm];exact f)]
    ·rw [getD_set_ne (by omega)];exact j2b _ _ _ _ _ (d i (by omega)) (by omega) hi (by omega)
   ·right;left;refine jiz ?_;rw [au,jm,qv (by rw [jm];exact f)];have y:(cutB q (frm m (lspc e (m-64) 0)) (al m 0)).length=m:=by simp [cutB,z];omega
    refine jme _ ?_;rw [y];have:(cutB q (frm m (lspc e (m-64) 0)) (al m 0)).getD (m-1) 0=0:=by
     have I:((frm m (lspc e (m-64) 0)).take q).length=q:=by simp [z];omega
     rw [cutB,ab,ag (by omega),I];simp [List.getElem?_replicate];split<;>rfl
    rw [this];decide
  ·right;left;refine jiz ?_;rw [au,jm,getD_set_ne (by omega),j58 m e bl k (by have:=d 0 (by omega);simpa using this) hk];refine j5m _ ?_;obtain ⟨u,rfl⟩:∃ u,m=u+1:=⟨m-1,by omega⟩;simp [aq]
theorem Left.whole {e:En} (h:EnOk n m e) (d:bl.length=n):rd (yj m e bl (npc (m-64) e.r.length)) e.s=some e:=by
 have f:=j2p h;refine j9m h (by rw [jm];exact d) fun i hi=>?_;rw [jm];exact j2b _ _ _ _ _ (by rw [d];exact j27 h.s h.n0 (by omega)) (by omega) hi (aK _)
end
section
open Go.RowKit Sm
structure Wrote (w w':World) (g:Nat) (new:Array Value) (t:TypeId):Prop where
 here:w'.heap[g]?=some (.cells new t (0,0))
 there:∀ k,k≠g->w'.heap[k]?=w.heap[k]?
 size:w'.heap.size=w.heap.size
 below:∀ B w0,B<=g->Below B w0 w->Below B w0 w'
theorem j8 (w:World) (g:Nat) (d new:Array Value) (t:TypeId) (j:w.heap[g]?=some (.cells d t (0,0))):Wrote w (w.setRow g new) g new t :=
 ⟨setRow_heap w g d _ t _ j,fun k f=>setRow_other w g k _ (fun e=>f e),by simp [World.setRow],fun B q h hb=>below_setRow hb h _⟩
theorem jch (w:World) (g:Nat) (d:Array Value) (t:TypeId) (e:w.heap[g]?=some (.cells d t (0,0))):Wrote w w g d t :=
 ⟨e,fun _ _=>rfl,rfl,fun _ _ _ h=>h⟩
theorem j14 {P:Program} (w:World) (C E ty h:TypeId) (H:P.underlying C=some (.slice h)) (u:(P.info? h).map (·.size)=some 1)
  (G D:Option Addr) (k r f q g off:Nat) (d new:Array Value) (t:TypeId) (F:w.heap[g]?=some (.cells d t (0,0))) (l:List Int) (I:l.length=aL f k)
  (z:0<l.length->G=some ⟨g,off,none⟩/\∃ ad,D=some ad/\∀ j v,(l.map (aA .u8))[j]?=some v->w.cell? (ad.add j)=some v)
  (A:off+l.length<=d.size) (s:new.toList=d.toList.take off++(l.map (aA .u8)++d.toList.drop (off+l.length))) :
  ∃ w',(Builtin.copy_ #[C,E] ty #[.slice G k r,.slice D f q]).run P w=.ok (goInt l.length) w'/\Wrote w w' g new t:=by
 by_cases h0:l.length=0
 ·obtain rfl:l=[]:=List.eq_nil_of_length_eq_zero h0;have e:new=d:=by apply Array.toList_inj.mp;rw [s];simp
  subst e;exact ⟨w,run_copy_none (P:=P) w C E ty h G D k r f q H u (by simpa using I.symm),jch w g new t F⟩
 ·obtain ⟨rfl,ad,rfl,y⟩:=z (by omega);have hr:=run_copy_row (P:=P) w C E ty h g off k r ad f q d t (l.map (aA .u8)) H u F (by simpa using I) y (by simpa using A) (ints_oneCell _ _);have e:(d.toList.take off++l.map (aA .u8)++d.toList.drop (off+(l.map (aA .u8)).length)).toArray=new:=by
   apply Array.toList_inj.mp;rw [s];simp
  rw [e,av] at hr;exact ⟨_,hr,j8 w g d new t F⟩
theorem j08 (w:World) (ty:TypeId) (y u:Option Addr) (e k d h g off:Nat) (f new:Array Value) (t:TypeId) (A:w.heap[g]?=some (.cells f t (0,0))) (l:List Int) (z:l.length=aL d e)
  (q:0<l.length->y=some ⟨g,off,none⟩/\∃ ad,u=some ad/\∀ j v,(l.map (aA .u8))[j]?=some v->w.cell? (ad.add j)=some v)
  (s:off+l.length<=f.size) (r:new.toList=f.toList.take off++(l.map (aA .u8)++f.toList.drop (off+l.length))) :
  ∃ w',(Builtin.copy_ #[86,86] ty #[.slice y e k,.slice u d h]).run prog w=.ok (goInt l.length) w'/\Wrote w w' g new t :=
 j14 (P:=prog) w 86 86 ty 5 underlying86 (by kernel_rfl) y u e k d h g off f new t A l z q s r
theorem j0h {u:Array Oper} {o:Oper} {a:Act} {K:Act->World->Prop} {Q:Exit->Act->World->Prop} {E:Prop} (F:o.guard=none) (d s:Operand) (H I:TypeId)
  (M:o.op=.call { callee:=.builtin .copy,args:=#[d,s],argTypes:=#[H,I] }) (J:prog.underlying H=some (.slice 5))
  (G C:Option Addr) (f r e q:Nat) (hd:a.eval d=.slice G f r) (hs:a.eval s=.slice C e q)
  (g off:Nat) (k new:Array Value) (t:TypeId) (O:w.heap[g]?=some (.cells k t (0,0))) (l:List Int) (N:l.length=aL e f)
  (y:0<l.length->G=some ⟨g,off,none⟩/\∃ ad,C=some ad/\∀ j v,(l.map (aA .u8))[j]?=some v->w.cell? (ad.add j)=some v)
  (A:off+l.length<=k.size) (z:new.toList=k.toList.take off++(l.map (aA .u8)++k.toList.drop (off+l.length)))
  (h:∀ w',Wrote w w' g new t->K (a.put o.dst (goInt l.length)) w') :
  if aF o (yielded u a.tmps)=true then Oper.wp prog o a w K Q else E:=by
 have hw:aF o (yielded u a.tmps)=true:=by simp [aF,F]
 rw [if_pos hw];have D:(prog.info? 5).map (·.size)=some 1:=by kernel_rfl
 obtain ⟨w',hr,hw⟩:=j14 (P:=prog) w H I o.type 5 J D G C f r e q g off k new t O l N y A z;unfold Oper.wp;simp [execOp,M,resolve,invoke,builtin,hd,hs,hr,Result.andThen];exact h w' hw
theorem cell_of (h:w.heap[g]?=some (.cells c t (0,0))) (i:Nat):w.cell? ⟨g,i,none⟩=c[i]?:=by
 simp [World.cell?,h]
theorem j07 (n:Nat) (h:n<=140737488351232) (w:World):(Instr.makeSlice 86 (.int .i64 (n:Int)) (.int .i64 (n:Int))).run prog w=.ok (.slice (some ⟨w.heap.size,0,none⟩) n n) (w.alloc (.cells (madeCells #[.int .u8 0] n) 5)) :=
 run_make_row' 86 5 (.int .u8 0) 1 underlying86 jdg rfl .i64 .i64 n (by omega) (by omega) w
theorem zr (x:Int) (e:0<=x) (d:x<=65535):a7.wrap x=x:=by
 rw [show a7.wrap x=x % 65536 by simp [a2,a3,a4]];omega
theorem j3i (x:Int) (e:0<=x) (d:x<=255):a8.wrap x=x:=by
 rw [show a8.wrap x=x % 256 by simp [a2,a3,a4]];omega
theorem Row.cellAt (h:Row w (some ⟨b,off,none⟩) l) (i:Nat) (hi:i<l.length):w.cell? ⟨b,off+i,none⟩=some (.int .u8 (l.getD i 0)):=by
 rcases h.cells with e|⟨b',off',e,hc⟩
 ·subst e;simp at hi
 ·simp only [aB.injEq,Addr.mk.injEq] at e;obtain ⟨rfl,rfl,-⟩:=e;exact hc i hi
theorem Row.part (h:Row w (some ⟨b,off,none⟩) l) (i m:Nat) (hi:i+m<=l.length):Row w (some ⟨b,off+i,none⟩) ((l.drop i).take m):=by
 have k:=h.len;have d:((l.drop i).take m).length=m:=by simp;omega
 refine ⟨fun j=>?_,by omega,aa ⟨b,off+i,rfl,fun j f=>?_⟩⟩
 ·by_cases f:j<m
  ·have:((l.drop i).take m).getD j 0=l.getD (i+j) 0:=by simp [ab,f]
   rw [this];exact h.bytes _
  ·have:((l.drop i).take m).getD j 0=0:=by simp [ab,ak (show ((l.drop i).take m).length<=j by omega)]
   rw [this];omega
 ·have e:((l.drop i).take m).getD j 0=l.getD (i+j) 0:=by simp [ab,show j<m by omega]
  rw [e,Nat.add_assoc];exact h.cellAt (i+j) (by omega)
structure Mem (w w':World) (L:List (Nat×Obj)):Prop where
 below:Below w.heap.size w w'
 low:∀ p∈L,w.heap.size<=p.1
 at_:∀ p∈L,w'.heap[p.1]?=some p.2
 apart:(L.map aU).Nodup
theorem Mem.nil (w:World):Mem w w []:=⟨Below.refl _ _,fun p h=>by simp at h,fun p h=>by simp at h,by simp⟩
theorem Mem.lt (h:Mem w w' L) {p:Nat×Obj} (d:p∈L):p.1<w'.heap.size:=by
 have:=h.at_ p d;exact (Array.getElem?_eq_some_iff.mp this).1
theorem Mem.alloc (h:Mem w w' L) (o:Obj):Mem w (w'.alloc o) (L++[(w'.heap.size,o)]):=by
 have hs:=h.below.size;refine ⟨h.below.alloc hs o,fun p d=>?_,fun p d=>?_,?_⟩
 ·rcases aw.mp d with d|d
  ·exact h.low p d
  ·simp at d;subst d;exact hs
 ·rcases aw.mp d with d|d
  ·rw [Below.heap_alloc _ _ _ (h.lt d)];exact h.at_ p d
  ·simp at d;subst d;exact heap_alloc_new _ _
 ·rw [List.map_append,List.nodup_append];refine ⟨h.apart,by simp,fun a e b hb=>?_⟩;obtain ⟨p,d,rfl⟩:=List.mem_map.mp e;simp at hb;have:=h.lt d;omega
theorem Mem.push (h:Mem w w' L) (g:Nat) (o:Obj) (d:g=w'.heap.size):Mem w (w'.alloc o) (L++[(g,o)]):=by subst d;exact h.alloc o
theorem Mem.drew (h:Mem w w' L):Mem w w'.drew L:=⟨h.below.drew,h.low,h.at_,h.apart⟩
theorem Mem.drewN (h:Mem w w' L) (n:Nat):Mem w (w'.drewN n) L:=⟨Go.below_drewN h.below n,h.low,h.at_,h.apart⟩
theorem Mem.perm {e:List (Nat×Obj)} (h:Mem w w' L) (d:L.Perm e):Mem w w' e :=
 ⟨h.below,fun p q=>h.low p (d.symm.subset q),fun p q=>h.at_ p (d.symm.subset q),(d.map aU).nodup_iff.mp h.apart⟩
theorem Mem.sub {p:Nat×Obj} (h:Mem w w' (p::L)):Mem w w' L :=
 ⟨h.below,fun q d=>h.low q (ax _ d),fun q d=>h.at_ q (ax _ d),(List.nodup_cons.mp h.apart).2⟩
theorem Mem.get (h:Mem w w' L) (i:Nat) (hi:L[i]?=some (g,o)):w'.heap[g]?=some o:=h.at_ (g,o) (ay hi)
theorem Mem.ge (h:Mem w w' L) (i:Nat) (hi:L[i]?=some (g,o)):w.heap.size<=g:=h.low (g,o) (ay hi)
theorem Mem.wrote {y:World} (h:Mem w w' L) (i:Nat) (hi:L[i]?=some (g,o)) (hw:Wrote w' y g new t):Mem w y (L.set i (g,.cells new t (0,0))):=by
 have u:=(ae.mp hi).1;have z:L[i]=(g,o):=(ae.mp hi).2;have C:(L.set i (g,.cells new t (0,0))).map aU=L.map aU:=by
  rw [List.map_set];apply List.ext_getElem? ;intro j;by_cases e:i=j
  ·subst e;simp [u,z]
  ·rw [an e]
 have key:∀ p∈L.set i (g,.cells new t (0,0)),p=(g,.cells new t (0,0))\/(p∈L/\p.1≠g):=by
  intro p r;obtain ⟨j,D,rfl⟩:=List.mem_iff_getElem.mp r;by_cases e:i=j
  ·subst e;left;simp
  ·right;have s:j<L.length:=by simpa using D
   rw [List.getElem_set_ne e];refine ⟨ap s,fun c=>e ?_⟩;have k:=az.mp h.apart;have f:i<(L.map aU).length:=by simpa using u
   have d:j<(L.map aU).length:=by simpa using s
   have A:(L.map aU)[i]=(L.map aU)[j]:=by simp [z,c]
   rcases aM i j with q|q|q
   ·exact absurd A (k i j f d q)
   ·exact q
   ·exact absurd A.symm (k j i d f q)
 refine ⟨hw.below _ _ (h.ge i hi) h.below,fun p r=>?_,fun p r=>?_,by rw [C];exact h.apart⟩
 ·rcases key p r with rfl|⟨q,_⟩
  ·exact h.ge i hi
  ·exact h.low p q
 ·rcases key p r with rfl|⟨q,c⟩
  ·exact hw.here
  ·rw [hw.there _ c];exact h.at_ p q
theorem Mem.after {d:World} (h:Mem w w' L) (hb:Below w'.heap.size w' d):Mem w d L :=
 ⟨h.below.trans (hb.mono h.below.size),h.low,fun p e=>by rw [hb.block p.1 (h.lt e)];exact h.at_ p e,h.apart⟩
theorem Mem.old (h:Mem w w' L) (hb:b<w.heap.size):w'.cell? ⟨b,i,none⟩=w.cell? ⟨b,i,none⟩:=h.below.cell (p:=⟨b,i,none⟩) hb
theorem Mem.row (h:Mem w w' L) (hr:Row w a l):Row w' a l:=hr.below h.below (aK _)
theorem Mem.cell (h:Mem w w' L) (i:Nat) (hi:L[i]?=some (g,.cells c t (0,0))) (j:Nat):w'.cell? ⟨g,j,none⟩=c[j]?:=cell_of (h.get i hi) j
theorem Mem.free (h:Mem w w' L) (i:Nat) (hi:L[i]?=some (g,.cells c t (0,0))) (j:Nat):w'.frozen? ⟨g,j,none⟩=false:=by
 simp [World.frozen?,h.get i hi]
theorem Mem.set (h:Mem w w' L) (i:Nat) (hi:L[i]?=some (g,.cells c t (0,0))) (j:Nat) (v:Value):Mem w (w'.setCell ⟨g,j,none⟩ v) (L.set i (g,.cells (c.setIfInBounds j v) t (0,0))):=by
 have e:=setCell_eq_setRow w' g j c t (0,0) v (h.get i hi);rw [e];exact h.wrote i hi (j8 w' g c _ t (h.get i hi))
theorem Mem.own (h:Mem w w' L) (i:Nat) (hi:L[i]?=some (g,.cells (l.map (aA .u8)).toArray t (0,0))) (hb:j6 l) (d:l.length<=140737488351232):Row w' (some ⟨g,0,none⟩) l :=
 ⟨hb,d,aa ⟨g,0,rfl,fun j e=>by rw [h.cell i hi,Nat.zero_add];simp [e]⟩⟩
theorem jbs (m:Nat) (l:List Int) (h:l.length=m):(l.map (aA .u8)).toArray.toList=(madeCells #[aA .u8 0] m).toList.take 0++(l.map (aA .u8)++(madeCells #[aA .u8 0] m).toList.drop (0+l.length)):=by
 rw [ar (by rw [toList_madeCells_one];simp;omega)];simp
theorem Row.setCell (h:Row w (some ⟨b,off,none⟩) l) (d:p.block≠b) (v:Value):Row (w.setCell p v) (some ⟨b,off,none⟩) l :=
 ⟨h.bytes,h.len,aa ⟨b,off,rfl,fun i hi=>by rw [World.cell?_setCell_other _ _ _ _ (fun e=>d (by rw [e]))];exact h.cellAt i hi⟩⟩
theorem Mem.ne (h:Mem w w' L) (i j:Nat) {k:Nat} {u:Obj} (hi:L[i]?=some (g,o)) (y:L[j]?=some (k,u)) (r:i≠j):g≠k:=by
 obtain ⟨e,A⟩:=ae.mp hi;obtain ⟨d,z⟩:=ae.mp y;have f:=az.mp h.apart;intro c;have s:(L.map aU)[i]'(by simpa using e)=(L.map aU)[j]'(by simpa using d):=by simp [A,z,c]
 rcases aM i j with q|q|q
 ·exact f i j (by simpa using e) (by simpa using d) q s
 ·exact r q
 ·exact f j i (by simpa using d) (by simpa using e) q s.symm
theorem j5 {P:Program} {c:Code} {Q:Exit->Act->World->Prop} {a:Act} (R:World->Prop) (h:R W) (k:∀ d,R d->Code.wp P c Q a d):Code.wp P c Q a W:=k W h
def plc (at_ n:Int):Int:=if at_.tmod n<0 then at_.tmod n+n else at_.tmod n
theorem jfk (a n:Int) (d:0<n):0<=plc a n/\plc a n<n:=by
 have f:=Int.tmod_lt_of_pos a d;have e:-n<a.tmod n:=by
  have:=Int.lt_tmod_of_pos a d;omega
 unfold plc;split<;>omega
theorem jfl (a n:Int) (w:World) (j:-9223372036854775808<=a) (h:a<=9223372036854775807) (d:0<n) (f:n<=140737488351232) :
  Calls prog 20 #[.int .i64 a,.int .i64 n] w fun e w'=>e=.returned (.int .i64 (plc a n))/\w=w':=by
 have q:=Int.tmod_lt_of_pos a d;have k:=Int.lt_tmod_of_pos a d;by_cases hc:a.tmod n<0
 ·go_enter func20,ntmps20
  go_wp2
  go_ret;exact ⟨j28 (by unfold plc;rw [if_pos hc]),rfl⟩
 ·go_enter func20,ntmps20
  go_wp2
  go_ret;exact ⟨j28 (by unfold plc;rw [if_neg (by omega)]),rfl⟩
theorem jd0 (h:Row w a l) (cap:Nat):(convert 86 9 (.slice a l.length cap)).run prog w=.ok (.string (strOfNums l)) w:=by
 rcases h.cells with e|⟨b,off,rfl,hc⟩
 ·subst e;cases a with
  | none=>exact Lib.run_convert_nil_bytes (P:=prog) w 86 9 5 cap underlying86 underlying5 underlying9
  | some x=>exact run_convert_bytes_back (P:=prog) w 86 9 5 x cap [] underlying86 underlying5 underlying9 (fun j f=>by simp at f)
 ·rw [run_convert_bytes_string w 86 9 5 _ _ cap underlying86 underlying5 underlying9];have d:=run_loadCells_list (P:=prog) w ⟨b,off,none⟩ (l.map (aA .u8)) h.news;rw [av] at d;rw [run_bytesToString w ⟨b,off,none⟩ l.length cap l d,foldl_push_bytes];simp [strOfNums]
end
end Go.Proofs.YtdigofgjhaakmaaGreatDoor
