/- Parts of the proof. -/
import Derived.Test.YtdigofgjhaakmaaGreatDoorF06
import Derived.Deep.WholeRow
set_option linter.all false
set_option maxHeartbeats 40000000
set_option maxRecDepth 20000
open Go.Proofs.Tryz
open List renaming append_assoc->aa,replicate->ab,set_cons_zero->ac,getD->ae,append_nil->af,getD_eq_getElem?_getD->ag,getElem?_eq_getElem->ah,getElem_mem->ai,length_append->aj,size_toArray->ak,perm_append_comm->al
open Nat renaming sub_self->am,zero_add->an,zero_le->ao,le_refl->ap
open Go.IntKind renaming i64->aq,wrap_i64->ar,u64->au
open Go.Value renaming int->av,slice->aw
open Option renaming some->ax,getD_some->ay
open Classical renaming byContradiction->az
open Int renaming toNat_natCast->aA
open Go.RowKit.Below renaming refl->aB
open Go.Instr renaming makeFunc->aD
namespace Go.Proofs.YtdigofgjhaakmaaGreatDoor
variable {L:List (Nat×Obj)} {w W:World} {m k:Nat} {l b:List Int} {v:Value} {a:Option Addr} {t:TypeId}
section
open Go.RowKit Sm
theorem j3q (A B d C:List Int) (e:A.length=k) (hb:d.length=B.length):lspl (A++(B++C)) k d=A++(d++C):=by
 subst e;unfold lspl;rw [List.take_left' rfl,hb,<-aa A B C,List.drop_left' (by simp)]
def fr1 (m:Nat):List Int:=((ab m (0:Int)).set 0 165).set (m-1) 165
def fr2 (m:Nat) (p:Pc):=lspl (fr1 m) 5 (lbe 8 p.t)
def fr3 (m:Nat) (p:Pc):=lspl (fr2 m p) 13 (lbe 8 p.c)
def fr4 (m:Nat) (p:Pc):=lspl (fr3 m p) 21 (lbe 1 p.i)
def fr5 (m:Nat) (p:Pc):=lspl (fr4 m p) 22 (lbe 1 p.n)
def fr6 (m:Nat) (p:Pc):=lspl (fr5 m p) 23 (lbe 4 p.b.length)
def fr7 (m:Nat) (p:Pc):=lspl (fr6 m p) 63 p.b
def fr8 (m:Nat) (p:Pc):=lspl (fr7 m p) 1 (lbe 4 (crc (sl (fr7 m p) 5 (63+p.b.length))))
theorem j9l (a b:Nat) (x:Int):ab (a+b) x=ab a x++ab b x:=List.replicate_append_replicate.symm
theorem jri (m k:Nat) (h:k+64<=m):fr1 m=[165]++(ab 4 0++(ab 8 0++(ab 8 0++(ab 1 0++(ab 1 0++(ab 4 0++(ab 36 0++(ab k 0++(ab (m-64-k) 0++[165]))))))))):=by
 obtain ⟨d,rfl⟩:∃ d,m=64+k+d:=⟨m-64-k,by omega⟩;have e:ab (64+k+d) (0:Int)=[0]++(ab (62+k+d) 0++[0]):=by
  have:64+k+d=1+(62+k+d+1):=by omega
  rw [this,j9l,j9l];rfl
 have f:ab (62+k+d) (0:Int)=ab 4 0++(ab 8 0++(ab 8 0++(ab 1 0++(ab 1 0++(ab 4 0++(ab 36 0++(ab k 0++ab (64+k+d-64-k) 0))))))):=by
  have:62+k+d=4+(8+(8+(1+(1+(4+(36+(k+(64+k+d-64-k)))))))):=by omega
  conv=>lhs;rw [this]
  simp only [j9l]
 unfold fr1;rw [e,List.singleton_append,ac,show 64+k+d-1=(62+k+d)+1 by omega,List.set_cons_succ,List.set_append_right _ _ (by simp)];simp only [List.length_replicate,am,ac];rw [f];simp only [aa,List.cons_append,List.nil_append]
theorem jrh {p:Pc} (h:p.b.length+64<=m):fr7 m p=[165]++(ab 4 0++(j00 p++(ab (m-64-p.b.length) 0++[165]))):=by
 have z1:=jri m p.b.length h;have z2:fr2 m p=[165]++(ab 4 0++(lbe 8 p.t++(ab 8 0++(ab 1 0++(ab 1 0++(ab 4 0++(ab 36 0++(ab p.b.length 0++(ab (m-64-p.b.length) 0++[165]))))))))):=by
  rw [fr2,z1,<-aa [165]];exact (j3q ([165]++ab 4 0) _ _ _ (by simp) (by simp [jc])).trans (by simp)
 have z3:fr3 m p=[165]++(ab 4 0++(lbe 8 p.t++(lbe 8 p.c++(ab 1 0++(ab 1 0++(ab 4 0++(ab 36 0++(ab p.b.length 0++(ab (m-64-p.b.length) 0++[165]))))))))):=by
  rw [fr3,z2,<-aa [165],<-aa ([165]++ab 4 0)];exact (j3q ([165]++ab 4 0++lbe 8 p.t) _ _ _ (by simp [jc]) (by simp [jc])).trans (by simp)
 have z4:fr4 m p=[165]++(ab 4 0++(lbe 8 p.t++(lbe 8 p.c++(lbe 1 p.i++(ab 1 0++(ab 4 0++(ab 36 0++(ab p.b.length 0++(ab (m-64-p.b.length) 0++[165]))))))))):=by
  rw [fr4,z3,<-aa [165],<-aa ([165]++ab 4 0),<-aa ([165]++ab 4 0++lbe 8 p.t)];exact (j3q ([165]++ab 4 0++lbe 8 p.t++lbe 8 p.c) _ _ _ (by simp [jc]) (by simp [jc])).trans (by simp)
 have z5:fr5 m p=[165]++(ab 4 0++(lbe 8 p.t++(lbe 8 p.c++(lbe 1 p.i++(lbe 1 p.n++(ab 4 0++(ab 36 0++(ab p.b.length 0++(ab (m-64-p.b.length) 0++[165]))))))))):=by
  rw [fr5,z4,<-aa [165],<-aa ([165]++ab 4 0),<-aa ([165]++ab 4 0++lbe 8 p.t),<-aa ([165]++ab 4 0++lbe 8 p.t++lbe 8 p.c)];exact (j3q ([165]++ab 4 0++lbe 8 p.t++lbe 8 p.c++lbe 1 p.i) _ _ _ (by simp [jc]) (by simp [jc])).trans (by simp)
 have z6:fr6 m p=[165]++(ab 4 0++(lbe 8 p.t++(lbe 8 p.c++(lbe 1 p.i++(lbe 1 p.n++(lbe 4 p.b.length++(ab 36 0++(ab p.b.length 0++(ab (m-64-p.b.length) 0++[165]))))))))):=by
  rw [fr6,z5,<-aa [165],<-aa ([165]++ab 4 0),<-aa ([165]++ab 4 0++lbe 8 p.t),<-aa ([165]++ab 4 0++lbe 8 p.t++lbe 8 p.c),<-aa ([165]++ab 4 0++lbe 8 p.t++lbe 8 p.c++lbe 1 p.i)];exact (j3q ([165]++ab 4 0++lbe 8 p.t++lbe 8 p.c++lbe 1 p.i++lbe 1 p.n) _ _ _ (by simp [jc]) (by simp [jc])).trans (by simp)
 have d:fr6 m p=([165]++ab 4 0++lbe 8 p.t++lbe 8 p.c++lbe 1 p.i++lbe 1 p.n++lbe 4 p.b.length++ab 36 0)++(ab p.b.length 0++(ab (m-64-p.b.length) 0++[165])):=by rw [z6];simp
 rw [fr7,d,j3q _ (ab p.b.length 0) p.b _ (by simp [jc]) (by simp)];simp [j00]
theorem jrg {p:Pc} (h:p.b.length+64<=m):fr8 m p=frm m p:=by
 have z7:=jrh h;have hs:sl (fr7 m p) 5 (63+p.b.length)=j00 p:=by
  rw [z7,<-aa [165]];exact j1m _ _ _ (by simp) (by rw [j0l];omega)
 rw [fr8,hs,z7,j3q [165] (ab 4 0) _ _ (by simp) (by simp [jc])];rfl
theorem jrf {p:Pc} (h:p.b.length+64<=m):(fr1 m).length=m/\(fr2 m p).length=m/\(fr3 m p).length=m/\(fr4 m p).length=m/\(fr5 m p).length=m/\(fr6 m p).length=m/\(fr7 m p).length=m:=by
 have j:(fr1 m).length=m:=by simp [fr1]
 have i:(fr2 m p).length=m:=by rw [fr2,qo _ _ _ (by rw [jc,j];omega),j]
 have f:(fr3 m p).length=m:=by rw [fr3,qo _ _ _ (by rw [jc,i];omega),i]
 have e:(fr4 m p).length=m:=by rw [fr4,qo _ _ _ (by rw [jc,f];omega),f]
 have d:(fr5 m p).length=m:=by rw [fr5,qo _ _ _ (by rw [jc,e];omega),e]
 have o:(fr6 m p).length=m:=by rw [fr6,qo _ _ _ (by rw [jc,d];omega),d]
 exact ⟨j,i,f,e,d,o,by rw [fr7,qo _ _ _ (by omega),o]⟩
theorem jf6 (h:j6 l) (j:Nat) (x:Int) (hx:0<=x/\x<=255):j6 (l.set j x):=by
 intro q;by_cases e:j=q
 ·subst e;by_cases h2:j<l.length
  ·have:(l.set j x).getD j 0=x:=by simp [ae,h2]
   rw [this];exact hx
  ·have:(l.set j x).getD j 0=0:=by simp [ae,h2]
   rw [this];omega
 ·have:(l.set j x).getD q 0=l.getD q 0:=by simp [ae,List.getElem?_set_ne e]
  rw [this];exact h q
theorem jok {p:Pc} (h:j6 p.b):j6 (fr7 m p):=by
 have d:j6 (fr1 m):=jf6 (jf6 (j09 _ _ (by omega)) _ _ (by omega)) _ _ (by omega);exact j06 (j06 (j06 (j06 (j06 (j06 d (ke _ _) _) (ke _ _) _) (ke _ _) _) (ke _ _) _) (ke _ _) _) h _
theorem jdk {p:Pc} (x:PcOk m p) (c9:256<=m) {cap:Nat} (hk:p.b.length=k) (a6:k<=cap) (hr:Row W a p.b) :
  Calls prog 123 #[.agg (pcA p.t p.c p.i p.n (.slice a k cap)),.int .i64 m] W fun e o=>∃ g,e=.returned (.slice (some ⟨g,0,none⟩) m m)/\∃ K,Mem W o ((g,.cells (bs (frm m p)) 5)::K):=by
 have a5:=x.len;obtain ⟨l1,l2,l3,l4,l5,l6,Z⟩:=jrf x.len;have c7:=x.top;have ht:=x.t;have c5:=x.c;have c4:=x.i;have c3:=x.n;have a4:Hid (fr8 m p=frm m p):=jrg x.len;have a3:Hid (j6 (fr7 m p)):=jok x.bytes;obtain ⟨t,c,i,n,b⟩:=p;simp only at *;have G:=j07 m (by omega) (W.alloc (.cells (pcA t c i n (.slice a k cap)) pcT));have H:Mem W ((W.alloc (.cells (pcA t c i n (.slice a k cap)) pcT)).alloc (.cells (madeCells #[.int .u8 0] m) 5)) ([]++[(W.heap.size,.cells (pcA t c i n (.slice a k cap)) pcT (0,0))]++[(W.heap.size+1,.cells (bs (ab m 0)) 5)]):=by
  have:=((Mem.nil W).alloc (.cells (pcA t c i n (.slice a k cap)) pcT (0,0))).push (W.heap.size+1) (.cells (madeCells #[.int .u8 0] m) 5) (by simp);rw [jaf] at this ⊢;exact this
 have F:(W.alloc (.cells (pcA t c i n (.slice a k cap)) pcT)).heap.size=W.heap.size+1:=by simp
 rw [F] at G;have HA:Hid (Mem W ((W.alloc (.cells (pcA t c i n (.slice a k cap)) pcT)).alloc (.cells (madeCells #[.int .u8 0] m) 5)) ([]++[(W.heap.size,.cells (pcA t c i n (.slice a k cap)) pcT (0,0))]++[(W.heap.size+1,.cells (bs (ab m 0)) 5)])):=H;have z0:=H.cell 1 rfl 0;have zl:=H.cell 1 rfl (m-1);rw [jm2 (by simp;omega)] at z0 zl;have zf:=H.free 1 rfl;generalize a0:(W.alloc (.cells (pcA t c i n (.slice a k cap)) pcT)).alloc (.cells (madeCells #[.int .u8 0] m) 5)=wA at *;have J:Hid (Row W a b):=hr;have qm:(0:Int)<m:=by omega
 have a7:((m:Int)-1).toNat=m-1:=by omega
 have qw:aq.wrap ((m:Int)-1)=(m:Int)-1:=by rw [ar];omega
 have wc:au.wrap c=c:=wraps_u64 _ (by omega) (by omega);have wi:au.wrap i=i:=wraps_u64 _ (by omega) (by omega);have wn:au.wrap n=n:=wraps_u64 _ (by omega) (by omega);have wk:au.wrap (k:Int)=k:=wraps_u64 _ (by omega) (by omega);have n1:¬m=1:=by omega
 have n5:¬m=5:=by omega
 have b2:¬m=13:=by omega
 have b1:¬m=21:=by omega
 have b0:¬m=22:=by omega
 have a9:¬m=23:=by omega
 have a8:¬m=63:=by omega
 have i1:(1:Int)<=m:=by omega
 have i5:(5:Int)<=m:=by omega
 have c2:(13:Int)<=m:=by omega
 have c1:(21:Int)<=m:=by omega
 have c0:(22:Int)<=m:=by omega
 have b9:(23:Int)<=m:=by omega
 have b8:(27:Int)<=m:=by omega
 have b7:(63:Int)<=m:=by omega
 have iL:(63:Int)+k<=m:=by omega
 have b6:(0:Int)<=63+k:=by omega
 have b4:(5:Int)<=63+k:=by omega
 have b5:((63:Int)+k).toNat=63+k:=by omega
 have b3:aq.wrap ((63:Int)+k)=(63:Int)+k:=by rw [ar];omega
 clear H hr x;go_enter func123,ntmps123;go_upto_region 3 with fail;refine j5 (fun V=>Mem W V [(W.heap.size,.cells (pcA t c i n (.slice a k cap)) pcT (0,0)),(W.heap.size+1,.cells (bs (fr1 m)) 5)]) (by
  have:=(HA.out.set 1 rfl 0 (.int .u8 165)).set 1 rfl (m-1) (.int .u8 165);rw [jho,jho] at this;exact this) ?_
 clear HA a0 z0 zl zf G F wA;intro D X;have q:=X.cell 0 rfl 0;simp at q;have f:Calls prog 146 #[.slice (some ⟨W.heap.size+1,5,none⟩) 8 (m-5),.int .u64 t] D.drew fun e o=>e=.returned (.tuple #[])/\Wrote D.drew o (W.heap.size+1) (bs (lspl (fr1 m) 5 (lbe 8 t))) 5:=j0x (X.drew.get 1 rfl) 5 8 _ (by omega) (by omega) (by omega) t (by omega) (by omega);have d:Hid (Calls prog 146 #[.slice (some ⟨W.heap.size+1,5,none⟩) 8 (m-5),.int .u64 t] D.drew fun e o=>e=.returned (.tuple #[])/\Wrote D.drew o (W.heap.size+1) (bs (lspl (fr1 m) 5 (lbe 8 t))) 5):=f;have s:Hid (Mem W D [(W.heap.size,.cells (pcA t c i n (.slice a k cap)) pcT (0,0)),(W.heap.size+1,.cells (bs (fr1 m)) 5)]):=X;have h:W.heap.size+1≠W.heap.size:=by omega
 clear X f
 go_region_held3 (fun w'=>w'.cell? ⟨W.heap.size,0,none⟩=some (.int .u64 t)) (first|go_keep|assumption|exact (r.cell h).trans q)
  (first|(go_at_call 146;with_reducible refine d.out.mono ?_;rintro e y ⟨rfl,r⟩))
 go_upto_region 4 with fail;refine j5 (fun V=>Mem W V [(W.heap.size,.cells (pcA t c i n (.slice a k cap)) pcT (0,0)),(W.heap.size+1,.cells (bs (fr2 m ⟨t,c,i,n,b⟩)) 5)]) (s.out.drew.wrote 1 rfl r) ?_;clear s d r q h;intro A U;have q:=U.cell 0 rfl 1;simp at q;have f:Calls prog 146 #[.slice (some ⟨W.heap.size+1,13,none⟩) 8 (m-13),.int .u64 c] A.drew fun e o=>e=.returned (.tuple #[])/\Wrote A.drew o (W.heap.size+1) (bs (lspl (fr2 m ⟨t,c,i,n,b⟩) 13 (lbe 8 c))) 5:=j0x (U.drew.get 1 rfl) 13 8 _ (by omega) (by omega) (by omega) c (by omega) (by omega);have d:Hid (Calls prog 146 #[.slice (some ⟨W.heap.size+1,13,none⟩) 8 (m-13),.int .u64 c] A.drew fun e o=>e=.returned (.tuple #[])/\Wrote A.drew o (W.heap.size+1) (bs (lspl (fr2 m ⟨t,c,i,n,b⟩) 13 (lbe 8 c))) 5):=f;have s:Hid (Mem W A [(W.heap.size,.cells (pcA t c i n (.slice a k cap)) pcT (0,0)),(W.heap.size+1,.cells (bs (fr2 m ⟨t,c,i,n,b⟩)) 5)]):=U;have h:W.heap.size+1≠W.heap.size:=by omega
 clear U f
 go_region_held3 (fun w'=>w'.cell? ⟨W.heap.size,1,none⟩=some (.int .i64 c)) (first|go_keep|assumption|exact (r.cell h).trans q)
  (first|(go_at_call 146;with_reducible refine d.out.mono ?_;rintro e y ⟨rfl,r⟩))
 go_upto_region 5 with fail;refine j5 (fun V=>Mem W V [(W.heap.size,.cells (pcA t c i n (.slice a k cap)) pcT (0,0)),(W.heap.size+1,.cells (bs (fr3 m ⟨t,c,i,n,b⟩)) 5)]) (s.out.drew.wrote 1 rfl r) ?_;clear s d r q h;intro y T;have q:=T.cell 0 rfl 2;simp at q;have f:Calls prog 146 #[.slice (some ⟨W.heap.size+1,21,none⟩) 1 (m-21),.int .u64 i] y.drew fun e o=>e=.returned (.tuple #[])/\Wrote y.drew o (W.heap.size+1) (bs (lspl (fr3 m ⟨t,c,i,n,b⟩) 21 (lbe 1 i))) 5:=j0x (T.drew.get 1 rfl) 21 1 _ (by omega) (by omega) (by omega) i (by omega) (by omega);have d:Hid (Calls prog 146 #[.slice (some ⟨W.heap.size+1,21,none⟩) 1 (m-21),.int .u64 i] y.drew fun e o=>e=.returned (.tuple #[])/\Wrote y.drew o (W.heap.size+1) (bs (lspl (fr3 m ⟨t,c,i,n,b⟩) 21 (lbe 1 i))) 5):=f;have s:Hid (Mem W y [(W.heap.size,.cells (pcA t c i n (.slice a k cap)) pcT (0,0)),(W.heap.size+1,.cells (bs (fr3 m ⟨t,c,i,n,b⟩)) 5)]):=T;have h:W.heap.size+1≠W.heap.size:=by omega
 clear T f
 go_region_held3 (fun w'=>w'.cell? ⟨W.heap.size,2,none⟩=some (.int .i64 i)) (first|go_keep|assumption|exact (r.cell h).trans q)
  (first|(go_at_call 146;with_reducible refine d.out.mono ?_;rintro e y ⟨rfl,r⟩))
 go_upto_region 6 with fail;refine j5 (fun V=>Mem W V [(W.heap.size,.cells (pcA t c i n (.slice a k cap)) pcT (0,0)),(W.heap.size+1,.cells (bs (fr4 m ⟨t,c,i,n,b⟩)) 5)]) (s.out.drew.wrote 1 rfl r) ?_;clear s d r q h;intro C R;have q:=R.cell 0 rfl 3;simp at q;have f:Calls prog 146 #[.slice (some ⟨W.heap.size+1,22,none⟩) 1 (m-22),.int .u64 n] C.drew fun e o=>e=.returned (.tuple #[])/\Wrote C.drew o (W.heap.size+1) (bs (lspl (fr4 m ⟨t,c,i,n,b⟩) 22 (lbe 1 n))) 5:=j0x (R.drew.get 1 rfl) 22 1 _ (by omega) (by omega) (by omega) n (by omega) (by omega);have d:Hid (Calls prog 146 #[.slice (some ⟨W.heap.size+1,22,none⟩) 1 (m-22),.int .u64 n] C.drew fun e o=>e=.returned (.tuple #[])/\Wrote C.drew o (W.heap.size+1) (bs (lspl (fr4 m ⟨t,c,i,n,b⟩) 22 (lbe 1 n))) 5):=f;have s:Hid (Mem W C [(W.heap.size,.cells (pcA t c i n (.slice a k cap)) pcT (0,0)),(W.heap.size+1,.cells (bs (fr4 m ⟨t,c,i,n,b⟩)) 5)]):=R;have h:W.heap.size+1≠W.heap.size:=by omega
 clear R f
 go_region_held3 (fun w'=>w'.cell? ⟨W.heap.size,3,none⟩=some (.int .i64 n)) (first|go_keep|assumption|exact (r.cell h).trans q)
  (first|(go_at_call 146;with_reducible refine d.out.mono ?_;rintro e y ⟨rfl,r⟩))
 go_upto_region 7 with fail;refine j5 (fun V=>Mem W V [(W.heap.size,.cells (pcA t c i n (.slice a k cap)) pcT (0,0)),(W.heap.size+1,.cells (bs (fr5 m ⟨t,c,i,n,b⟩)) 5)]) (s.out.drew.wrote 1 rfl r) ?_;clear s d r q h;intro B Q;have q:=Q.cell 0 rfl 4;simp at q;have f:Calls prog 146 #[.slice (some ⟨W.heap.size+1,23,none⟩) 4 (m-23),.int .u64 (k:Int)] B.drew fun e o=>e=.returned (.tuple #[])/\Wrote B.drew o (W.heap.size+1) (bs (lspl (fr5 m ⟨t,c,i,n,b⟩) 23 (lbe 4 (k:Int)))) 5:=j0x (Q.drew.get 1 rfl) 23 4 _ (by omega) (by omega) (by omega) (k:Int) (by omega) (by omega);have d:Hid (Calls prog 146 #[.slice (some ⟨W.heap.size+1,23,none⟩) 4 (m-23),.int .u64 (k:Int)] B.drew fun e o=>e=.returned (.tuple #[])/\Wrote B.drew o (W.heap.size+1) (bs (lspl (fr5 m ⟨t,c,i,n,b⟩) 23 (lbe 4 (k:Int)))) 5):=f;have s:Hid (Mem W B [(W.heap.size,.cells (pcA t c i n (.slice a k cap)) pcT (0,0)),(W.heap.size+1,.cells (bs (fr5 m ⟨t,c,i,n,b⟩)) 5)]):=Q;have h:W.heap.size+1≠W.heap.size:=by omega
 clear Q f
 go_region_held3 (fun w'=>w'.cell? ⟨W.heap.size,4,none⟩=some (.slice a k cap)) (first|go_keep|assumption|exact (r.cell h).trans q)
  (first|(go_at_call 146;with_reducible refine d.out.mono ?_;rintro e y ⟨rfl,r⟩))
 go_upto_region 8 with fail;refine j5 (fun V=>Mem W V [(W.heap.size,.cells (pcA t c i n (.slice a k cap)) pcT (0,0)),(W.heap.size+1,.cells (bs (fr6 m ⟨t,c,i,n,b⟩)) 5)]) (by rw [show fr6 m ⟨t,c,i,n,b⟩=lspl (fr5 m ⟨t,c,i,n,b⟩) 23 (lbe 4 (k:Int)) by simp only [fr6,hk]];exact s.out.drew.wrote 1 rfl r) ?_;clear s d r q h;intro Y P;have q:=P.cell 0 rfl 4;simp at q;have u:Hid (Row Y.drew a b):=j0v (P.row J.out);have s:Hid (Mem W Y [(W.heap.size,.cells (pcA t c i n (.slice a k cap)) pcT (0,0)),(W.heap.size+1,.cells (bs (fr6 m ⟨t,c,i,n,b⟩)) 5)]):=P;have O:Hid (b.length=Nat.min k (m-63)):=by show _=_;rw [hk];exact (Nat.min_eq_left (by omega)).symm
 have HP:Hid (0<b.length->some (⟨W.heap.size+1,63,none⟩:Addr)=some ⟨W.heap.size+1,63,none⟩/\∃ ad,a=some ad/\∀ j v,(b.map (av .u8))[j]?=some v->Y.drew.cell? (ad.add j)=some v):=by
  intro x;rcases u.out.cells with e|⟨b',off,e,hc⟩
  ·rw [e] at x;simp at x
  ·subst e;exact ⟨rfl,_,rfl,u.out.news⟩
 have HF:Hid (63+b.length<=(bs (fr6 m ⟨t,c,i,n,b⟩)).size):=by show _<=_;rw [jhn,l6];omega
 have N:Hid ((bs (fr7 m ⟨t,c,i,n,b⟩)).toList=(bs (fr6 m ⟨t,c,i,n,b⟩)).toList.take 63++(b.map (av .u8)++(bs (fr6 m ⟨t,c,i,n,b⟩)).toList.drop (63+b.length))):=by
  show _=_;simp only [fr7,lspl];simp [List.map_append,List.map_take,List.map_drop]
 clear P
 go_cut [4] from 6 (fun s4 wx=>Mem W wx [(W.heap.size,.cells (pcA t c i n (.slice a k cap)) pcT (0,0)),(W.heap.size+1,.cells (bs (fr7 m ⟨t,c,i,n,b⟩)) 5)])
 case first =>
  go_region_law (refine j0h rfl (.tmp 45) (.tmp 47) 86 86 rfl underlying86 (some ⟨W.heap.size+1,63,none⟩) a (m-63) (m-63) k cap (by simp [Act.eval]) (by simp [Act.eval]) (W.heap.size+1) 63 (bs (fr6 m ⟨t,c,i,n,b⟩)) (bs (fr7 m ⟨t,c,i,n,b⟩)) 5 (s.out.drew.get 1 rfl) b O.out HP.out HF.out N.out ?_;intro w9 a1)
  all_goals
   go_wp2_with fail;go_meet
   case rel=>exact s.out.drew.wrote 1 rfl a1
 case rest =>
 clear s O HP HF N q u;have q:=hcut.cell 0 rfl 4;simp at q;have hI:=a3.out;have z:∀ V,Row V (some ⟨W.heap.size+1,0,none⟩) (fr7 m ⟨t,c,i,n,b⟩)->Calls prog 147 #[.slice (some ⟨W.heap.size+1,5,none⟩) (63+k-5) (m-5)] V fun e o=>e=.returned (.int .u32 (crc (sl (fr7 m ⟨t,c,i,n,b⟩) 5 (63+b.length))))/\V=o:=fun V hV=>by
  have:=j6g (n:=63+k-5) (by rw [jw _ _ _ (by rw [Z];omega)]) (hV.sl 5 (63+k) (by omega) (by rw [Z];omega)) (m-5);rw [hk];simpa only [an] using this
 have a2:=j1y (sl (fr7 m ⟨t,c,i,n,b⟩) 5 (63+b.length)) (kh hI _ _);have M:Hid (Row wc.drew (some ⟨W.heap.size+1,0,none⟩) (fr7 m ⟨t,c,i,n,b⟩)):=hcut.drew.own 1 rfl hI (by rw [Z];omega);have I:Hid (Calls prog 147 #[.slice (some ⟨W.heap.size+1,5,none⟩) (63+k-5) (m-5)] wc.drew fun e o=>e=.returned (.int .u32 (crc (sl (fr7 m ⟨t,c,i,n,b⟩) 5 (63+b.length))))/\wc.drew=o):=z _ M.out;have d:Hid (Calls prog 146 #[.slice (some ⟨W.heap.size+1,1,none⟩) 4 (m-1),.int .u64 (crc (sl (fr7 m ⟨t,c,i,n,b⟩) 5 (63+b.length)))] wc.drew fun e o=>e=.returned (.tuple #[])/\Wrote wc.drew o (W.heap.size+1) (bs (fr8 m ⟨t,c,i,n,b⟩)) 5):=j0x (hcut.drew.get 1 rfl) 1 4 _ (by omega) (by omega) (by omega) _ (by omega) (by omega);generalize crc (sl (fr7 m ⟨t,c,i,n,b⟩) 5 (63+b.length))=S at *;have wS:au.wrap S=S:=wraps_u64 _ (by omega) (by omega);have s:Hid (Mem W wc [(W.heap.size,.cells (pcA t c i n (.slice a k cap)) pcT (0,0)),(W.heap.size+1,.cells (bs (fr7 m ⟨t,c,i,n,b⟩)) 5)]):=hcut;have h:W.heap.size+1≠W.heap.size:=by omega
 clear hcut z M hI;obtain ⟨d1,d0⟩:=a2;go_upto_region 9 with fail
 go_region_held3 (fun w'=>w'.cell? ⟨W.heap.size,4,none⟩=some (.slice a k cap)) (first|go_keep|assumption|exact (r.cell h).trans q)
  (first
   | (go_at_call 147;with_reducible refine I.out.mono ?_;rintro e A ⟨rfl,rfl⟩)
   | (go_at_call 146;with_reducible refine d.out.mono ?_;rintro e y ⟨rfl,r⟩))
 go_wp2
 go_ret;refine ⟨W.heap.size+1,rfl,[(W.heap.size,.cells (pcA t c i n (.slice a k cap)) pcT (0,0))],?_⟩;rw [<-a4.out];exact (s.out.drew.wrote 1 rfl r).perm (List.Perm.swap _ _ _)
section
variable {W:World} {g c m:Nat} {b:List Int} {E:Value}
theorem jmc (N:b.length=m) (c2:256<=m) (c1:m<=65536) (hr:Row W (some ⟨g,0,none⟩) b) (R:m<=c)
  (X:b.getD 0 0=165) (O:b.getD (m-1) 0=165) {L:Nat} (T:gt (sl b 23 27)=L) (hL:L+64<=m) (p:crc (sl b 5 (63+L))=gt (sl b 1 5)) :
  Calls prog 162 #[.slice (some ⟨g,0,none⟩) m c] W fun e W'=>e=.returned (.tuple #[.agg (pcA (gt (sl b 5 13)) (aq.wrap (gt (sl b 13 21))) (gt (sl b 21 22)) (gt (sl b 22 23)) (.slice (some ⟨g,63,none⟩) L (c-63))),.nilIface])/\∃ K,Mem W W' K:=by
 have U:Mem W (W.alloc (.cells pc0 pcT)) [(W.heap.size,.cells pc0 pcT (0,0))]:=(Mem.nil W).push1 rfl;have d:Row (W.alloc (.cells pc0 pcT)) (some ⟨g,0,none⟩) b:=yh hr;have HM:Hid (Mem W (W.alloc (.cells pc0 pcT)) [(W.heap.size,.cells pc0 pcT (0,0))]):=U;have A:W.heap.size≠g:=by
  have:=j9 (hr.cellAt 0 (by omega));simp only at this;omega
 generalize z:W.alloc (.cells pc0 pcT)=o at *;have C:=d.cellAt 0 (by omega);have cl:=d.cellAt (m-1) (by omega);simp only [an] at C cl;have x:=j0y (n:=4) (by rw [jw _ _ _ (by omega)]) (d.sl 23 27 (by omega) (by omega)) (by omega) (c-23);simp only [an] at x;have j:Hid (∀ k,Calls prog 256 #[.slice (some ⟨g,1,none⟩) 4 (c-1)] (o.drewN k) fun e w'=>e=.returned (.int .u64 (gt (sl b 1 5)))/\o.drewN k=w'):=fun k=>by
  have:=j0y (n:=4) (by rw [jw _ _ _ (by omega)]) (yg (n:=k) (d.sl 1 5 (by omega) (by omega))) (by omega) (c-1);simpa only [an] using this
 have r:Hid (∀ k,Calls prog 147 #[.slice (some ⟨g,5,none⟩) (63+L-5) (c-5)] (o.drewN k) fun e w'=>e=.returned (.int .u32 (crc (sl b 5 (63+L))))/\o.drewN k=w'):=fun k=>by
  have:=j6g (n:=63+L-5) (by rw [jw _ _ _ (by omega)]) (yg (n:=k) (d.sl 5 (63+L) (by omega) (by omega))) (c-5);simpa only [an] using this
 rw [X] at C;rw [O] at cl;rw [T] at x;have B:=j1y (sl b 5 (63+L)) (kh hr.bytes _ _);have q:∀ i hi:Nat,i<=hi->hi<=b.length->hi-i<=8->∀ V,Row V (some ⟨g,0,none⟩) b->∀ cc,Calls prog 256 #[.slice (some ⟨g,i,none⟩) (hi-i) cc] V fun e w'=>e=.returned (.int .u64 (gt (sl b i hi)))/\V=w':=by
  intro i hi e1 Y e3 V f cc;have:=j0y (n:=hi-i) (by rw [jw _ _ _ Y]) (f.sl i hi e1 Y) e3 cc;simpa only [an] using this
 have M:Hid (∀ V,Row V (some ⟨g,0,none⟩) b->Calls prog 256 #[.slice (some ⟨g,5,none⟩) 8 (c-5)] V fun e w'=>e=.returned (.int .u64 (gt (sl b 5 13)))/\V=w'):=fun V f=>q 5 13 (by omega) (by omega) (by omega) V f _;have J:Hid (∀ V,Row V (some ⟨g,0,none⟩) b->Calls prog 256 #[.slice (some ⟨g,13,none⟩) 8 (c-13)] V fun e w'=>e=.returned (.int .u64 (gt (sl b 13 21)))/\V=w'):=fun V f=>q 13 21 (by omega) (by omega) (by omega) V f _;have I:Hid (∀ V,Row V (some ⟨g,0,none⟩) b->Calls prog 256 #[.slice (some ⟨g,21,none⟩) 1 (c-21)] V fun e w'=>e=.returned (.int .u64 (gt (sl b 21 22)))/\V=w'):=fun V f=>q 21 22 (by omega) (by omega) (by omega) V f _;have H:Hid (∀ V,Row V (some ⟨g,0,none⟩) b->Calls prog 256 #[.slice (some ⟨g,22,none⟩) 1 (c-22)] V fun e w'=>e=.returned (.int .u64 (gt (sl b 22 23)))/\V=w'):=fun V f=>q 22 23 (by omega) (by omega) (by omega) V f _;have u:=j0z (sl b 21 22) (kh hr.bytes _ _);have s:=j0z (sl b 22 23) (kh hr.bytes _ _);rw [jw _ _ _ (by omega)] at u s;generalize gt (sl b 5 13)=T1 at *;generalize gt (sl b 13 21)=T2 at *;generalize gt (sl b 21 22)=F at *;generalize gt (sl b 22 23)=D at *;have w3:aq.wrap F=F:=by rw [ar];have:=u.2;have:=u.1;omega
 have w4:aq.wrap D=D:=by rw [ar];have:=s.2;have:=s.1;omega
 rw [<-p] at j;generalize crc (sl b 5 (63+L))=S at *;have bn:(S != S)=false:=by simp
 have a4:(23:Int)<c:=by omega
 have a3:(27:Int)<=c:=by omega
 have q1:(1:Int)<c:=by omega
 have q5:(5:Int)<c:=by omega
 have a7:(13:Int)<c:=by omega
 have a6:(21:Int)<c:=by omega
 have a5:(22:Int)<c:=by omega
 have a2:(63:Int)<c:=by omega
 have n5:¬c=5:=by omega
 have b1:¬c=13:=by omega
 have b0:¬c=21:=by omega
 have a9:¬c=22:=by omega
 have a8:¬c=63:=by omega
 have b8:(13:Int)<=c:=by omega
 have b7:(21:Int)<=c:=by omega
 have b6:(22:Int)<=c:=by omega
 have b5:(23:Int)<=c:=by omega
 have iL:(63:Int)+L<=c:=by omega
 have b4:(0:Int)<=63+L:=by omega
 have b3:(63:Int)<=63+L:=by omega
 have b2:((63:Int)+L).toNat=63+L:=by omega
 have qm:(0:Int)<m:=by omega
 have a1:((m:Int)-1).toNat=m-1:=by omega
 have qw:aq.wrap ((m:Int)-1)=(m:Int)-1:=by rw [ar];omega
 have a0:au.wrap ((m:Int)-64)=(m:Int)-64:=wraps_u64 _ (by omega) (by omega);have qz:¬((m:Int)-64<(L:Int)):=by omega
 obtain ⟨Q,P⟩:=B;have Z:Hid (Row o (some ⟨g,0,none⟩) b):=d;clear U hr d p X O T u s q;go_enter func162,ntmps162;go_wp2_with fail;refine x.mono ?_;rintro e w' ⟨rfl,rfl⟩;go_upto_region 5 with fail
 go_quiet (first|(go_at_call 147;exact qy (r.out _))|(go_at_call 256;exact qy (j.out _)))
 go_upto_region 7 with fail;refine j5 (fun V=>Mem W V [(W.heap.size,.cells pc0 pcT (0,0))]/\Row V (some ⟨g,0,none⟩) b) ⟨HM.out.drewN _,yg Z.out⟩ ?_;rintro wx ⟨h,b9⟩;have kr:=h.cell 0 rfl;have kf:=h.free 0 rfl;have G:Hid (Mem W wx [(W.heap.size,.cells pc0 pcT (0,0))]):=h;clear h HM r j x C cl Z z
 go_region_held3 (fun w'=>Row w' (some ⟨g,0,none⟩) b) (repeat (first|assumption|refine Row.setCell ?_ A _|refine yg ?_|refine j0v ?_))
  (first
   | (go_at_call 256;with_reducible refine (M.out _ (by assumption)).mono ?_;rintro e y ⟨rfl,rfl⟩)
   | (go_at_call 256;with_reducible refine (J.out _ (by assumption)).mono ?_;rintro e y ⟨rfl,rfl⟩)
   | (go_at_call 256;with_reducible refine (I.out _ (by assumption)).mono ?_;rintro e y ⟨rfl,rfl⟩)
   | (go_at_call 256;with_reducible refine (H.out _ (by assumption)).mono ?_;rintro e y ⟨rfl,rfl⟩))
 all_goals go_wp2
 exact bodyPost_ret (v:=.tuple #[.agg (pcA T1 (aq.wrap T2) F D (.slice (some ⟨g,63,none⟩) L (c-63))),.nilIface]) (by simp [results,results162,go_sem,kr]) rfl ⟨rfl,_,(((((G.out.set 0 rfl 0 _).set 0 rfl 1 _).set 0 rfl 2 _).set 0 rfl 3 _).set 0 rfl 4 _).drew⟩
end
def unfV (g c:Nat) (E:Value):Option Pc->Value
 | none=>.tuple #[.agg pc0,E]
 | some p=>.tuple #[.agg (pcA p.t p.c p.i p.n (.slice (some ⟨g,63,none⟩) p.b.length (c-63))),.nilIface]
theorem j3m {p:Pc} (h:unf b=some p) (r:b.length=m) (x:256<=m) (hb:j6 b) :
  p.b=sl b 63 (63+p.b.length)/\p.b.length+64<=m/\(0<=p.t/\p.t<=18446744073709551615)/\(0<=p.i/\p.i<=255)/\(0<=p.n/\p.n<=255)/\(-9223372036854775808<=p.c/\p.c<=9223372036854775807):=by
 have f:∀ d hi k,hi-d=k->hi<=b.length->0<=gt (sl b d hi)/\gt (sl b d hi)<256 ^ k:=by
  intro d hi k u z;have:=j0z (sl b d hi) (kh hb d hi);rwa [jw _ _ _ z,u] at this
 have A:=f 23 27 4 rfl (by omega);have q:=f 5 13 8 rfl (by omega);have o:=f 21 22 1 rfl (by omega);have j:=f 22 23 1 rfl (by omega);unfold unf at h;split at h
 ·cases h
 ·rename_i y;split at h
  ·cases h
  ·simp only [ax.injEq] at h;subst h;have u:¬((b.length:Int)-64<gt (sl b 23 27)):=fun e=>y (Or.inr (Or.inr e));have s:(sl b 63 (63+(gt (sl b 23 27)).toNat)).length=(gt (sl b 23 27)).toNat:=by rw [jw _ _ _ (by omega)];omega
   refine ⟨by simp only [s],by simp only [s];omega,?_,?_,?_,?_⟩
   ·have:=q.2;have:=q.1;simp only;omega
   ·have:=o.2;have:=o.1;simp only;omega
   ·have:=j.2;have:=j.1;simp only;omega
   ·simp only;rw [ar];omega
theorem jmi {g c:Nat} (d:b.length=m) (i:256<=m) (h:m<=65536) (hr:Row W (some ⟨g,0,none⟩) b) (f:m<=c) (o:W.cell? ⟨0,0,none⟩=some (.iface t v)) :
  Calls prog 162 #[.slice (some ⟨g,0,none⟩) m c] W fun e u=>e=.returned (unfV g c (.iface t v) (unf b))/\∃ K,Mem W u K:=by
 unfold unf;rw [d];by_cases h1:b.getD 0 0≠165\/b.getD (m-1) 0≠165\/(m:Int)-64<gt (sl b 23 27)
 ·rw [if_pos h1];exact jmh d i h hr f o h1
 ·rw [if_neg h1];have r:b.getD 0 0=165:=az fun e=>h1 (Or.inl e);have q:b.getD (m-1) 0=165:=az fun e=>h1 (Or.inr (Or.inl e));have y:¬((m:Int)-64<gt (sl b 23 27)):=fun e=>h1 (Or.inr (Or.inr e));have x:=(j0z (sl b 23 27) (kh hr.bytes _ _)).1;obtain ⟨k,j⟩:∃ k:Nat,gt (sl b 23 27)=k:=⟨(gt (sl b 23 27)).toNat,by omega⟩;by_cases h2:crc (sl b 5 (63+(gt (sl b 23 27)).toNat))≠gt (sl b 1 5)
  ·rw [if_pos h2];rw [j,aA] at h2;exact jmd d i h hr f o r q j (by omega) h2
  ·rw [if_neg h2];have p:crc (sl b 5 (63+(gt (sl b 23 27)).toNat))=gt (sl b 1 5):=az h2;rw [j,aA] at p;have s:(sl b 63 (63+k)).length=k:=by rw [jw _ _ _ (by omega)];omega
   have:=jmc d i h hr f r q j (by omega) p;simp only [unfV,j,aA,s];exact this
end
section
open Go.RowKit Sm Cf
theorem jr6 (h:Out w W v l L) (Z K J y kr ks:Nat) (N cr cs:Array Value) (p p':Addr) (Q:Value) (xs:List (List Value)) (hx:∀ x∈xs,∃ z,x=[av .u32 z])
  (X:∀ V,Mem w V L->V.cell? ⟨Z,0,none⟩=some (.func (.func J) #[] #[]))
  (Y:∀ V,Mem w V L->V.cell? ⟨K,0,none⟩=some (.func (.func y) #[] N)/\V.cell? ⟨K,1,none⟩=some (.func (.func kr) #[] cr)/\V.cell? ⟨K,2,none⟩=some (.func (.func ks) #[] cs))
  (eo:∀ args V,(callFunc J args).run prog V=.ok (.enter J args) V) (ho:∀ V,Calls prog J #[.pointer (some p)] V fun e G=>e=.returned (.pointer (some p'))/\V=G)
  (ew:∀ args V,(callFunc y args).run prog V=.ok (.enter y args) V)
  (U:∀ V,Mem w V L->V.cell? p'=some Q) (f:∀ V,Mem w V L->Rw V 1 Q xs) (enc:Nat->List Int)
  (hw:∀ i,i<min xs.length 255->∀ ge v l V,Out w V v l ((ge,.cells (xs.getD i []).toArray 33)::L)->l.length+(enc i).length<=1000000000->Calls prog y (#[v,.pointer (some ⟨ge,0,none⟩)]++N) V fun e G=>∃ q,e=.returned q/\Out w G q (l++enc i) L)
  (hb:l.length+(cat enc (min xs.length 255)).length<=1000000000) :
  Calls prog 296 #[v,.pointer (some p),.pointer (some ⟨Z,0,none⟩),.pointer (some ⟨K,0,none⟩)] W fun e W'=>∃ q,e=.returned q/\Out w W' q (l++cat enc (min xs.length 255)) L:=by
 have c2:=X _ h.mem;have c3:=U _ h.mem;obtain ⟨a,c,rfl,D,F,S,-⟩:=f _ h.mem;have P:=zh 289 (by simp) W a xs.length c D F S;obtain ⟨n,R⟩:∃ n,min xs.length 255=n:=⟨_,rfl⟩;have a0:n<=255:=by omega
 have C:n<=xs.length:=by omega
 rw [R] at P hw hb ⊢;have HO:Hid (Out w W v l L):=h;have H:Hid (∀ V,Mem w V L->∀ i,i<n->∃ b d,a=some ⟨b,d,none⟩/\V.rangeAt b (d+i*1) (xs.getD i [])):=by
  intro V M i hi;obtain ⟨a',c',e,_,_,_,hr⟩:=f V M;simp only [aw.injEq] at e;obtain ⟨rfl,-,rfl⟩:=e;rcases hr with e|⟨b,d,rfl,hc⟩
  ·rw [e] at C;simp at C;omega
  ·exact ⟨b,d,rfl,fun j u hj=>hc i (by omega) j u hj⟩
 have HX:Hid (∀ x∈xs,∃ z,x=[av .u32 z]):=hx;clear h X U f D F S R hx;go_enter func296,ntmps296;go_wp2_with fail;refine (ho _).mono ?_;rintro e V ⟨rfl,rfl⟩;go_wp2_with fail;refine P.mono ?_;rintro e V ⟨rfl,rfl⟩;go_wp2_with fail
 go_loopw [0,16] (fun u0 u16 w'=>∃ i:Nat,i<=n/\u16=.int .i64 i/\Hid (Out w w' u0 (l++cat enc i) L)) (fun u0 u16 w'=>n-(intOf u16).toNat)
 case atStart=>exact ⟨0,ao _,rfl,by rw [cat,af];exact HO⟩
 case round =>
  obtain ⟨i,hi,rfl,I⟩:=hrel;clear c2 c3 P HO;by_cases hlt:i<n
  ·have h1:(i:Int)<n:=by omega
   obtain ⟨d0,d1,d2⟩:=Y _ I.out.mem;obtain ⟨b,d,rfl,B⟩:=H.out _ I.out.mem i hlt;have r:xs.getD i []∈xs:=by
    rw [ag,ah (by omega),ay];exact ai _
   have O:Hid (∀ V ge,Out w V u0 (l++cat enc i) ((ge,.cells (xs.getD i []).toArray 33)::L)->Calls prog y (#[u0,.pointer (some ⟨ge,0,none⟩)]++N) V fun e G=>∃ q,e=.returned q/\Out w G q (l++cat enc (i+1)) L):=by
    intro V ge M;have:=hw i hlt ge u0 _ V M (by rw [aj];have:=jc6 enc i n hlt;omega);rwa [aa] at this
   have A:=HX.out _ r;generalize xs.getD i []=x at B A O;clear hw r H HX;obtain ⟨z,rfl⟩:=A;have d3:wr.cell? ⟨b,d+i,none⟩=some (.int .u32 z):=by have:=B 0 _ rfl;simpa using this
   have s:=I.out.add (o:=.cells #[.int .u32 z] 33) (g:=wr.heap.size) rfl;have d5:=(Y _ s.mem.sub).1;go_wp2_with fail;refine (O.out _ wr.heap.size s).mono ?_;rintro e V ⟨q,rfl,T⟩;have HH:Hid (Out w V q (l++cat enc (i+1)) L):=T;clear T O I s;go_wp2_with fail;go_roundw
   case rel=>exact ⟨i+1,by omega,by go_num,HH⟩
   case measure=>simp [intOf];omega
  ·have h1:¬((i:Int)<n):=by omega
   obtain rfl:i=n:=by omega
   go_wp2_with fail;go_ret;exact ⟨_,rfl,I.out⟩
theorem jra {σ:Type} {J:σ->World->Prop} (C:∀ s V M,J s V->Below V.heap.size V M->J s M) (u:∀ s V,J s V->Mem w V L) (bo z K kw f ks:Nat) (cw B cs:Array Value) (p p':Addr)
  (U:Option Addr) (n sc:Nat) (hn:n<=255) (hb:Nat) (P:0<n->U=some ⟨hb,0,none⟩)
  (Z:∀ V,Mem w V L->V.cell? ⟨bo,0,none⟩=some (.func (.func K) #[] #[]))
  (ci:∀ V,Mem w V L->V.cell? ⟨z,0,none⟩=some (.func (.func kw) #[] cw)/\V.cell? ⟨z,1,none⟩=some (.func (.func f) #[] B)/\V.cell? ⟨z,2,none⟩=some (.func (.func ks) #[] cs))
  (eo:∀ args V,(callFunc K args).run prog V=.ok (.enter K args) V) (ho:∀ V,Calls prog K #[.pointer (some p)] V fun e M=>e=.returned (.pointer (some p'))/\V=M)
  (er:∀ args V,(callFunc f args).run prog V=.ok (.enter f args) V)
  (dec:Nat->List Int->σ->Option (σ×List Int))
  (hr:∀ i,i<n->∀ s l a c V,J s V->Sl w a l c->Calls prog f (#[.slice a l.length c,.pointer (some ⟨hb,i*1,none⟩)]++B) V (qh w L J (dec i l s)))
  (s:σ) (l:List Int) (a:Option Addr) (c:Nat) (W:World) (h:J s W) (X:Sl w a l c) (cx:W.cell? p'=some (.slice U n sc)) :
  Calls prog 297 #[.slice a l.length c,.pointer (some p),.pointer (some ⟨bo,0,none⟩),.pointer (some ⟨z,0,none⟩)] W (qh w L J (sq dec 0 n l s)):=by
 have c0:=Z _ (u _ _ h);obtain ⟨R,S⟩:∃ R,sq dec 0 n l s=R:=⟨_,rfl⟩;rw [S];have o:Hid (∀ V,Mem w V L->V.cell? ⟨z,1,none⟩=some (.func (.func f) #[] B)):=fun V Q=>(ci V Q).2.1;have A:Hid (∀ s V,J s V->Mem w V L):=u;clear ci Z u;go_enter func297,ntmps297;go_wp2_with fail;refine (ho _).mono ?_;rintro e V ⟨rfl,rfl⟩;go_wp2_with fail
 go_loopw [0,19] (fun u0 u19 w'=>∃ (i:Nat) (s':σ) (j:List Int) (H:Option Addr) (G:Nat),i<=n/\u19=.int .i64 i/\u0=.slice H j.length G/\Hid (J s' w'/\Sl w H j G/\sq dec i (n-i) j s'=R)) (fun u0 u19 w'=>n-(intOf u19).toNat)
 case atStart=>exact ⟨0,s,l,a,c,ao _,rfl,rfl,h,X,by simpa using S⟩
 case round =>
  obtain ⟨i,s',j,H,G,hi,rfl,rfl,T⟩:=hrel;obtain ⟨F,r,d⟩:=T.out;clear c0 cx;by_cases hlt:i<n
  ·have h1:(i:Int)<n:=by omega
   obtain rfl:=P (by omega);have d1:=o.out _ (A.out _ _ F);have d2:=o.out _ (A.out _ _ F).drew;have q:Hid (∀ V,Below wr.heap.size wr V->Calls prog f (#[.slice H j.length G,.pointer (some ⟨hb,i*1,none⟩)]++B) V (qh w L J (dec i j s'))):=fun V Q=>hr i hlt s' j H G V (C _ _ _ F Q) r;rw [show n-i=(n-(i+1))+1 by omega,sq] at d;clear hr C F r S T h X;generalize j.length=m at q;simp only [Nat.mul_one] at q;cases hd:dec i j s' with
   | none =>
    rw [hd] at d q;simp only at d;subst d;have I:=q.out _ ((aB _ wr).drew);go_upto_region 5 with fail
    go_region_held3 (fun V=>V.cell? ⟨z,1,none⟩=some (.func (.func f) #[] B)) (first|assumption|exact o.out _ Y|go_keep)
     (first|(go_at_fn f;refine I.mono ?_;rintro e V ⟨rfl,Y⟩))
    clear q I;go_wp2_with fail;go_ret2;exact ⟨rfl,Y⟩
   | some x =>
    obtain ⟨N,O⟩:=x;rw [hd] at d q;simp only at d;have I:=q.out _ ((aB _ wr).drew);go_upto_region 5 with fail
    go_region_held3 (fun V=>V.cell? ⟨z,1,none⟩=some (.func (.func f) #[] B)) (first|assumption|exact o.out _ (A.out _ _ y)|go_keep)
     (first|(go_at_fn f;refine I.mono ?_;rintro e V ⟨a2,c2,rfl,D,y⟩))
    have HH:Hid (J N V/\Sl w a2 O c2/\sq dec (i+1) (n-(i+1)) O N=R):=⟨y,D,d⟩;clear q I y D d hd;go_wp2_with fail;go_roundw
    case rel=>exact ⟨i+1,N,O,a2,c2,by omega,by go_num,rfl,HH⟩
    case measure=>simp [intOf];omega
  ·have h1:¬((i:Int)<n):=by omega
   obtain rfl:i=n:=by omega
   rw [am,sq] at d;subst d;clear T;go_wp2_with fail;go_ret2;exact ⟨_,_,rfl,r,F⟩
theorem jr8 (h:Out w W v l L) (bo O N z kr ks:Nat) (Q cr cs:Array Value) (p p':Addr) (T:Value) (xs:List (List Value)) (hx:∀ x∈xs,x.length=33/\x.toArray.all (·.oneCell')=true)
  (co:∀ V,Mem w V L->V.cell? ⟨bo,0,none⟩=some (.func (.func N) #[] #[]))
  (ci:∀ V,Mem w V L->V.cell? ⟨O,0,none⟩=some (.func (.func z) #[] Q)/\V.cell? ⟨O,1,none⟩=some (.func (.func kr) #[] cr)/\V.cell? ⟨O,2,none⟩=some (.func (.func ks) #[] cs))
  (eo:∀ args V,(callFunc N args).run prog V=.ok (.enter N args) V) (ho:∀ V,Calls prog N #[.pointer (some p)] V fun e J=>e=.returned (.pointer (some p'))/\V=J)
  (ew:∀ args V,(callFunc z args).run prog V=.ok (.enter z args) V)
  (Z:∀ V,Mem w V L->V.cell? p'=some T) (f:∀ V,Mem w V L->Rw V 33 T xs) (enc:Nat->List Int)
  (hw:∀ i,i<min xs.length 255->∀ ge v l V,Out w V v l ((ge,.cells (xs.getD i []).toArray 46)::L)->l.length+(enc i).length<=1000000000->Calls prog z (#[v,.pointer (some ⟨ge,0,none⟩)]++Q) V fun e J=>∃ q,e=.returned q/\Out w J q (l++enc i) L)
  (hb:l.length+(cat enc (min xs.length 255)).length<=1000000000) :
  Calls prog 222 #[v,.pointer (some p),.pointer (some ⟨bo,0,none⟩),.pointer (some ⟨O,0,none⟩)] W fun e W'=>∃ q,e=.returned q/\Out w W' q (l++cat enc (min xs.length 255)) L:=by
 have c2:=co _ h.mem;have c3:=Z _ h.mem;obtain ⟨a,c,rfl,G,I,X,-⟩:=f _ h.mem;have S:=zh 219 (by simp) W a xs.length c G I X;obtain ⟨n,U⟩:∃ n,min xs.length 255=n:=⟨_,rfl⟩;have a0:n<=255:=by omega
 have F:n<=xs.length:=by omega
 rw [U] at S hw hb ⊢;have HO:Hid (Out w W v l L):=h;have K:Hid (∀ V,Mem w V L->∀ i,i<n->∃ b d,a=some ⟨b,d,none⟩/\V.rangeAt b (d+i*33) (xs.getD i [])):=by
  intro V P i hi;obtain ⟨a',c',e,_,_,_,hr⟩:=f V P;simp only [aw.injEq] at e;obtain ⟨rfl,-,rfl⟩:=e;rcases hr with e|⟨b,d,rfl,hc⟩
  ·rw [e] at F;simp at F;omega
  ·exact ⟨b,d,rfl,fun j u hj=>hc i (by omega) j u hj⟩
 have HX:Hid (∀ x∈xs,x.length=33/\x.toArray.all (·.oneCell')=true):=hx;clear h co Z f G I X U hx;go_enter func222,ntmps222;go_wp2_with fail;refine (ho _).mono ?_;rintro e V ⟨rfl,rfl⟩;go_wp2_with fail;refine S.mono ?_;rintro e V ⟨rfl,rfl⟩;go_wp2_with fail
 go_loopw [0,16] (fun u0 u16 w'=>∃ i:Nat,i<=n/\u16=.int .i64 i/\Hid (Out w w' u0 (l++cat enc i) L)) (fun u0 u16 w'=>n-(intOf u16).toNat)
 case atStart=>exact ⟨0,ao _,rfl,by rw [cat,af];exact HO⟩
 case round =>
  obtain ⟨i,hi,rfl,M⟩:=hrel;clear c2 c3 S HO;by_cases hlt:i<n
  ·have h1:(i:Int)<n:=by omega
   obtain ⟨d0,d1,d2⟩:=ci _ M.out.mem;obtain ⟨b,d,rfl,C⟩:=K.out _ M.out.mem i hlt;have r:xs.getD i []∈xs:=by
    rw [ag,ah (by omega),ay];exact ai _
   have R:Hid (∀ V ge,Out w V u0 (l++cat enc i) ((ge,.cells (xs.getD i []).toArray 46)::L)->Calls prog z (#[u0,.pointer (some ⟨ge,0,none⟩)]++Q) V fun e J=>∃ q,e=.returned q/\Out w J q (l++cat enc (i+1)) L):=by
    intro V ge P;have:=hw i hlt ge u0 _ V P (by rw [aj];have:=jc6 enc i n hlt;omega);rwa [aa] at this
   have B:=HX.out _ r;generalize xs.getD i []=x at C B R;clear hw r K HX;obtain ⟨A,D⟩:=B;have s:(prog.info? 46).map (·.size)=some x.length:=by rw [A];kernel_rfl
   have H:(prog.info? 46).map (·.size)=some x.toArray.size:=by rw [ak];exact s
   have y:=M.out.add (o:=.cells x.toArray 46) (g:=wr.heap.size) rfl;have d5:=(ci _ y.mem.sub).1;go_upto_region 4 with (first|(refine wpList_load_mid rfl 46 (.tmp 18) (by with_reducible rfl) b (d+i*33) (by simp [Act.eval]) x _ C underlying46 rfl s ?_)|(refine wpList_store_row rfl 46 (.tmp 8) (.tmp 19) (by with_reducible rfl) wr.heap.size x.toArray (by simp [Act.eval]) (by simp [Act.eval]) 46 (tc ten0 nilV nilV nilV).toArray (heap_alloc_new wr _) H (by rw [ak,ak,A];rfl) D ?_))
   refine j5 (fun V=>V=wr.alloc (.cells x.toArray 46)) (by exact World.setRow_alloc_new ..) ?_;rintro V rfl;go_wp2_with fail;refine (R.out _ wr.heap.size y).mono ?_;rintro e V ⟨q,rfl,Y⟩;have HH:Hid (Out w V q (l++cat enc (i+1)) L):=Y;clear Y R M y;go_wp2_with fail;go_roundw
   case rel=>exact ⟨i+1,by omega,by go_num,HH⟩
   case measure=>simp [intOf];omega
  ·have h1:¬((i:Int)<n):=by omega
   obtain rfl:i=n:=by omega
   go_wp2_with fail;go_ret;exact ⟨_,rfl,M.out⟩
theorem jrc {σ:Type} {J:σ->World->Prop} (C:∀ s V M,J s V->Below V.heap.size V M->J s M) (r:∀ s V,J s V->Mem w V L) (bo y K kw f ks:Nat) (cw B cs:Array Value) (p p':Addr)
  (U:Option Addr) (n sc:Nat) (hn:n<=255) (hb:Nat) (P:0<n->U=some ⟨hb,0,none⟩)
  (Z:∀ V,Mem w V L->V.cell? ⟨bo,0,none⟩=some (.func (.func K) #[] #[]))
  (ci:∀ V,Mem w V L->V.cell? ⟨y,0,none⟩=some (.func (.func kw) #[] cw)/\V.cell? ⟨y,1,none⟩=some (.func (.func f) #[] B)/\V.cell? ⟨y,2,none⟩=some (.func (.func ks) #[] cs))
  (eo:∀ args V,(callFunc K args).run prog V=.ok (.enter K args) V) (ho:∀ V,Calls prog K #[.pointer (some p)] V fun e M=>e=.returned (.pointer (some p'))/\V=M)
  (er:∀ args V,(callFunc f args).run prog V=.ok (.enter f args) V)
  (dec:Nat->List Int->σ->Option (σ×List Int))
  (hr:∀ i,i<n->∀ s l a c V,J s V->Sl w a l c->Calls prog f (#[.slice a l.length c,.pointer (some ⟨hb,i*33,none⟩)]++B) V (qh w L J (dec i l s)))
  (s:σ) (l:List Int) (a:Option Addr) (c:Nat) (W:World) (h:J s W) (X:Sl w a l c) (cx:W.cell? p'=some (.slice U n sc)) :
  Calls prog 223 #[.slice a l.length c,.pointer (some p),.pointer (some ⟨bo,0,none⟩),.pointer (some ⟨y,0,none⟩)] W (qh w L J (sq dec 0 n l s)):=by
 have c0:=Z _ (r _ _ h);obtain ⟨R,S⟩:∃ R,sq dec 0 n l s=R:=⟨_,rfl⟩;rw [S];have o:Hid (∀ V,Mem w V L->V.cell? ⟨y,1,none⟩=some (.func (.func f) #[] B)):=fun V Q=>(ci V Q).2.1;have A:Hid (∀ s V,J s V->Mem w V L):=r;clear ci Z r;go_enter func223,ntmps223;go_wp2_with fail;refine (ho _).mono ?_;rintro e V ⟨rfl,rfl⟩;go_wp2_with fail
 go_loopw [0,19] (fun u0 u19 w'=>∃ (i:Nat) (s':σ) (j:List Int) (H:Option Addr) (G:Nat),i<=n/\u19=.int .i64 i/\u0=.slice H j.length G/\Hid (J s' w'/\Sl w H j G/\sq dec i (n-i) j s'=R)) (fun u0 u19 w'=>n-(intOf u19).toNat)
 case atStart=>exact ⟨0,s,l,a,c,ao _,rfl,rfl,h,X,by simpa using S⟩
 case round =>
  obtain ⟨i,s',j,H,G,hi,rfl,rfl,T⟩:=hrel;obtain ⟨F,q,d⟩:=T.out;clear c0 cx;by_cases hlt:i<n
  ·have h1:(i:Int)<n:=by omega
   obtain rfl:=P (by omega);have d1:=o.out _ (A.out _ _ F);have d2:=o.out _ (A.out _ _ F).drew;have z:Hid (∀ V,Below wr.heap.size wr V->Calls prog f (#[.slice H j.length G,.pointer (some ⟨hb,i*33,none⟩)]++B) V (qh w L J (dec i j s'))):=fun V Q=>hr i hlt s' j H G V (C _ _ _ F Q) q;rw [show n-i=(n-(i+1))+1 by omega,sq] at d;clear hr C F q S T h X;generalize j.length=m at z;cases hd:dec i j s' with
   | none =>
    rw [hd] at d z;simp only at d;subst d;have I:=z.out _ ((aB _ wr).drew);go_upto_region 5 with fail
    go_region_held3 (fun V=>V.cell? ⟨y,1,none⟩=some (.func (.func f) #[] B)) (first|assumption|exact o.out _ Y|go_keep)
     (first|(go_at_fn f;refine I.mono ?_;rintro e V ⟨rfl,Y⟩))
    clear z I;go_wp2_with fail;go_ret2;exact ⟨rfl,Y⟩
   | some x =>
    obtain ⟨N,O⟩:=x;rw [hd] at d z;simp only at d;have I:=z.out _ ((aB _ wr).drew);go_upto_region 5 with fail
    go_region_held3 (fun V=>V.cell? ⟨y,1,none⟩=some (.func (.func f) #[] B)) (first|assumption|exact o.out _ (A.out _ _ u)|go_keep)
     (first|(go_at_fn f;refine I.mono ?_;rintro e V ⟨a2,c2,rfl,D,u⟩))
    have HH:Hid (J N V/\Sl w a2 O c2/\sq dec (i+1) (n-(i+1)) O N=R):=⟨u,D,d⟩;clear z I u D d hd;go_wp2_with fail;go_roundw
    case rel=>exact ⟨i+1,N,O,a2,c2,by omega,by go_num,rfl,HH⟩
    case measure=>simp [intOf];omega
  ·have h1:¬((i:Int)<n):=by omega
   obtain rfl:i=n:=by omega
   rw [am,sq] at d;subst d;clear T;go_wp2_with fail;go_ret2;exact ⟨_,_,rfl,q,F⟩
def j4c (cb:Nat):Fv:=⟨318,319,320,#[.pointer (some ⟨cb,0,none⟩)],#[.pointer (some ⟨cb,0,none⟩)],#[.pointer (some ⟨cb,0,none⟩)]⟩
theorem jkf {α ρ:Type} {I:Rp α ρ} {J:St' α} (B lb n:Nat) (d:List Fv) (ss:List (Sp α)) (O:d.length=n) (u:n<=1000)
  (N:(B,.cells #[.slice (some ⟨lb,0,none⟩) n n] 338)∈L) (D:(lb,.cells (d.flatMap Fv.cells).toArray 315)∈L)
  (o:FdAll w L I J d ss) (F:∀ x g T e post V C K,J w x g T e post V K->Below V.heap.size V C->J w x g T e post C K) (A:∀ x g T e post V K,J w x g T e post V K->Mem w V K) :
  Fd w L I J (j4c B) (j0j ss):=by
 have q:ss.length=n:=by rw [<-o.len];exact O
 have p:∀ K,Sub L K->∀ V,Mem w V K->V.cell? ⟨B,0,none⟩=some (.slice (some ⟨lb,0,none⟩) n n):=fun K j V z=>by rw [ja z (j _ N)];rfl
 have f:∀ K,Sub L K->∀ V,Mem w V K->∀ i,i<n->V.cell? ⟨lb,i*3,none⟩=some (.func (.func (d.getD i fv0).kw) #[] (d.getD i fv0).cw) /\
   V.cell? ⟨lb,i*3+1,none⟩=some (.func (.func (d.getD i fv0).kr) #[] (d.getD i fv0).cr)/\V.cell? ⟨lb,i*3+2,none⟩=some (.func (.func (d.getD i fv0).ks) #[] (d.getD i fv0).cs):=by
  intro K j V z i hi;obtain ⟨U,S,R⟩:=flat_get d i (by omega);refine ⟨?_,?_,?_⟩
  ·rw [ja z (j _ D)];simpa using U
  ·rw [ja z (j _ D)];simpa using S
  ·rw [ja z (j _ D)];simpa using R
 refine ⟨enters_of func318 (by kernel_rfl) rfl,enters_of func319 (by kernel_rfl) rfl,enters_of func320 (by kernel_rfl) rfl,?_,?_⟩
 ·intro K j x r g s hx v l V Q hb;have:=jpf 318 (by simp) (H:=fun v l V=>Out w V v l K) (fun v l V C h M=>h.after M) ⟨g,s,none⟩ B lb n u (fun i=>(d.getD i fv0).kw) (fun i=>(d.getD i fv0).kr) (fun i=>(d.getD i fv0).ks) (fun i=>(d.getD i fv0).cw) (fun i=>(d.getD i fv0).cr) (fun i=>(d.getD i fv0).cs)
   (fun v l V h=>p K j V h.mem) (fun v l V h=>f K j V h.mem) (fun i=>(ss.getD i sp0).enc x) (fun i hi=>(o.at_ i (by omega)).ew) (fun i hi v l V h hb=>(o.at_ i (by omega)).wr K j x r g s hx v l V h hb) v l V Q (by simp only [j0j,q] at hb;exact hb)
  simp only [j0j,q];exact this
 ·intro K j x g T e post a l c V P G;have:=jpg 319 (by simp) (w:=w) (L:=K) (J:=fun y V=>J w y g T e post V K) (fun y V C h M=>F y g T e post V C K h M) ⟨g,e.length,none⟩ B lb n u (fun i=>(d.getD i fv0).kw) (fun i=>(d.getD i fv0).kr) (fun i=>(d.getD i fv0).ks) (fun i=>(d.getD i fv0).cw) (fun i=>(d.getD i fv0).cr) (fun i=>(d.getD i fv0).cs)
   (fun y V h=>p K j V (A _ _ _ _ _ _ _ h)) (fun y V h=>f K j V (A _ _ _ _ _ _ _ h)) (fun i=>(ss.getD i sp0).dec) (fun i hi=>(o.at_ i (by omega)).er) (fun i hi y l a c V h G=>(o.at_ i (by omega)).rd K j y g T e post a l c V h G) x l a c V P G
  simp only [j0j,q];exact this
theorem jjl (h:Mem w W L) (lb n:Nat) :
  Calls prog 308 #[.slice (some ⟨lb,0,none⟩) n n] W fun e o=>∃ i,e=.returned (j4c i).val/\Mem w o ((i,.cells #[.slice (some ⟨lb,0,none⟩) n n] 338)::L):=by
 have d:Mem w (W.alloc (.cells #[.slice (some ⟨lb,0,none⟩) n n] 338)) ((W.heap.size,.cells #[.slice (some ⟨lb,0,none⟩) n n] 338)::L):=(h.push W.heap.size (.cells #[.slice (some ⟨lb,0,none⟩) n n] 338) rfl).perm al;have j:∀ (f:Fn) (first cap:Array Value) (w:World),(aD f first cap).run prog w=.ok (.func f first cap) w:=fun _ _ _ _=>rfl;have q:Hid (Mem w (W.alloc (.cells #[.slice (some ⟨lb,0,none⟩) n n] 338)) ((W.heap.size,.cells #[.slice (some ⟨lb,0,none⟩) n n] 338)::L)):=d;clear d h;go_enter func308,ntmps308;go_wp2_with fail;refine bodyPost_ret (v:=(j4c W.heap.size).val) ?_ rfl ⟨_,rfl,q.out.after ((aB _ _).alloc (ap _) _)⟩;exact results_cell_row (p:=2) (ty:=315) rfl _ _ (W.heap.size+1) 315 _ (0,0) _ rfl (heap_alloc2_new _ _ _) underlying315 rfl (by kernel_rfl)
def j6m (bs bo:Nat):Fv:=⟨285,286,287,#[.pointer (some ⟨bs,0,none⟩),.pointer (some ⟨bo,0,none⟩)],#[.pointer (some ⟨bs,0,none⟩),.pointer (some ⟨bo,0,none⟩)],#[.pointer (some ⟨bo,0,none⟩)]⟩
theorem j4g {α ρ:Type} {I:Rp α ρ} {J:St' α} (bs C sz j o:Nat) (hs:sz<=4) (u:∀ q,0<=q->q<256 ^ sz->aq.wrap q=q) (z:α->Int) (F:α->Int->α)
  (mb:(bs,.cells #[.int .i64 sz] 3)∈L) (G:(C,.cells #[.func (.func j) #[] #[]] 300)∈L)
  (N:Ent j) (H:∀ V g f,Calls prog j #[.pointer (some ⟨g,f,none⟩)] V fun e i=>e=.returned (.pointer (some ⟨g,f+o,none⟩))/\V=i)
  (X:∀ x r V g f,I x r V g f->V.cell? ⟨g,f+o,none⟩=some (.int .i64 (z x)))
  (U:∀ x g T d post V K,J w x g T d post V K->∃ A M,Lens w J o x g T d post V K M A/\A[d.length+o]?=some (.int .i64 (z x)) /\
   ∀ y i,Mem w i ((g,.cells (A.setIfInBounds (d.length+o) (.int .i64 y)) T (0,0))::M)->J w (F x y) g T d post i K) :
  Fd w L I J (j6m bs C) (jz sz z F):=by
 refine ⟨enters_of func285 (by kernel_rfl) rfl,enters_of func286 (by kernel_rfl) rfl,enters_of func287 (by kernel_rfl) rfl,?_,?_⟩
 ·intro K s x r g f hx v l V S hb;have D:l.length+sz<=1000000000:=by simpa [jz,jr] using hb
  have:=jqt S bs C sz j ⟨g,f,none⟩ ⟨g,f+o,none⟩ (z x) (by omega) (fun V h=>by rw [ja h (s _ mb)];rfl) (fun V h=>by rw [ja h (s _ G)];rfl) N (fun V=>H V g f) (fun V h=>X _ _ _ _ _ (hx V h)) D;rw [j2k sz (by omega)] at this;exact this
 ·intro K s x g T d post a l c V P Q;obtain ⟨A,M,B,Y,p⟩:=U x g T d post V K P;have:=jqv B.mem Q bs C sz j (d.length+o) ⟨g,d.length,none⟩ (z x) hs u Y (fun V h=>by rw [ja h (B.sub _ (s _ mb))];rfl) (fun V h=>by rw [ja h (B.sub _ (s _ G))];rfl) N (fun V=>H V g d.length);refine this.mono ?_;intro e i R;refine R.mono (F x) ?_ (B.back i) (fun y O=>p y i O);simp only [jz];split<;>rfl
theorem j43 (h:Mem w W L) (sz d:Nat) :
  Calls prog 243 #[.int .i64 sz,.func (.func d) #[] #[]] W fun e r=>∃ bs j,e=.returned (j6m bs j).val/\Mem w r ((bs,.cells #[.int .i64 sz] 3)::(j,.cells #[.func (.func d) #[] #[]] 300)::L):=by
 have f:Mem w ((W.alloc (.cells #[.int .i64 sz] 3)).alloc (.cells #[.func (.func d) #[] #[]] 300)) ((W.heap.size,.cells #[.int .i64 sz] 3)::(W.heap.size+1,.cells #[.func (.func d) #[] #[]] 300)::L):=by
  have q:=(h.push W.heap.size (.cells #[.int .i64 sz] 3) rfl).push (W.heap.size+1) (.cells #[.func (.func d) #[] #[]] 300) (by simp);refine q.perm ?_;rw [aa];exact al
 have o:∀ (i:Fn) (first cap:Array Value) (w:World),(aD i first cap).run prog w=.ok (.func i first cap) w:=fun _ _ _ _=>rfl;have s:Hid (Mem w ((W.alloc (.cells #[.int .i64 sz] 3)).alloc (.cells #[.func (.func d) #[] #[]] 300)) ((W.heap.size,.cells #[.int .i64 sz] 3)::(W.heap.size+1,.cells #[.func (.func d) #[] #[]] 300)::L)):=f;clear f h;go_enter func243,ntmps243;go_wp2_with fail;refine bodyPost_ret (v:=(j6m W.heap.size (W.heap.size+1)).val) ?_ rfl ⟨_,_,rfl,s.out.after ((aB _ _).alloc (ap _) _)⟩;exact results_cell_row (p:=4) (ty:=246) rfl _ _ (W.heap.size+1+1) 246 _ (0,0) _ rfl (jn _ _ _ _) underlying246 rfl (by kernel_rfl)
def ja4 (bo:Nat):Fv:=⟨214,215,216,#[.pointer (some ⟨bo,0,none⟩)],#[.pointer (some ⟨bo,0,none⟩)],#[.pointer (some ⟨bo,0,none⟩)]⟩
theorem j3b {α ρ:Type} {I:Rp α ρ} {J:St' α} (z n j o:Nat) (Q:n<=8) (B:0<n) (u:α->List Int) (D:α->List Int->α)
  (F:(z,.cells #[.func (.func j) #[] #[]] 239)∈L)
  (P:Ent j) (G:∀ V g f,Calls prog j #[.pointer (some ⟨g,f,none⟩)] V fun e h=>e=.returned (.slice (some ⟨g,f+o,none⟩) n n)/\V=h)
  (O:∀ x r V g f,I x r V g f->(u x).length=n/\Row V (some ⟨g,f+o,none⟩) (u x))
  (X:∀ x g T d post V K,J w x g T d post V K->∃ A M,Lens w J o x g T d post V K M A/\d.length+o+n<=A.size /\
   ∀ y h,y.length=n->j6 y->Mem w h ((g,.cells (spl A (d.length+o) y) T (0,0))::M)->J w (D x y) g T d post h K) :
  Fd w L I J (ja4 z) (j18 n u D):=by
 refine ⟨enters_of func214 (by kernel_rfl) rfl,enters_of func215 (by kernel_rfl) rfl,enters_of func216 (by kernel_rfl) rfl,?_,?_⟩
 ·intro K C x r g f hx v l V N hb;obtain ⟨i,-⟩:=O _ _ _ _ _ (hx V N.mem);exact jqn 214 (by simp) N z j n ⟨g,f,none⟩ ⟨g,f+o,none⟩ (u x) i (fun V s=>by rw [ja s (C _ F)];rfl) P (fun V=>G V g f) (fun V s=>(O _ _ _ _ _ (hx V s)).2) (by rw [<-i];exact hb)
 ·intro K C x g T d post a l c V S H;obtain ⟨A,M,i,Y,q⟩:=X x g T d post V K S;have:=jqp 215 (by simp) i.mem H z n j (d.length+o) ⟨g,d.length,none⟩ Q B Y (fun V s=>by rw [ja s (i.sub _ (C _ F))];rfl) P (fun V=>G V g d.length);refine this.mono ?_;intro e h U;refine U.mono2 (D x) ?_ (i.back h) (fun y Z p R=>?_)
  ·simp only [j18];split<;>rfl
  ·by_cases hlt:l.length<n
   ·rw [if_pos hlt] at p;cases p
   ·rw [if_neg hlt] at p;simp only [ax.injEq,Prod.mk.injEq] at p;obtain ⟨rfl,rfl⟩:=p;exact q _ h (by rw [List.length_take];omega) (j0e H.row.bytes n) R
theorem j34 (h:Mem w W L) (d:Nat) :
  Calls prog 152 #[.func (.func d) #[] #[]] W fun e q=>∃ j,e=.returned (ja4 j).val/\Mem w q ((j,.cells #[.func (.func d) #[] #[]] 239)::L):=by
 have f:Mem w (W.alloc (.cells #[.func (.func d) #[] #[]] 239)) ((W.heap.size,.cells #[.func (.func d) #[] #[]] 239)::L):=(h.push W.heap.size (.cells #[.func (.func d) #[] #[]] 239) rfl).perm al;have o:∀ (i:Fn) (first cap:Array Value) (w:World),(aD i first cap).run prog w=.ok (.func i first cap) w:=fun _ _ _ _=>rfl;have r:Hid (Mem w (W.alloc (.cells #[.func (.func d) #[] #[]] 239)) ((W.heap.size,.cells #[.func (.func d) #[] #[]] 239)::L)):=f;clear f h;go_enter func152,ntmps152;go_wp2_with fail;refine bodyPost_ret (v:=(ja4 W.heap.size).val) ?_ rfl ⟨_,rfl,r.out.after ((aB _ _).alloc (ap _) _)⟩;exact results_cell_row (p:=2) (ty:=189) rfl _ _ (W.heap.size+1) 189 _ (0,0) _ rfl (heap_alloc2_new _ _ _) underlying189 rfl (by kernel_rfl)
def j4d (cb:Nat):Fv:=⟨205,206,207,#[.pointer (some ⟨cb,0,none⟩)],#[.pointer (some ⟨cb,0,none⟩)],#[.pointer (some ⟨cb,0,none⟩)]⟩
theorem jjm (h:Mem w W L) (lb n:Nat) :
  Calls prog 149 #[.slice (some ⟨lb,0,none⟩) n n] W fun e o=>∃ i,e=.returned (j4d i).val/\Mem w o ((i,.cells #[.slice (some ⟨lb,0,none⟩) n n] 248)::L):=by
 have d:Mem w (W.alloc (.cells #[.slice (some ⟨lb,0,none⟩) n n] 248)) ((W.heap.size,.cells #[.slice (some ⟨lb,0,none⟩) n n] 248)::L):=(h.push W.heap.size (.cells #[.slice (some ⟨lb,0,none⟩) n n] 248) rfl).perm al;have j:∀ (f:Fn) (first cap:Array Value) (w:World),(aD f first cap).run prog w=.ok (.func f first cap) w:=fun _ _ _ _=>rfl;have q:Hid (Mem w (W.alloc (.cells #[.slice (some ⟨lb,0,none⟩) n n] 248)) ((W.heap.size,.cells #[.slice (some ⟨lb,0,none⟩) n n] 248)::L)):=d;clear d h;go_enter func149,ntmps149;go_wp2_with fail;refine bodyPost_ret (v:=(j4d W.heap.size).val) ?_ rfl ⟨_,rfl,q.out.after ((aB _ _).alloc (ap _) _)⟩;exact results_cell_row (p:=2) (ty:=189) rfl _ _ (W.heap.size+1) 189 _ (0,0) _ rfl (heap_alloc2_new _ _ _) underlying189 rfl (by kernel_rfl)
end
end Go.Proofs.YtdigofgjhaakmaaGreatDoor
