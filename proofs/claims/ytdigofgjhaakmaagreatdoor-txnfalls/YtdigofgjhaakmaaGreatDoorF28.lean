/- Parts of the proof. -/
import Derived.Test.YtdigofgjhaakmaaGreatDoorF27
set_option linter.all false
set_option maxHeartbeats 40000000
set_option maxRecDepth 20000
open Go.Proofs.Tryz
open List renaming getElem?_toArray->aa,getD->ab,getElem?_eq_getElem->ac
open Nat renaming le_refl->ae,zero_le->af,lt_or_ge->ag
open Bool renaming beq_comm->ah
open Or renaming inl->ai,inr->aj
open Go renaming below_drewN->ak
namespace Go.Proofs.YtdigofgjhaakmaaGreatDoor
variable {es l:List Int} {v u:Value} {w V W w':World} {c cs:Array Value} {k g ga i:Nat} {e ver:Int}
section
open Go.RowKit Sm Cf
abbrev stS:TypeId:=96
def jt (ver:Int) (c:Cgf):List Int:=be 8 ver++cenc c
theorem jc5 (c:Cgf) (d:CLen c) (b:∀ t∈c.ten,TLen t):0<(cenc c).length:=by
 rcases Nat.eq_zero_or_pos (cenc c).length with h|h
 ·have a:=j8m c d b;rw [List.length_eq_zero_iff.mp h] at a;exact absurd a (by simp only [show cdec []=none by kernel_rfl];exact nofun)
 ·exact h
theorem jcx {c:Cgf} (h:CV w (.agg (cc c u).toArray) c) (hi:CIn c) (G:∀ t∈c.ten,TIn t) (T:0<=ver/\ver<18446744073709551616) (hb:(cenc c).length<=100000000) :
 Calls prog 61 #[.agg (.int .u64 ver::cc c u).toArray] w fun e w'=>∃ v,e=.returned v/\Out w w' v (jt ver c) []:=by
 obtain ⟨g,P⟩:∃ g,w.heap.size=g:=⟨_,rfl⟩;have H:=jc5 c hi.len (fun t h=>(G t h).len);obtain ⟨A,E⟩:∃ A,(Value.int .u64 ver::cc c u).toArray=A:=⟨_,rfl⟩;have B:Mem w (w.alloc (.cells A stS)) [(g,.cells A stS (0,0))]:=(Mem.nil w).push1 P.symm;have J:Hid (Out w (w.alloc (.cells A stS)) (.slice none 0 0) [] [(g,.cells A stS (0,0))]):=Out.nil B;have d:Hid (∀ V v l,Out w V v l [(g,.cells A stS (0,0))]->V.cell? ⟨g,0,none⟩=some (.int .u64 ver)/\V.rangeAt g 1 (cc c u)):=by
  intro V v l b;have I:=b.mem;refine ⟨by rw [I.cell 0 rfl,<-E];rfl,fun j x O=>?_⟩;rw [I.cell 0 rfl,<-E,aa,Nat.add_comm,List.getElem?_cons_succ];exact O
 have o:Hid (∀ V,Below w.heap.size w V->Calls prog 88 #[.agg (cc c u).toArray] V fun e w'=>∃ u,e=.returned u/\Out V w' u (cenc c) []):=fun V Q=>j71 (h.at_ Q (ae _)) hi G (by omega);have s:(prog.info? 39).map (·.size)=some (cc c u).length:=by rw [je hi.len];kernel_rfl
 rw [E];clear h hi G B E;generalize cc c u=cl at *;go_enter func61,ntmps61;go_wp2_with fail
 go_loopw [3,5] (fun u3 u5 w'=>∃ i:Nat,i<=8/\u5=.int .i64 i/\Hid (Out w w' u3 ((be 8 ver).take i) [(g,.cells A stS (0,0))])) (fun u3 u5 w'=>8-(intOf u5).toNat)
 case atStart=>exact ⟨0,af _,rfl,by simpa using J⟩
 case round =>
  obtain ⟨i,hi,rfl,F⟩:=hrel;clear J;by_cases hlt:i<8
  ·have R:(i:Int)<8:=by omega
   obtain ⟨k,N⟩:∃ k:Nat,8-1-i=k:=⟨_,rfl⟩;have Y:IntKind.i64.wrap (7-(i:Int))=(k:Int):=by rw [qk (by omega) (by omega)];omega
   have X:IntKind.i64.wrap (8*(k:Int))=8*(k:Int):=qk (by omega) (by omega);have U:¬(8*(k:Int)<0):=by omega
   have q:(be 8 ver).take (i+1)=(be 8 ver).take i++[ver / 2 ^ (8*k) % 256]:=by rw [jag 8 ver i hlt,N,pow8]
   have f:((be 8 ver).take i).length+1<=1000000000:=by rw [List.length_take,jr];omega
   have Z:=(d.out _ _ _ F.out).1;obtain ⟨S,W1,hr,z⟩:=j1b F.out (ver / 2 ^ (8*k) % 256) (ya _) f 86;rw [<-q] at z;clear q f d o;go_wp2_with (at_builtin;refine wpList_append_run (.tmp 8) (.tmp 16) 86 86 (by with_reducible rfl) hr rfl rfl (by simp [Act.eval]) (by simp [Act.eval]) ?_)
   go_roundw
   case rel=>exact ⟨i+1,by omega,by go_num,z⟩
   case measure=>simp [intOf];omega
  ·have R:¬((i:Int)<8):=by omega
   obtain rfl:i=8:=by omega
   have b:=F.out;rw [List.take_of_length_le (by rw [jr];omega)] at b;have r:=(d.out _ _ _ b).2;have C:=o.out _ b.mem.below;have K:Hid (∀ V u,Out wr V u (cenc c) []->∃ a n m p D,u=.slice a n m/\(Builtin.append_ #[86,86] 86 #[u3,.slice a n m]).run prog V=.ok p D/\Out w D p (jt ver c) []):=by
    intro V u y;obtain ⟨a,m,rfl,hs⟩:=y.sl (by omega);obtain ⟨ad,rfl⟩:∃ ad,a=some ad:=by
     cases a with
     | none=>have:=hs.nil rfl;have:=hs.le;omega
     | some ad=>exact ⟨ad,rfl⟩
    obtain ⟨p,D,M,L⟩:=qq (b.drop.after y.mem.below) ad (cenc c).length m (cenc c) rfl hs.row (by rw [jr];omega) 86;exact ⟨_,_,_,p,D,rfl,M,L⟩
   clear b F d o;go_wp2_with (refine wpList_load_mid rfl 39 (.tmp 20) (by with_reducible rfl) g 1 (by simp [Act.eval]) cl _ r underlying39 rfl s ?_)
   refine C.mono ?_;rintro e V ⟨u,rfl,y⟩;obtain ⟨a,n,m,p,D,rfl,hr,b⟩:=K.out V u y;clear K C y r;go_wp2_with (at_builtin;refine wpList_append_run (.tmp 19) (.tmp 22) 86 86 (by with_reducible rfl) hr rfl rfl (by simp [Act.eval]) (by simp [Act.eval]) ?_)
   go_ret;exact ⟨_,rfl,b⟩
end
section
open Go.RowKit Va
theorem jja (t:Ten) (x:Int):owns t x=(t.stat.any (fun p=>p.2==x) || hs t.pool x):=by
 have e:hs t.pool x=t.pool.any (fun y=>y==x):=by
  unfold hs;congr 1;funext y;exact ah
 unfold owns ow1;rw [e,Bool.or_comm]
theorem j9k (h:Rw w 1 v (ux l)) (hb:l.length<=1000000) (x:Int) :
  Calls prog 91 #[v,.int .u32 x] w fun e w'=>e=.returned (.bool (hs l x))/\w=w':=by
 obtain ⟨a,c,rfl,D,E,hx⟩:=rw_u h;have r:Hid (∀ i,i<l.length->∃ b f,a=some ⟨b,f,none⟩/\w.cell? ⟨b,f+i,none⟩=some (.int .u32 (l.getD i 0))):=by
  intro i hi;obtain ⟨b,f,C,F⟩:=hx i hi;exact ⟨b,f,C,F _ (Below.refl _ _)⟩
 have q:Hid (∀ i,i<l.length->(l.getD i 0==x)=true->hs l x=true):=fun i hi B=>j2l (d:=0) hi (by rw [ah];exact B);have t:Hid (∀ i,i<l.length->hs (l.take i) x=false->(l.getD i 0==x)=false->hs (l.take (i+1)) x=false):=fun i hi j B=>j5j (d:=0) j hi (by rw [ah];exact B);have z:Hid (hs (l.take l.length) x=false->hs l x=false):=j2m;have A:Hid (hs (l.take 0) x=false):=rfl;clear h hx;generalize l.length=n at *;go_enter func91,ntmps91;go_wp2_with fail
 go_loopw [5] (fun u5 w'=>∃ i:Nat,i<=n/\u5=.int .i64 i/\Hid (hs (l.take i) x=false/\w=w')) (fun u5 w'=>n-(intOf u5).toNat)
 case atStart=>exact ⟨0,af _,rfl,A.out,rfl⟩
 case round =>
  obtain ⟨i,hi,rfl,s⟩:=hrel;obtain ⟨j,rfl⟩:=s.out;by_cases hlt:i<n
  ·have C:(i:Int)<n:=by omega
   obtain ⟨b,f,rfl,G⟩:=r.out i hlt;have m:=q.out i hlt;have o:=t.out i hlt j;generalize l.getD i 0=y at *;cases hxy:(y==x) with
   | true =>
    have p:Hid (hs l x=true):=m hxy;clear m o r q t z A s j;go_wp2_with fail;go_ret;exact ⟨by rw [p.out];rfl,rfl⟩
   | false =>
    have p:Hid (hs (l.take (i+1)) x=false/\True):=⟨o hxy,trivial⟩;clear m o r q t z A s j;go_wp2_with fail;go_roundw
    case rel=>exact ⟨i+1,by omega,by go_num,p⟩
    case measure=>simp [intOf];omega
  ·have C:¬((i:Int)<n):=by omega
   obtain rfl:i=n:=by omega
   have p:Hid (hs l x=false):=z.out j;clear r q t z A s j;go_wp2_with fail;go_ret;exact ⟨by rw [p.out];rfl,rfl⟩
theorem j7o {t:Ten} (h:TV w v t) (E:TSm t) (x:Int) :
  Calls prog 65 #[v,.int .u32 x] w fun e w'=>e=.returned (.bool (owns t x))/\Below w.heap.size w w':=by
 rw [jja];obtain ⟨z,Q,O,qa,P,sc,qc,rfl,hx⟩:=h.tb;obtain ⟨g,F⟩:∃ g,w.heap.size=g:=⟨_,rfl⟩;have q:Hid (Mem w (w.alloc (.cells z.toArray 46)) [(g,.cells z.toArray 46)]):=(Mem.nil w).push1 F.symm;obtain ⟨U,T,e,-,-,r⟩:=rw_p hx.rs;simp only [Value.slice.injEq] at e;obtain ⟨rfl,-,rfl⟩:=e;have D:Hid (∀ X,Mem w X [(g,.cells z.toArray 46)]->X.cell? ⟨g,27,none⟩=some (.slice O t.stat.length sc)/\X.cell? ⟨g,23,none⟩=some (.slice Q t.pool.length P)/\(∀ i,i<t.stat.length->∃ b f,O=some ⟨b,f,none⟩/\X.cell? ⟨b,f+i*2+1,none⟩=some (.int .u32 (t.stat.getD i (0,0)).2))/\Calls prog 91 #[.slice Q t.pool.length P,.int .u32 x] X fun e w'=>e=.returned (.bool (hs t.pool x))/\X=w'):=by
  intro X B;refine ⟨jb (B.get 0 rfl) hx.stat,jb (B.get 0 rfl) hx.pool,fun i hi=>?_,j9k (hx.later B.below).rp E.2.1 x⟩;obtain ⟨b,f,H,Y⟩:=r i hi;exact ⟨b,f,H,(Y X B.below).2⟩
 have J:Hid (∀ i,i<t.stat.length->((t.stat.getD i (0,0)).2==x)=true->t.stat.any (fun p=>p.2==x)=true):=fun i hi G=>j2l (d:=(0,0)) hi G;have K:Hid (∀ i,i<t.stat.length->(t.stat.take i).any (fun p=>p.2==x)=false->((t.stat.getD i (0,0)).2==x)=false->(t.stat.take (i+1)).any (fun p=>p.2==x)=false):=fun i hi Z G=>j5j (d:=(0,0)) Z hi G;have M:Hid ((t.stat.take t.stat.length).any (fun p=>p.2==x)=false->t.stat.any (fun p=>p.2==x)=false):=j2m;have N:Hid ((t.stat.take 0).any (fun p=>p.2==x)=false):=rfl;have hN:t.stat.length<=1000000:=E.2.2.1;clear h E hx r;obtain ⟨A,S⟩:∃ A,z.toArray=A:=⟨_,rfl⟩;rw [S] at q D ⊢;clear S;generalize hs t.pool x=B2 at *;generalize t.pool.length=n1 at *;generalize t.stat.length=n at *;generalize t.stat.any (fun p=>p.2==x)=B1 at *;go_enter func65,ntmps65;go_upto_region 1 with fail;refine j5 (fun X=>Mem w X [(g,.cells A 46)]) (by exact q.out) ?_;intro V R
 try simp only [F]
 clear q F;have L:Hid (Mem w V [(g,.cells A 46)]):=R;clear R;go_wp2_with fail
 go_loopw [5] (fun u5 w'=>∃ i:Nat,i<=n/\u5=.int .i64 i/\Hid ((t.stat.take i).any (fun p=>p.2==x)=false/\Mem w w' [(g,.cells A 46)])) (fun u5 w'=>n-(intOf u5).toNat)
 case atStart=>exact ⟨0,af _,rfl,N.out,L.out⟩
 case round =>
  obtain ⟨i,hi,rfl,m⟩:=hrel;obtain ⟨a0,I,a,C⟩:=D.out _ m.out.2;by_cases hlt:i<n
  ·have H:(i:Int)<n:=by omega
   obtain ⟨b,f,rfl,d0⟩:=a i hlt;have j:=J.out i hlt;have o:=K.out i hlt m.out.1;have s:Hid (Mem w wr [(g,.cells A 46)]):=m.out.2;clear a C D J K M N L m I;generalize (t.stat.getD i (0,0)).2=y at *;cases hxy:(y==x) with
   | true =>
    obtain rfl:=j hxy;clear j o;go_wp2_with fail;go_ret;exact ⟨rfl,s.out.below⟩
   | false =>
    have HF:Hid ((t.stat.take (i+1)).any (fun p=>p.2==x)=false/\Mem w wr [(g,.cells A 46)]):=⟨o hxy,s.out⟩;clear j o s;go_wp2_with fail;go_roundw
    case rel=>exact ⟨i+1,by omega,by go_num,HF⟩
    case measure=>simp [intOf];omega
  ·have H:¬((i:Int)<n):=by omega
   obtain rfl:i=n:=by omega
   obtain rfl:=M.out m.out.1;have s:Hid (Mem w wr [(g,.cells A 46)]):=m.out.2;clear a D J K M N L m;go_wp2_with fail;refine C.mono ?_;rintro _ _ ⟨rfl,rfl⟩;go_wp2_with fail;go_ret;exact ⟨by simp,s.out.below⟩
namespace Va
def pok (l:List (Int×Int)) (i:Nat):Prop:=(l.getD i (0,0)).1≠0/\(l.getD i (0,0)).2≠0/\∀ k,k<i->(l.getD k (0,0)).1≠(l.getD i (0,0)).1/\(l.getD k (0,0)).2≠(l.getD i (0,0)).2
theorem jai {α:Type} {f:α->Int} {d:α} {l:List α} (hi:i<l.length):bad (l.map f) i ↔ (f (l.getD i d)=0\/∃ k,k<i/\f (l.getD k d)=f (l.getD i d)):=by
 have e:∀ j,j<l.length->(l.map f).getD j 0=f (l.getD j d):=fun j m=>by simp [ab,ac m]
 unfold bad;rw [e i hi,jgl];constructor
 ·rintro (h|h)
  ·exact ai h
  ·right;obtain ⟨k,b,o⟩:=List.mem_iff_getElem.mp h;have a:k<i:=by simp at b;omega
   refine ⟨k,a,?_⟩;rw [<-o,<-e k (by omega)];simp [ab];rw [ac (by omega)];rfl
 ·rintro (h|⟨k,b,h⟩)
  ·exact ai h
  ·right;rw [<-h,<-e k (by omega)];rw [show (l.map f).getD k 0=((l.map f).take i)[k]'(by simp;omega) by simp [ab];rw [ac (by omega)];rfl];exact List.getElem_mem _
theorem jef (l:List (Int×Int)):(unl (fst' l) && unl (snd' l))=true ↔ ∀ i,i<l.length->pok l i:=by
 unfold unl fst' snd';rw [Bool.and_eq_true,decide_eq_true_eq,decide_eq_true_eq];simp only [List.length_map];constructor
 ·rintro ⟨m,j⟩ i hi;have f:=m i hi;have b:=j i hi;rw [jai (d:=(0,0)) hi] at f b;exact ⟨fun e=>f (ai e),fun e=>b (ai e),fun k a=>⟨fun e=>f (aj ⟨k,a,e⟩),fun e=>b (aj ⟨k,a,e⟩)⟩⟩
 ·intro h;refine ⟨fun i hi=>?_,fun i hi=>?_⟩
  ·rw [jai (d:=(0,0)) hi];rintro (e|⟨k,a,e⟩)
   ·exact (h i hi).1 e
   ·exact ((h i hi).2.2 k a).1 e
  ·rw [jai (d:=(0,0)) hi];rintro (e|⟨k,a,e⟩)
   ·exact (h i hi).2.1 e
   ·exact ((h i hi).2.2 k a).2 e
end Va
theorem j55 {l:List (Int×Int)} (h:Rw w 2 v (px l)) (hb:l.length<=1000000) :
  Calls prog 92 #[v] w fun e w'=>e=.returned (.bool (!(unl (fst' l) && unl (snd' l))))/\Below w.heap.size w w':=by
 obtain ⟨a,c,rfl,a0,a1,hx⟩:=rw_p h;have r:Hid (∀ i,i<l.length->∃ b f,a=some ⟨b,f,none⟩/\∀ V,Below w.heap.size w V->V.cell? ⟨b,f+i*2,none⟩=some (.int .u32 (l.getD i (0,0)).1)/\V.cell? ⟨b,f+i*2+1,none⟩=some (.int .u32 (l.getD i (0,0)).2)):=hx;obtain ⟨R,D⟩:∃ R,(!(unl (fst' l) && unl (snd' l)))=R:=⟨_,rfl⟩;rw [D];have L:Hid (∀ i,i<l.length->¬pok l i->R=true):=by
  intro i hi Z;rw [<-D,Bool.not_eq_true',Bool.eq_false_iff];exact fun e=>Z ((jef l).mp e i hi)
 have O:Hid ((∀ j,j<l.length->pok l j)->R=false):=by
  intro h;rw [<-D,(jef l).mpr h];rfl
 have Q:Hid ((∀ j,j<0->pok l j)/\Below w.heap.size w w):=⟨fun j K=>absurd K (by omega),Below.refl _ _⟩;clear h hx D;generalize l.length=n at *;go_enter func92,ntmps92;go_wp2_with fail
 go_loopw [3] (fun u3 w'=>∃ i:Nat,i<=n/\u3=.int .i64 i/\Hid ((∀ j,j<i->pok l j)/\Below w.heap.size w w')) (fun u3 w'=>n-(intOf u3).toNat)
 case atStart=>exact ⟨0,af _,rfl,Q⟩
 case round =>
  obtain ⟨i,hi,rfl,m⟩:=hrel;by_cases hlt:i<n
  ·have h1:(i:Int)<n:=by omega
   obtain ⟨b,f,rfl,hd⟩:=r.out i hlt;have s:Hid (∀ V,Below w.heap.size w V->V.cell? ⟨b,f+i*2,none⟩=some (.int .u32 (l.getD i (0,0)).1)/\V.cell? ⟨b,f+i*2+1,none⟩=some (.int .u32 (l.getD i (0,0)).2)):=hd;obtain ⟨F,E⟩:=hd _ m.out.2;obtain ⟨x,hx⟩:∃ x,(l.getD i (0,0)).1=x:=⟨_,rfl⟩;obtain ⟨y,J⟩:∃ y,(l.getD i (0,0)).2=y:=⟨_,rfl⟩;have q:Hid (pok l i ↔ x≠0/\y≠0/\∀ k,k<i->(l.getD k (0,0)).1≠x/\(l.getD k (0,0)).2≠y):=by rw [<-hx,<-J];exact Iff.rfl
   rw [hx] at F s;rw [J] at E s;have d:Hid (¬pok l i->R=true):=L.out i hlt;clear hd hx J O Q L;by_cases hx0:x=0
   ·obtain rfl:=d.out (fun h=>(q.out.mp h).1 hx0);have o:Hid (Below w.heap.size w wr):=m.out.2;subst hx0;clear r s q d m;go_wp2_with fail;go_ret;exact ⟨rfl,o.out⟩
   have X:(x==0)=false:=by simp [hx0]
   by_cases hy0:y=0
   ·obtain rfl:=d.out (fun h=>(q.out.mp h).2.1 hy0);have o:Hid (Below w.heap.size w wr):=m.out.2;subst hy0;clear r s q d m hx0;go_wp2_with fail;go_ret;exact ⟨rfl,o.out⟩
   have U:(y==0)=false:=by simp [hy0]
   have G:Hid (x≠0/\y≠0):=⟨hx0,hy0⟩;clear hx0 hy0;have M:Hid ((∀ k,k<0->(l.getD k (0,0)).1≠x/\(l.getD k (0,0)).2≠y)/\Below w.heap.size w wr):=⟨fun k T=>absurd T (by omega),m.out.2⟩;have P:Hid (∀ j,j<i->pok l j):=m.out.1;clear m;go_wp2_with fail
   go_loopw [4] (fun u4 w'=>∃ k:Nat,k<=i/\u4=.int .i64 k/\Hid ((∀ j,j<k->(l.getD j (0,0)).1≠x/\(l.getD j (0,0)).2≠y)/\Below w.heap.size w w')) (fun u4 w'=>i-(intOf u4).toNat)
   case atStart=>exact ⟨0,af _,rfl,M⟩
   case round =>
    obtain ⟨k,T,rfl,p⟩:=hrel;clear F E;obtain ⟨F,E⟩:=s.out _ p.out.2;by_cases hkl:k<i
    ·have h2:(k:Int)<i:=by omega
     have h3:(k:Int)<n:=by omega
     obtain ⟨b',S,e,t⟩:=r.out k (by omega);simp only [Option.some.injEq,Addr.mk.injEq] at e;obtain ⟨rfl,rfl,-⟩:=e;obtain ⟨d2,d3⟩:=t _ p.out.2;obtain ⟨u,C⟩:∃ u,(l.getD k (0,0)).1=u:=⟨_,rfl⟩;obtain ⟨z,B⟩:∃ z,(l.getD k (0,0)).2=z:=⟨_,rfl⟩;have A:Hid (u=x\/z=y->R=true):=by
      intro h;apply d.out;intro Y;have:=(q.out.mp Y).2.2 k hkl;rw [C,B] at this;rcases h with h|h
      ·exact this.1 h
      ·exact this.2 h
     have H:Hid (u≠x->z≠y->∀ j,j<k+1->(l.getD j (0,0)).1≠x/\(l.getD j (0,0)).2≠y):=by
      intro h4 h5 j K;rcases ag j k with h|h
      ·exact p.out.1 j h
      ·obtain rfl:j=k:=by omega
       rw [C,B];exact ⟨h4,h5⟩
     rw [C] at d2;rw [B] at d3;have o:Hid (Below w.heap.size w wr):=p.out.2;clear t C B r s q d M P p G;by_cases hux:u=x
     ·obtain rfl:=A.out (ai hux);have e1:(u==x)=true:=by simp [hux]
      clear A H hux;go_upto_region 9 with fail
      go_quiet (fail)
      go_wp2_with fail;go_ret;exact ⟨rfl,ak o.out _⟩
     ·have e1:(u==x)=false:=by simp [hux]
      by_cases hzy:z=y
      ·obtain rfl:=A.out (aj hzy);have e2:(z==y)=true:=by simp [hzy]
       clear A H hzy hux;go_upto_region 9 with fail
       go_quiet (fail)
       go_wp2_with fail;go_ret;exact ⟨rfl,ak o.out _⟩
      ·have e2:(z==y)=false:=by simp [hzy]
       have I:=H.out hux hzy;have N:Hid (∀ j,j<k+1->(l.getD j (0,0)).1≠x/\(l.getD j (0,0)).2≠y):=I;clear A H hzy hux I;go_upto_region 9 with fail
       go_quiet (fail)
       go_wp2_with fail;go_roundw
       case rel=>exact ⟨k+1,by omega,by go_num,N.out,ak o.out _⟩
       case measure=>simp [intOf];omega
    ·have h2:¬((k:Int)<i):=by omega
     obtain rfl:k=i:=by omega
     have I:Hid ((∀ j,j<k+1->pok l j)/\Below w.heap.size w wr):=by
      refine ⟨fun j K=>?_,p.out.2⟩;rcases ag j k with h|h
      ·exact P.out j h
      ·obtain rfl:j=k:=by omega
       exact q.out.mpr ⟨G.out.1,G.out.2,p.out.1⟩
     clear r s q d M P p G F E;go_wp2_with fail;go_roundw
     case rel=>exact ⟨k+1,by omega,by go_num,I⟩
     case measure=>simp [intOf];omega
  ·have h1:¬((i:Int)<n):=by omega
   obtain rfl:i=n:=by omega
   obtain rfl:=O.out m.out.1;have o:Hid (Below w.heap.size w wr):=m.out.2;clear r L O Q m;go_wp2_with fail;go_ret;exact ⟨rfl,o.out⟩
end
section
open Go.RowKit Va
open Ad (nam)
inductive RlsL (V:World):List (Nat×Array Value)->List Int->Prop
 | nil:RlsL V [] []
 | cons {k:Nat} {c:Array Value} {e:Int} {ks:List (Nat×Array Value)} {es:List Int} (h:Rul V k c e) (r:RlsL V ks es):RlsL V ((k,c)::ks) (e::es)
theorem RlsL.later {X:World} (hb:Below V.heap.size V X) {a:List (Nat×Array Value)} (h:RlsL V a es):RlsL X a es:=by
 induction h with
 | nil=>exact .nil
 | cons h _ ih=>exact .cons (h.later hb) ih
theorem RlsL.snoc {a:List (Nat×Array Value)} (h:RlsL V a es) (hr:Rul V k c e):RlsL V (a++[(k,c)]) (es++[e]):=by
 induction h with
 | nil=>exact .cons hr .nil
 | cons h _ ih=>exact .cons h ih
def fv (p:Nat×Array Value):Value:=.func (.func p.1) #[] p.2
theorem RlsL.at_ {a:List (Nat×Array Value)} (h:RlsL V a es):a.length=es.length/\∀ i,i<es.length->∃ k c,(a.map fv)[i]?=some (.func (.func k) #[] c)/\Rul V k c (es.getD i 0):=by
 induction h with
 | nil=>exact ⟨rfl,fun i hi=>by simp at hi⟩
 | cons h _ ih =>
  refine ⟨by simp [ih.1],fun i hi=>?_⟩;cases i with
  | zero=>exact ⟨_,_,rfl,h⟩
  | succ i =>
   obtain ⟨k,c,d,b⟩:=ih.2 i (by simpa using hi);exact ⟨k,c,by simpa using d,by simpa [ab] using b⟩
def Rls (W:World) (es:List Int) (e:Ending) (V:World):Prop:=∃ g,e=.returned (.slice (some ⟨g,0,none⟩) es.length es.length)/\(∀ i,i<es.length->∃ k c,V.cell? ⟨g,i,none⟩=some (.func (.func k) #[] c)/\Rul V k c (es.getD i 0))/\Below W.heap.size W V
theorem jff {b:List (Nat×Array Value)} (h:RlsL V b es) (hb:Below W.heap.size W V) (d:V.heap.size=g) (hc:cs.toList=b.map fv) :
  (∀ i,i<es.length->∃ k c,(V.alloc (.cells cs 173)).cell? ⟨g,i,none⟩=some (.func (.func k) #[] c)/\Rul (V.alloc (.cells cs 173)) k c (es.getD i 0))/\Below W.heap.size W (V.alloc (.cells cs 173)):=by
 have a:Below V.heap.size V (V.alloc (.cells cs 173)):=(Below.refl _ _).alloc (ae _) _;refine ⟨fun i hi=>?_,hb.trans (a.mono hb.size)⟩;obtain ⟨k,c,j,f⟩:=h.at_.2 i hi;refine ⟨k,c,?_,f.later a⟩;rw [<-d,World.cell?_alloc_new,<-j,<-hc];simp
structure TR (W V:World) (g g1 g2:Nat) (t:Ten) (ks:List (Nat×Array Value)) (es:List Int):Prop where
 vs:Vs V
 bo:TBo V g t
 c1:V.cell? ⟨g1,0,none⟩=some (.func (.func 165) #[] #[.pointer (some ⟨g,0,none⟩)])
 c2:V.cell? ⟨g2,0,none⟩=some (.func (.func 167) #[] #[.pointer (some ⟨g,0,none⟩)])
 rl:RlsL V ks es
 below:Below W.heap.size W V
theorem TR.step {X:World} {b a:Nat} {t:Ten} {d:List (Nat×Array Value)} (h:TR W V g b a t d es) (hr:Rul X k c e) (hb:Below V.heap.size V X):TR W X g b a t (d++[(k,c)]) (es++[e]) :=
 ⟨h.vs.below hb,h.bo.later hb,by rw [hb.cell (p:=⟨b,0,none⟩) (j9 h.c1)];exact h.c1,by rw [hb.cell (p:=⟨a,0,none⟩) (j9 h.c2)];exact h.c2,(h.rl.later hb).snoc hr,h.below.trans (hb.mono h.below.size)⟩
theorem jcm {t:Ten} (hv:Vs W) (h:TV W v t) (hm:TSm t):Calls prog 134 #[v] W (Rls W (Va.trs t)):=by
 obtain ⟨R,pa,sa,qa,pc,sc,qc,rfl,hx⟩:=h.tb;have b6:=mkf;obtain ⟨g,hg⟩:∃ g,W.heap.size=g:=⟨_,rfl⟩;have a7:Mem W (W.alloc (.cells R.toArray 46)) [(g,.cells R.toArray 46)]:=(Mem.nil W).push1 hg.symm;have U:Hid (Mem W (W.alloc (.cells R.toArray 46)) [(g,.cells R.toArray 46)]):=a7;have HX:Hid (Vs W/\TBx W R t pa sa qa pc sc qc/\TSm t):=⟨hv,hx,hm⟩;have HE:Hid (Va.trs t=[]++[ul 90 (nam t.name.data.toList),ul 91 (wi t.vni 1 16777215),ul 92 (decide ((t.pool.length:Int)<=8)),ul 92 (unl t.pool),ul 93 (wi t.lo 1 t.hi),ul 94 (wi t.filter 0 2),ul 94 (decide ((t.stat.length:Int)<=16)),ul 94 (decide ((t.twi.length:Int)<=16)),ul 94 (unl (fst' t.stat) && unl (snd' t.stat)),ul 94 (unl (fst' t.twi) && unl (snd' t.twi)),wn 94 ((snd' t.stat).any (hs t.pool)),wn 94 ((fst' t.twi).any (owns t)),ul 95 (wi t.sess 1 256),ul 95 (wi t.queue 1 64),ul 95 (decide (t.rate<=1000000)),ul 95 (wi t.burst 1 1000000),ul 96 (t.vtep != 0)]):=rfl;clear a7 hv h hx hm;generalize Va.trs t=ES at *;obtain ⟨A,hA⟩:∃ A,R.toArray=A:=⟨_,rfl⟩;rw [hA] at U ⊢;have HA:Hid (R.toArray=A):=hA;clear hA;go_enter func134,ntmps134;go_upto_region 1 with fail;refine j5 (fun X=>Mem W X [(g,.cells A 46)]) (by exact U.out) ?_;intro V0 a6
 try simp only [hg]
 clear U hg;obtain ⟨a,T⟩:∃ a,V0.heap.size=a:=⟨_,rfl⟩;have a9:Hid (Mem W (V0.alloc (.cells #[.func (.func 165) #[] #[.pointer (some ⟨g,0,none⟩)]] 176)) [(a,.cells #[.func (.func 165) #[] #[.pointer (some ⟨g,0,none⟩)]] 176),(g,.cells A 46)]):=a6.front _ T.symm;clear a6;go_upto_region 2 with fail;refine j5 (fun X=>Mem W X [(a,.cells #[.func (.func 165) #[] #[.pointer (some ⟨g,0,none⟩)]] 176),(g,.cells A 46)]) (by exact a9.out) ?_;intro V1 a5
 try simp only [T]
 clear a9 T;obtain ⟨b,S⟩:∃ b,V1.heap.size=b:=⟨_,rfl⟩;have a8:Hid (Mem W (V1.alloc (.cells #[.func (.func 167) #[] #[.pointer (some ⟨g,0,none⟩)]] 176)) [(b,.cells #[.func (.func 167) #[] #[.pointer (some ⟨g,0,none⟩)]] 176),(a,.cells #[.func (.func 165) #[] #[.pointer (some ⟨g,0,none⟩)]] 176),(g,.cells A 46)]):=a5.front _ S.symm;clear a5;go_upto_region 3 with fail;refine j5 (fun X=>Mem W X [(b,.cells #[.func (.func 167) #[] #[.pointer (some ⟨g,0,none⟩)]] 176),(a,.cells #[.func (.func 165) #[] #[.pointer (some ⟨g,0,none⟩)]] 176),(g,.cells A 46)]) (by exact a8.out) ?_;intro V2 f
 try simp only [S]
 clear a8 S;have Ha:Hid (TR W V2 g a b t [] []):=⟨HX.out.1.below f.below,⟨R,pa,sa,qa,pc,sc,qc,by rw [HA.out];exact f.get 2 rfl,HX.out.2.1.later f.below⟩,f.cell 1 rfl 0,f.cell 0 rfl 0,.nil,f.below⟩;have d:Hid (TSm t):=HX.out.2.2;clear HX f HA;go_wp2_with fail;refine (jh (tq3 Ha.out.vs Ha.out.bo d.out) 90).mono ?_;rintro _ X0 ⟨k0,P,rfl,hr,hb⟩;have H0:Hid (TR W X0 g a b t _ _):=Ha.out.step hr hb;clear hr hb Ha;go_wp2_with fail;refine (jh (tq4 H0.out.bo d.out) 91).mono ?_;rintro _ X1 ⟨k1,O,rfl,hr,hb⟩;have H1:Hid (TR W X1 g a b t _ _):=H0.out.step hr hb;clear hr hb H0;go_wp2_with fail;refine (jh (tq5 H1.out.bo d.out) 92).mono ?_;rintro _ X2 ⟨k2,N,rfl,hr,hb⟩;have H2:Hid (TR W X2 g a b t _ _):=H1.out.step hr hb;clear hr hb H1;go_wp2_with fail;refine (jh (tq6 H2.out.bo d.out) 92).mono ?_;rintro _ X3 ⟨k3,M,rfl,hr,hb⟩;have H3:Hid (TR W X3 g a b t _ _):=H2.out.step hr hb;clear hr hb H2;go_wp2_with fail;refine (jh (tq7 H3.out.bo d.out) 93).mono ?_;rintro _ X4 ⟨k4,L,rfl,hr,hb⟩;have H4:Hid (TR W X4 g a b t _ _):=H3.out.step hr hb;clear hr hb H3;go_wp2_with fail;refine (jh (tq8 H4.out.bo d.out) 94).mono ?_;rintro _ X5 ⟨k5,K,rfl,hr,hb⟩;have H5:Hid (TR W X5 g a b t _ _):=H4.out.step hr hb;clear hr hb H4;go_wp2_with fail;refine (jh (tq9 H5.out.bo d.out) 94).mono ?_;rintro _ X6 ⟨k6,J,rfl,hr,hb⟩;have H6:Hid (TR W X6 g a b t _ _):=H5.out.step hr hb;clear hr hb H5;go_wp2_with fail;refine (jh (tq10 H6.out.bo d.out) 94).mono ?_;rintro _ X7 ⟨k7,I,rfl,hr,hb⟩;have H7:Hid (TR W X7 g a b t _ _):=H6.out.step hr hb;clear hr hb H6;go_wp2_with fail;refine (jh (tq11 H7.out.bo d.out) 94).mono ?_;rintro _ X8 ⟨k8,H,rfl,hr,hb⟩;have H8:Hid (TR W X8 g a b t _ _):=H7.out.step hr hb;clear hr hb H7;go_wp2_with fail;refine (jh (tq12 H8.out.bo d.out) 94).mono ?_;rintro _ X9 ⟨k9,G,rfl,hr,hb⟩;have H9:Hid (TR W X9 g a b t _ _):=H8.out.step hr hb;clear hr hb H8;go_wp2_with fail;refine (j2u (tq13 H9.out.bo d.out H9.out.c1) 94).mono ?_;rintro _ b5 ⟨F,s,rfl,hr,hb⟩;have Q:Hid (TR W b5 g a b t _ _):=H9.out.step hr hb;clear hr hb H9;go_wp2_with fail;refine (j2u (tq14 Q.out.bo d.out Q.out.c2) 94).mono ?_;rintro _ b4 ⟨E,r,rfl,hr,hb⟩;have a3:Hid (TR W b4 g a b t _ _):=Q.out.step hr hb;clear hr hb Q;go_wp2_with fail;refine (jh (tq15 a3.out.bo d.out) 95).mono ?_;rintro _ b3 ⟨D,q,rfl,hr,hb⟩;have a2:Hid (TR W b3 g a b t _ _):=a3.out.step hr hb;clear hr hb a3;go_wp2_with fail;refine (jh (tq16 a2.out.bo d.out) 95).mono ?_;rintro _ b2 ⟨C,p,rfl,hr,hb⟩;have a1:Hid (TR W b2 g a b t _ _):=a2.out.step hr hb;clear hr hb a2;go_wp2_with fail;refine (jh (tq17 a1.out.bo d.out) 95).mono ?_;rintro _ b1 ⟨B,o,rfl,hr,hb⟩;have a0:Hid (TR W b1 g a b t _ _):=a1.out.step hr hb;clear hr hb a1;go_wp2_with fail;refine (jh (tq18 a0.out.bo d.out) 95).mono ?_;rintro _ b0 ⟨z,m,rfl,hr,hb⟩;have Z:Hid (TR W b0 g a b t _ _):=a0.out.step hr hb;clear hr hb a0;go_wp2_with fail;refine (jh (tq19 Z.out.bo d.out) 96).mono ?_;rintro _ x ⟨y,j,rfl,hr,hb⟩;have Y:Hid (TR W x g a b t _ _):=Z.out.step hr hb;clear hr hb Z;obtain ⟨gl,a4⟩:∃ gl,x.heap.size=gl:=⟨_,rfl⟩;have hF:=jff (cs:=#[.func (.func k0) #[] P,.func (.func k1) #[] O,.func (.func k2) #[] N,.func (.func k3) #[] M,.func (.func k4) #[] L,.func (.func k5) #[] K,.func (.func k6) #[] J,.func (.func k7) #[] I,.func (.func k8) #[] H,.func (.func k9) #[] G,.func (.func F) #[] s,.func (.func E) #[] r,.func (.func D) #[] q,.func (.func C) #[] p,.func (.func B) #[] o,.func (.func z) #[] m,.func (.func y) #[] j]) Y.out.rl Y.out.below a4 rfl
 have HF:Hid ((∀ i,i<ES.length->∃ k c,(x.alloc (.cells #[.func (.func k0) #[] P,.func (.func k1) #[] O,.func (.func k2) #[] N,.func (.func k3) #[] M,.func (.func k4) #[] L,.func (.func k5) #[] K,.func (.func k6) #[] J,.func (.func k7) #[] I,.func (.func k8) #[] H,.func (.func k9) #[] G,.func (.func F) #[] s,.func (.func E) #[] r,.func (.func D) #[] q,.func (.func C) #[] p,.func (.func B) #[] o,.func (.func z) #[] m,.func (.func y) #[] j] 173)).cell? ⟨gl,i,none⟩=some (.func (.func k) #[] c)/\Rul (x.alloc (.cells #[.func (.func k0) #[] P,.func (.func k1) #[] O,.func (.func k2) #[] N,.func (.func k3) #[] M,.func (.func k4) #[] L,.func (.func k5) #[] K,.func (.func k6) #[] J,.func (.func k7) #[] I,.func (.func k8) #[] H,.func (.func k9) #[] G,.func (.func F) #[] s,.func (.func E) #[] r,.func (.func D) #[] q,.func (.func C) #[] p,.func (.func B) #[] o,.func (.func z) #[] m,.func (.func y) #[] j] 173)) k c (ES.getD i 0))/\Below W.heap.size W (x.alloc (.cells #[.func (.func k0) #[] P,.func (.func k1) #[] O,.func (.func k2) #[] N,.func (.func k3) #[] M,.func (.func k4) #[] L,.func (.func k5) #[] K,.func (.func k6) #[] J,.func (.func k7) #[] I,.func (.func k8) #[] H,.func (.func k9) #[] G,.func (.func F) #[] s,.func (.func E) #[] r,.func (.func D) #[] q,.func (.func C) #[] p,.func (.func B) #[] o,.func (.func z) #[] m,.func (.func y) #[] j] 173))/\ES.length=17):=by
  rw [HE.out];exact ⟨hF.1,hF.2,rfl⟩
 clear Y d HE hF;go_wp2_with fail;go_ret;refine ⟨gl,?_,HF.out.1,HF.out.2.1⟩;rw [HF.out.2.2,<-a4];rfl
end
section
open Go.RowKit La Ad
end
section
open Go.RowKit Cf La Ad
end
section
open Go.RowKit Sm Cf Df
namespace Df
theorem ze {b:Array Oper} {o:Oper} {a:Act} {K:Act->World->Prop} {Q:Exit->Act->World->Prop} {E:Prop} (hw:Region.wanted o (yielded b a.tmps)=true) (ty:TypeId) (n:Nat) (parts:Array (Nat×Operand)) (j:o.op=.buildSlice ty n parts) {d:Array (Nat×Value)}
  (hr:(Instr.buildSlice ty n d).run prog W=.ok v w') (f:(parts.map fun (i,x)=>(i,a.eval x))=d) (h:K (a.put o.dst v) w'):if Region.wanted o (yielded b a.tmps)=true then Oper.wp prog o a W K Q else E:=by
 rw [if_pos hw];subst f;unfold Oper.wp execOp;simp only [j,Sem.run_bind,hr,Result.andThen_ok,Sem.run_pure];exact h
theorem jft {y:Hv} (h:V.heap[ga]?=some (.cells (yc y).toArray 48)) (b:TLen y.1.t) (hr:Rws V (yz y)):YV V (.slice (some ⟨ga,0,none⟩) 1 1) [y]:=by
 refine ⟨⟨some ⟨ga,0,none⟩,1,rfl,ae _,by omega,nofun,aj ⟨ga,0,rfl,fun i hi j u d=>?_⟩⟩,fun x hx=>by rw [List.mem_singleton] at hx;subst hx;exact ⟨b,hr⟩⟩;have a:i=0:=by simp at hi;exact hi
 subst a;rw [cell_of h,Nat.zero_mul,Nat.add_zero,Nat.zero_add,aa];simpa [ab] using d
theorem jn9 (w:World) (t:Ten) (d:t.pool=[]) (b:t.stat=[]) (a:t.twi=[]):Rws w (t,nilV,nilV,nilV):=by
 refine ⟨?_,?_,?_⟩
 ·show Rw w 1 nilV (ux t.pool);rw [d];exact ⟨none,0,rfl,ae _,by omega,fun _=>rfl,ai rfl⟩
 ·show Rw w 2 nilV (px t.stat);rw [b];exact ⟨none,0,rfl,ae _,by omega,fun _=>rfl,ai rfl⟩
 ·show Rw w 2 nilV (px t.twi);rw [a];exact ⟨none,0,rfl,ae _,by omega,fun _=>rfl,ai rfl⟩
end Df
end
end Go.Proofs.YtdigofgjhaakmaaGreatDoor
