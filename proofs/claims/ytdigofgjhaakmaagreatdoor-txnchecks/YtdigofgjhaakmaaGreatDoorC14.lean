/- Parts of the proof. -/
import Derived.Test.YtdigofgjhaakmaaGreatDoorC13
set_option linter.all false
set_option maxHeartbeats 40000000
set_option maxRecDepth 20000
open Go.Proofs.Tryz
open Go.Op renaming equalIn->aa
open Nat renaming sub_zero->ab,add_assoc->ac,zero_le->ad,succ_mul->af
open List renaming range'_succ->ag,cons->ah,getElem?_eq_getElem->ai,getD->aj,ext_getElem?->ak,getElem?_eq_none->al,length_append->am,mem_map->an,length_map->ao,append_assoc->ap,mem_append_right->aq,perm_append_comm->ar,perm_middle->au,flatMap_cons->av,mem_cons_of_mem->aw,length_cons->ax,replicate->ay,replicate_succ->az,take_left'->aA,drop_left'->aB,cons_append->aC
open Go.Value renaming int->aD,agg->aE
open Int renaming toNat_natCast->aF
namespace Go.Proofs.YtdigofgjhaakmaaGreatDoor
variable {w V:World} {L:List (Nat×Obj)} {bl:List (List Int)} {v p:Value} {slot m o sz h:Nat} {a:Addr} {t:Int}
section
open Go.RowKit Sm Cf
theorem jj8 (b c d f g i j l y x u s r q n k:Int) (w:World):(aa 10000 36 (.agg #[.int .u8 b,.int .u8 c,.int .u8 d,.int .u8 f,.int .u8 g,.int .u8 i,.int .u8 j,.int .u8 l]) (.agg #[.int .u8 y,.int .u8 x,.int .u8 u,.int .u8 s,.int .u8 r,.int .u8 q,.int .u8 n,.int .u8 k])).run prog w=.ok (decide ([b,c,d,f,g,i,j,l]=[y,x,u,s,r,q,n,k])) w:=by
 have u5:=underlying5;rw [show (10000:Nat)=9999+1 from rfl,aa];simp only [Sem.run_bind,run_underlying underlying36,Result.andThen_ok];simp only [Std.Legacy.Range.forIn_eq_forIn_range',Std.Legacy.Range.size,ab,Nat.add_sub_cancel,Nat.div_one,ag,List.range'_zero,List.forIn_cons,List.forIn_nil];by_cases h0:b=y
 rotate_left
 ·have hd:¬([b,c,d,f,g,i,j,l]=[y,x,u,s,r,q,n,k]):=by intro e;simp only [ah.injEq] at e;exact h0 (by simp_all)
  rw [decide_eq_false hd];clear hd;have hb:(b==y)=false:=by simpa using h0
  go_simp
  all_goals simp_all
 subst h0;by_cases h1:c=x
 rotate_left
 ·have hd:¬([b,c,d,f,g,i,j,l]=[b,x,u,s,r,q,n,k]):=by intro e;simp only [ah.injEq] at e;exact h1 (by simp_all)
  rw [decide_eq_false hd];clear hd;have hb:(c==x)=false:=by simpa using h1
  go_simp
  all_goals simp_all
 subst h1;by_cases h2:d=u
 rotate_left
 ·have hd:¬([b,c,d,f,g,i,j,l]=[b,c,u,s,r,q,n,k]):=by intro e;simp only [ah.injEq] at e;exact h2 (by simp_all)
  rw [decide_eq_false hd];clear hd;have hb:(d==u)=false:=by simpa using h2
  go_simp
  all_goals simp_all
 subst h2;by_cases h3:f=s
 rotate_left
 ·have hd:¬([b,c,d,f,g,i,j,l]=[b,c,d,s,r,q,n,k]):=by intro e;simp only [ah.injEq] at e;exact h3 (by simp_all)
  rw [decide_eq_false hd];clear hd;have hb:(f==s)=false:=by simpa using h3
  go_simp
  all_goals simp_all
 subst h3;by_cases h4:g=r
 rotate_left
 ·have hd:¬([b,c,d,f,g,i,j,l]=[b,c,d,f,r,q,n,k]):=by intro e;simp only [ah.injEq] at e;exact h4 (by simp_all)
  rw [decide_eq_false hd];clear hd;have hb:(g==r)=false:=by simpa using h4
  go_simp
  all_goals simp_all
 subst h4;by_cases h5:i=q
 rotate_left
 ·have hd:¬([b,c,d,f,g,i,j,l]=[b,c,d,f,g,q,n,k]):=by intro e;simp only [ah.injEq] at e;exact h5 (by simp_all)
  rw [decide_eq_false hd];clear hd;have hb:(i==q)=false:=by simpa using h5
  go_simp
  all_goals simp_all
 subst h5;by_cases h6:j=n
 rotate_left
 ·have hd:¬([b,c,d,f,g,i,j,l]=[b,c,d,f,g,i,n,k]):=by intro e;simp only [ah.injEq] at e;exact h6 (by simp_all)
  rw [decide_eq_false hd];clear hd;have hb:(j==n)=false:=by simpa using h6
  go_simp
  all_goals simp_all
 subst h6;by_cases h7:l=k
 rotate_left
 ·have hd:¬([b,c,d,f,g,i,j,l]=[b,c,d,f,g,i,j,k]):=by intro e;simp only [ah.injEq] at e;exact h7 (by simp_all)
  rw [decide_eq_false hd];clear hd;have hb:(l==k)=false:=by simpa using h7
  go_simp
  all_goals simp_all
 subst h7;rw [decide_eq_true rfl];go_simp
theorem j3a (b c d f g j r q n l k i:Int) (w:World):(aa 10000 35 (.agg #[.int .u8 b,.int .u8 c,.int .u8 d,.int .u8 f,.int .u8 g,.int .u8 j]) (.agg #[.int .u8 r,.int .u8 q,.int .u8 n,.int .u8 l,.int .u8 k,.int .u8 i])).run prog w=.ok (decide ([b,c,d,f,g,j]=[r,q,n,l,k,i])) w:=by
 have u5:=underlying5;rw [show (10000:Nat)=9999+1 from rfl,aa];simp only [Sem.run_bind,run_underlying underlying35,Result.andThen_ok];simp only [Std.Legacy.Range.forIn_eq_forIn_range',Std.Legacy.Range.size,ab,Nat.add_sub_cancel,Nat.div_one,ag,List.range'_zero,List.forIn_cons,List.forIn_nil];by_cases h0:b=r
 rotate_left
 ·have hd:¬([b,c,d,f,g,j]=[r,q,n,l,k,i]):=by intro e;simp only [ah.injEq] at e;exact h0 (by simp_all)
  rw [decide_eq_false hd];clear hd;have hb:(b==r)=false:=by simpa using h0
  go_simp
  all_goals simp_all
 subst h0;by_cases h1:c=q
 rotate_left
 ·have hd:¬([b,c,d,f,g,j]=[b,q,n,l,k,i]):=by intro e;simp only [ah.injEq] at e;exact h1 (by simp_all)
  rw [decide_eq_false hd];clear hd;have hb:(c==q)=false:=by simpa using h1
  go_simp
  all_goals simp_all
 subst h1;by_cases h2:d=n
 rotate_left
 ·have hd:¬([b,c,d,f,g,j]=[b,c,n,l,k,i]):=by intro e;simp only [ah.injEq] at e;exact h2 (by simp_all)
  rw [decide_eq_false hd];clear hd;have hb:(d==n)=false:=by simpa using h2
  go_simp
  all_goals simp_all
 subst h2;by_cases h3:f=l
 rotate_left
 ·have hd:¬([b,c,d,f,g,j]=[b,c,d,l,k,i]):=by intro e;simp only [ah.injEq] at e;exact h3 (by simp_all)
  rw [decide_eq_false hd];clear hd;have hb:(f==l)=false:=by simpa using h3
  go_simp
  all_goals simp_all
 subst h3;by_cases h4:g=k
 rotate_left
 ·have hd:¬([b,c,d,f,g,j]=[b,c,d,f,k,i]):=by intro e;simp only [ah.injEq] at e;exact h4 (by simp_all)
  rw [decide_eq_false hd];clear hd;have hb:(g==k)=false:=by simpa using h4
  go_simp
  all_goals simp_all
 subst h4;by_cases h5:j=i
 rotate_left
 ·have hd:¬([b,c,d,f,g,j]=[b,c,d,f,g,i]):=by intro e;simp only [ah.injEq] at e;exact h5 (by simp_all)
  rw [decide_eq_false hd];clear hd;have hb:(j==i)=false:=by simpa using h5
  go_simp
  all_goals simp_all
 subst h5;rw [decide_eq_true rfl];go_simp
theorem j0k {W:World} (h:∃ q,W=w.drewN q) (n:Nat):∃ q,W.drewN n=w.drewN q:=by
 obtain ⟨q,rfl⟩:=h;exact ⟨q+n,by simp only [World.drewN];rw [ac]⟩
theorem jdm (a b c d:Int) (w:World):(aa 10000 122 (.agg #[.int .u32 a,.int .u32 b]) (.agg #[.int .u32 c,.int .u32 d])).run prog w=.ok (decide ((a,b)=(c,d))) w:=by
 have u3:=underlying33;rw [show (10000:Nat)=9999+1 from rfl,run_equalIn_agg w 9999 122 _ _ (by kernel_rfl) (by kernel_rfl)];simp only [Program.fieldsOf,underlying122];go_simp;by_cases h1:a=c<;>by_cases h2:b=d<;>simp [h1,h2]
theorem jh0 (U tv:Value) (xs g:List Int) (hx:Rw w 1 U (ux xs)) (hy:Rw w 1 tv (ux g)) (a0:xs.length<=1000000) :
  Calls prog 93 #[U,tv] w fun e w'=>e=.returned (.bool (decide (xs=g)))/\∃ q,w'=w.drewN q:=by
 obtain ⟨a,c,rfl,M,N,ha,s⟩:=hx;obtain ⟨a',c',rfl,G,H,O,f⟩:=hy;have A:(ux xs).length=xs.length:=by simp [ux]
 have z:(ux g).length=g.length:=by simp [ux]
 rw [A] at s ⊢;rw [z] at f ⊢;by_cases hl:xs.length=g.length
 ·obtain ⟨n,hn⟩:∃ n,xs.length=n:=⟨_,rfl⟩;have F:g.length=n:=by omega
  rw [F];rw [F] at f;rw [hn] at s ⊢;obtain ⟨D,I⟩:∃ D,decide (xs=g)=D:=⟨_,rfl⟩;rw [I];have Q:Hid (∀ i,i<n->∃ b d,a=some ⟨b,d,none⟩/\w.rangeAt b (d+i*1) ((ux xs).getD i [])):=by
   intro i hi;rcases s with e|⟨b,d,rfl,hc⟩
   ·rw [e] at A;simp at A;omega
   ·exact ⟨b,d,rfl,fun j u B=>hc i (by omega) j u B⟩
  have P:Hid (∀ i,i<n->∃ b d,a'=some ⟨b,d,none⟩/\w.rangeAt b (d+i*1) ((ux g).getD i [])):=by
   intro i hi;rcases f with e|⟨b,d,rfl,hc⟩
   ·rw [e] at z;simp at z;omega
   ·exact ⟨b,d,rfl,fun j u B=>hc i (by omega) j u B⟩
  clear s f M G N H ha O hl A z;go_enter func93,ntmps93;go_wp2_with fail
  go_loopw [5] (fun u5 w'=>∃ i:Nat,i<=n/\u5=.int .i64 i/\Hid ((∃ q,w'=w.drewN q)/\∀ j,j<i->xs[j]?=g[j]?)) (fun u5 w'=>n-(intOf u5).toNat)
  case atStart=>exact ⟨0,ad _,rfl,⟨0,rfl⟩,fun j B=>by omega⟩
  case round =>
   obtain ⟨i,hi,rfl,R⟩:=hrel;obtain ⟨⟨q,E⟩,k⟩:=R.out;have S:Hid (∃ q,wr=w.drewN q):=⟨q,E⟩;by_cases hlt:i<n
   ·have X:(i:Int)<n:=by omega
    obtain ⟨b,d,rfl,K⟩:=Q.out i hlt;obtain ⟨b',C,rfl,J⟩:=P.out i hlt;obtain ⟨x,l⟩:∃ x,xs[i]?=some x:=⟨_,ai (by omega)⟩;obtain ⟨y,r⟩:∃ y,g[i]?=some y:=⟨_,ai (by omega)⟩;have Z:(ux xs).getD i []=[.int .u32 x]:=by simp [ux,aj,l]
    have Y:(ux g).getD i []=[.int .u32 y]:=by simp [ux,aj,r]
    rw [Z] at K;rw [Y] at J;have d3:wr.cell? ⟨b,d+i,none⟩=some (.int .u32 x):=by have:=K 0 _ rfl;rw [E];simpa using this
    have d4:wr.cell? ⟨b',C+i,none⟩=some (.int .u32 y):=by have:=J 0 _ rfl;rw [E];simpa using this
    have T:Hid (∀ j,j<i->xs[j]?=g[j]?):=k;clear Q P Z Y K J k R E;by_cases hxy:x=y
    ·have HF:Hid (∀ j,j<i+1->xs[j]?=g[j]?):=by
      intro j B;by_cases e:j=i
      ·rw [e,l,r,hxy]
      ·exact T.out j (by omega)
     clear l r T;subst hxy;have hb:(x != x)=false:=by simp
     go_upto_region 6 with fail
     go_quiet (fail)
     go_wp2_with fail;go_roundw
     case rel=>exact ⟨i+1,by omega,by go_num,j0k S.out _,HF.out⟩
     case measure=>simp [intOf];omega
    ·obtain rfl:D=false:=by
      rw [<-I];apply decide_eq_false;intro hc;rw [hc,r] at l;exact hxy (Option.some.inj l).symm
     have hb:(x != y)=true:=by simpa using hxy
     clear I l r T;go_upto_region 6 with fail
     go_quiet (fail)
     go_wp2_with fail;go_ret;exact ⟨rfl,j0k S.out _⟩
   ·have X:¬((i:Int)<n):=by omega
    obtain rfl:i=n:=by omega
    obtain rfl:D=true:=by
     rw [<-I];apply decide_eq_true;apply ak;intro j;by_cases B:j<i
     ·exact k j B
     ·rw [al (by omega),al (by omega)]
    clear R k I Q P E;go_wp2_with fail;go_ret;exact ⟨rfl,S.out⟩
 ·rw [decide_eq_false (fun e=>hl (by rw [e]))];have X:((xs.length:Int) != (g.length:Int))=true:=by simp;omega
  have h2:¬((xs.length:Int)=(g.length:Int)):=by omega
  clear s f hl;go_enter func93,ntmps93;go_wp2_with fail;go_ret;exact ⟨rfl,0,rfl⟩
theorem j6f (U tv:Value) (xs g:List (Int×Int)) (hx:Rw w 2 U (px xs)) (hy:Rw w 2 tv (px g)) (a0:xs.length<=1000000) :
  Calls prog 94 #[U,tv] w fun e w'=>e=.returned (.bool (decide (xs=g)))/\∃ q,w'=w.drewN q:=by
 obtain ⟨a,c,rfl,M,N,ha,s⟩:=hx;obtain ⟨a',c',rfl,G,H,O,f⟩:=hy;have A:(px xs).length=xs.length:=by simp [px]
 have z:(px g).length=g.length:=by simp [px]
 rw [A] at s ⊢;rw [z] at f ⊢;by_cases hl:xs.length=g.length
 ·obtain ⟨n,hn⟩:∃ n,xs.length=n:=⟨_,rfl⟩;have F:g.length=n:=by omega
  rw [F];rw [F] at f;rw [hn] at s ⊢;obtain ⟨D,I⟩:∃ D,decide (xs=g)=D:=⟨_,rfl⟩;rw [I];have Q:Hid (∀ i,i<n->∃ b d,a=some ⟨b,d,none⟩/\w.rangeAt b (d+i*2) ((px xs).getD i [])):=by
   intro i hi;rcases s with e|⟨b,d,rfl,hc⟩
   ·rw [e] at A;simp at A;omega
   ·exact ⟨b,d,rfl,fun j u E=>hc i (by omega) j u E⟩
  have P:Hid (∀ i,i<n->∃ b d,a'=some ⟨b,d,none⟩/\w.rangeAt b (d+i*2) ((px g).getD i [])):=by
   intro i hi;rcases f with e|⟨b,d,rfl,hc⟩
   ·rw [e] at z;simp at z;omega
   ·exact ⟨b,d,rfl,fun j u E=>hc i (by omega) j u E⟩
  clear s f M G N H ha O hl A z;go_enter func94,ntmps94;go_wp2_with fail
  go_loopw [5] (fun u5 w'=>∃ i:Nat,i<=n/\u5=.int .i64 i/\Hid ((∃ q,w'=w.drewN q)/\∀ j,j<i->xs[j]?=g[j]?)) (fun u5 w'=>n-(intOf u5).toNat)
  case atStart=>exact ⟨0,ad _,rfl,⟨0,rfl⟩,fun j E=>by omega⟩
  case round =>
   obtain ⟨i,hi,rfl,R⟩:=hrel;obtain ⟨⟨q,C⟩,k⟩:=R.out;have S:Hid (∃ q,wr=w.drewN q):=⟨q,C⟩;by_cases hlt:i<n
   ·have X:(i:Int)<n:=by omega
    obtain ⟨b,d,rfl,K⟩:=Q.out i hlt;obtain ⟨b',B,rfl,J⟩:=P.out i hlt;obtain ⟨x,l⟩:∃ x,xs[i]?=some x:=⟨_,ai (by omega)⟩;obtain ⟨y,r⟩:∃ y,g[i]?=some y:=⟨_,ai (by omega)⟩;have Z:(px xs).getD i []=[.int .u32 x.1,.int .u32 x.2]:=by simp [px,aj,l]
    have Y:(px g).getD i []=[.int .u32 y.1,.int .u32 y.2]:=by simp [px,aj,r]
    rw [Z] at K;rw [Y] at J;have d3:wr.cell? ⟨b,d+i*2,none⟩=some (.int .u32 x.1):=by have:=K 0 _ rfl;rw [C];simpa using this
    have d5:wr.cell? ⟨b,d+i*2+1,none⟩=some (.int .u32 x.2):=by have:=K 1 _ rfl;rw [C];simpa using this
    have d4:wr.cell? ⟨b',B+i*2,none⟩=some (.int .u32 y.1):=by have:=J 0 _ rfl;rw [C];simpa using this
    have d6:wr.cell? ⟨b',B+i*2+1,none⟩=some (.int .u32 y.2):=by have:=J 1 _ rfl;rw [C];simpa using this
    have T:Hid (∀ j,j<i->xs[j]?=g[j]?):=k;clear Q P Z Y K J k R C;by_cases hxy:x=y
    ·have HF:Hid (∀ j,j<i+1->xs[j]?=g[j]?):=by
      intro j E;by_cases e:j=i
      ·rw [e,l,r,hxy]
      ·exact T.out j (by omega)
     clear l r T;subst hxy;have hb:=fun V=>jdm x.1 x.2 x.1 x.2 V;simp only [decide_true] at hb;go_upto_region 6 with fail
     go_quiet (fail)
     go_wp2_with fail;go_roundw
     case rel=>exact ⟨i+1,by omega,by go_num,j0k S.out _,HF.out⟩
     case measure=>simp [intOf];omega
    ·obtain rfl:D=false:=by
      rw [<-I];apply decide_eq_false;intro hc;rw [hc,r] at l;exact hxy (Option.some.inj l).symm
     have hb:=fun V=>jdm x.1 x.2 y.1 y.2 V;rw [decide_eq_false (show ¬((x.1,x.2)=(y.1,y.2)) from hxy)] at hb;clear I l r T;go_upto_region 6 with fail
     go_quiet (fail)
     go_wp2_with fail;go_ret;exact ⟨rfl,j0k S.out _⟩
   ·have X:¬((i:Int)<n):=by omega
    obtain rfl:i=n:=by omega
    obtain rfl:D=true:=by
     rw [<-I];apply decide_eq_true;apply ak;intro j;by_cases E:j<i
     ·exact k j E
     ·rw [al (by omega),al (by omega)]
    clear R k I Q P C;go_wp2_with fail;go_ret;exact ⟨rfl,S.out⟩
 ·rw [decide_eq_false (fun e=>hl (by rw [e]))];have X:((xs.length:Int) != (g.length:Int))=true:=by simp;omega
  have h2:¬((xs.length:Int)=(g.length:Int)):=by omega
  clear s f hl;go_enter func94,ntmps94;go_wp2_with fail;go_ret;exact ⟨rfl,0,rfl⟩
end
section
open Go.RowKit Sm
abbrev lgT:TypeId:=131
abbrev lgA (p:Nat) (t c:Int) (v:Value):Array Value:=#[.pointer (some ⟨p,0,none⟩),.int .u64 t,.int .i64 c,v]
structure Lg where
 t:Int
 c:Int
 r:List Int
theorem jjb (bl:List (List Int)):(fd bl).length<=2:=by
 unfold fd;split<;>try simp
 split<;>simp
theorem jj1 {k i:Nat} {acc r:List Int} (hb:∀ b∈bl,b.length=m/\j6 b) (g:256<=m) (h:rdL bl slot t k i acc=some r):r.length<=acc.length+k*m:=by
 induction k generalizing i acc with
 | zero=>rw [rdL] at h;cases h;simp
 | succ k ih =>
  rw [rdL] at h;split at h
  ·cases h
  ·rename_i q c;split at h
   ·have:=ih h;rw [am] at this;have f:q.b.length<=m:=by
     unfold rp at c;split at c
     ·cases c
     ·rename_i q' d;split at c
      ·cases c
      ·simp only [Option.some.injEq] at c;subst c;by_cases hz:slot*sbk bl.length+i<bl.length
       ·have e:bl.getD (slot*sbk bl.length+i) []=bl[slot*sbk bl.length+i]:=by simp [aj,hz]
        rw [e] at d;have o:=hb _ (List.getElem_mem hz);have:=(j2s d o.1 g o.2).2.1;omega
       ·have e:bl.getD (slot*sbk bl.length+i) []=[]:=by simp [aj,Nat.le_of_not_lt hz]
        rw [e] at d;simp [unf] at d
    rw [af];omega
   ·cases h
theorem jne {x:En} (hb:∀ b∈bl,b.length=m/\j6 b) (d:256<=m) (c:m<=65536) (j:bl.length<=64) (h:rd bl slot=some x):x.r.length<=1000000000:=by
 unfold rd at h;split at h
 ·cases h
 ·rename_i f e;simp only [Option.map_eq_some_iff] at h;obtain ⟨r,hr,rfl⟩:=h;have s:=jj1 hb d hr;have q:(f.n.toNat-1)*m<=31*65536:=Nat.mul_le_mul (by have:=(rp_n e).2;unfold sbk at this;omega) c;have l:f.b.length<=65536:=by
   have g:=jj1 (k:=1) (i:=0) (acc:=[]) (r:=f.b) (t:=f.t) hb d (by rw [rdL,e];simp [rdL]);simp at g;omega
  simp only;omega
theorem jja {x:En} (h:x∈fd bl):rd bl 0=some x\/rd bl 1=some x:=by
 unfold fd at h;split at h
 ·simp at h
 ·rename_i a d c;simp at h;subst h;exact Or.inl d
 ·rename_i a d c;simp at h;subst h;exact Or.inr c
 ·rename_i a b d c;split at h<;>simp at h<;>rcases h with e|e<;>subst e
  ·exact Or.inr c
  ·exact Or.inl d
  ·exact Or.inl d
  ·exact Or.inr c
section
variable {w W:World} {p h m:Nat} {D:Dk} {hc:Array Value} {ks:List Bk} {L:List (Nat×Obj)}
theorem DkAt.rows (H:DkAt w W p h m D hc ks L):∀ b∈ks.map Bk.b,b.length=m/\j6 b:=by
 intro b hb;obtain ⟨k,c,rfl⟩:=an.mp hb;have o:=H.st.ok k c;exact ⟨o.len,o.bytes⟩
theorem jdq (H:DkAt w W p h m D hc ks L) (hG:Gl W a) (hd:D.dead=false) (hn:4<=ks.length) (hm:256<=m) :
  Calls prog 40 #[.pointer (some ⟨p,0,none⟩)] W fun e E=>∃ pl n,e=.returned (.tuple #[.pointer (some ⟨pl,0,none⟩),n,.int .i64 0])/\∃ vr X,OwnV vr (nw (fd (ks.map Bk.b))).r X/\∃ Y,RS n (kp (fd (ks.map Bk.b))) Y/\∃ K,
   Mem W E ((pl,.cells (lgA p (nw (fd (ks.map Bk.b))).t (nw (fd (ks.map Bk.b))).c vr) lgT (0,0))::(X++(Y++K))):=by
 have hf:=j6p H;rw [show (decide (4<=ks.length) && decide (256<=m))=true by simp [hn,hm]] at hf;have a1:=j6w H hG hd hn hm;have HB:Hid (∀ x∈fd (ks.map Bk.b),x.r.length<=1000000000):=by
  intro x hx;rcases jja hx with e|e<;>exact jne H.rows hm H.mhi (by rw [ao];exact H.top) e
 have HL:=jjb (ks.map Bk.b);generalize fd (ks.map Bk.b)=G at *;generalize hq:nw G=q;obtain ⟨Z,s,u,i⟩:=q;have HQ:Hid (nw G=⟨Z,s,u,i⟩):=hq;show Calls _ _ _ _ fun e E=>∃ pl n,e=.returned (.tuple #[.pointer (some ⟨pl,0,none⟩),n,.int .i64 0])/\∃ vr X,OwnV vr i X/\∃ Y,RS n (kp G) Y/\∃ K,Mem W E ((pl,.cells (lgA p s u vr) lgT (0,0))::(X++(Y++K)));clear H hG hq;go_enter func40,ntmps40;go_wp2_with fail;refine hf.mono ?_;rintro e w' ⟨rfl,rfl⟩;go_wp2_with fail;refine a1.mono ?_;rintro e I ⟨v,rfl,l,hl,Y,hE,K,hM⟩;have M:l.length<=2:=by rw [<-ao (f:=Prod.fst),hl];exact HL
 have hN:=j1q hE hM M;have a0:∀ x∈l,x.1.r.length<=1000000000:=fun x hx=>HB.out _ (by rw [<-hl];exact List.mem_map_of_mem hx);have N:∃ X R,OwnV (j18 l).2 (j18 l).1.r X/\Y.Perm (X++R):=by
  rcases List.eq_nil_or_concat l with e|⟨l',x,e⟩
  ·subst e;rcases hE with ⟨_,_,rfl⟩|⟨g,cap,cur,Xs,_,h0,_⟩
   ·exact ⟨[],[],Or.inl ⟨rfl,rfl,rfl⟩,List.Perm.refl _⟩
   ·simp at h0
  ·subst e;have:j18 (l'.concat x)=x:=by simp [j18]
   rw [this];exact jew hE (by simp)
 obtain ⟨X,R,ho,pm⟩:=N;have J:=jaf l;rw [hl,HQ.out] at J;have a7:Hid (∀ V d,Mem I V d->Calls prog 70 #[v] V fun e E=>∃ n,e=.returned n/\∃ y,RS n (kp G) y/\∃ d,Mem V E (y++d)):=fun V d Q=>by
  have:=jhq hE (K:=K++d) (by have:=hM.join Q;rw [ap] at this;exact this) M a0;rwa [hl] at this
 have a3:Mem W I (X++(R++K)):=by
  have:=hM.perm (pm.append_right K);rwa [ap] at this
 rw [J] at hN ho;generalize (j18 l).2=lv at *;obtain ⟨z,cv,ev,-⟩:=ho.shape;subst ev;have a2:Calls prog 69 #[v] I fun e E=>e=.returned (.agg (enA Z s u (.slice z i.length cv)))/\∃ d,Mem I E d:=hN;have HO:Hid (OwnV (.slice z i.length cv) i X):=ho;have a6:Hid (Mem W I (X++(R++K))):=a3;obtain ⟨ae,ce,ee⟩:=hE.shape;subst ee;clear hE hM hN ho pm a1 hf J hl a0 HL HB a3 M;go_wp2_with fail;refine a2.mono ?_;rintro e U ⟨rfl,K3,h3⟩;go_upto_region 7 with fail;refine j5 (fun V=>Mem I V (K3++[(U.heap.size,.cells (enA Z s u (.slice z i.length cv)) enT (0,0))])) (h3.alloc _) ?_;intro k hx;have kb:∀ j,k.cell? ⟨U.heap.size,j,none⟩=(enA Z s u (.slice z i.length cv))[j]?:=fun j=>cell_of (hx.at_ (U.heap.size,_) (aq _ (List.mem_singleton.mpr rfl))) j;have k1:=kb 1;have k2:=kb 2;have k3:=kb 3;simp at k1 k2 k3;have O:U.heap.size<k.heap.size:=j9 k1;have HX:Hid (Mem I k (K3++[(U.heap.size,.cells (enA Z s u (.slice z i.length cv)) enT (0,0))])):=hx;clear h3 hx kb a2;generalize U.heap.size=S at *
 go_cut [2,3,4] from 8 (fun s2 s3 s4 wy=>s4=.int .i64 0/\∃ pl,s2=.pointer (some ⟨pl,0,none⟩)/\∃ y,RS s3 (kp G) y/\∃ d,Mem k wy ((pl,.cells (lgA p s u (.slice z i.length cv)) lgT (0,0))::(y++d)))
 case first =>
  have T:Hid (∀ V d,Mem k V d->Calls prog 70 #[.slice ae l.length ce] V fun e E=>∃ n,e=.returned n/\∃ y,RS n (kp G) y/\∃ d,Mem V E (y++d)):=fun V d Q=>a7.out V _ (HX.out.join Q);have a5:∀ (V:World),Mem V (V.alloc (.cells (lgA p s u (.slice z i.length cv)) lgT)) [(V.heap.size,.cells (lgA p s u (.slice z i.length cv)) lgT (0,0))]:=fun V=>(Mem.nil V).push1 rfl;have F:Hid (∀ (V:World),Mem V (V.alloc (.cells (lgA p s u (.slice z i.length cv)) lgT)) [(V.heap.size,.cells (lgA p s u (.slice z i.length cv)) lgT (0,0))]):=a5;clear a5;have a9:Hid (Calls prog 70 #[.slice ae l.length ce] (k.alloc (.cells (lgA p s u (.slice z i.length cv)) lgT)).drew fun e E=>∃ n,e=.returned n/\∃ y,RS n (kp G) y/\∃ d,Mem (k.alloc (.cells (lgA p s u (.slice z i.length cv)) lgT)).drew E (y++d)):=T.out _ _ (F.out k).drew;have a8:Hid (Calls prog 70 #[.slice ae l.length ce] k.drew fun e E=>∃ n,e=.returned n/\∃ y,RS n (kp G) y/\∃ d,Mem k.drew E (y++d)):=T.out _ _ (Mem.nil k).drew;have HS:Hid (∀ V K,Mem k V K->V.cell? ⟨S,1,none⟩=some (.int .u64 s)/\V.cell? ⟨S,2,none⟩=some (.int .i64 u)/\V.cell? ⟨S,3,none⟩=some (.slice z i.length cv)):=fun V K Q=>⟨(Q.old O).trans k1,(Q.old O).trans k2,(Q.old O).trans k3⟩;clear T
  go_region_held3 (fun w'=>w'.cell? ⟨S,1,none⟩=some (.int .u64 s)/\w'.cell? ⟨S,2,none⟩=some (.int .i64 u)/\w'.cell? ⟨S,3,none⟩=some (.slice z i.length cv))
   (first|go_keep|assumption|exact HS.out _ _ ((F.out k).drew.join q5)|exact HS.out _ _ ((Mem.nil k).drew.join q5)|exact HS.out _ _ ((F.out k)))
   (first
    | (go_at_call 70;with_reducible refine a9.out.mono ?_;rintro e w5 ⟨v5,rfl,Y5,r5,K5,q5⟩)
    | (go_at_call 70;with_reducible refine a8.out.mono ?_;rintro e w5 ⟨v5,rfl,Y5,r5,K5,q5⟩))
  all_goals
   go_wp2_with fail;go_meet
   case rel=>first
    | exact ⟨rfl,k.heap.size,rfl,Y5,r5,K5,(F.out k).drew.join q5⟩
    | exact ⟨rfl,w5.heap.size,rfl,Y5,r5,K5,(((Mem.nil k).drew.join q5).join (F.out w5)).perm ar⟩
 case rest =>
  obtain ⟨rfl,pl,rfl,y,hR,d,a4⟩:=hcut;have HE:Hid (Mem W wc ((pl,.cells (lgA p s u (.slice z i.length cv)) lgT (0,0))::(X++(y++(d++(R++K++(K3++[(S,.cells (enA Z s u (.slice z i.length cv)) enT (0,0))]))))))):=by
   have h9:=(a6.out.join HX.out).join a4;refine h9.perm ?_;have e:∀ (P:Nat×Obj) (A B C Y K:List (Nat×Obj)),((A++B)++C++(P::(Y++K))).Perm (P::(A++(Y++(K++(B++C))))):=by
    intro P A B C Y K;refine au.trans (List.Perm.cons P ?_);simp only [ap];refine List.Perm.append_left A ?_;have h1:(B++(C++(Y++K)))=(B++C)++(Y++K):=by simp
    have h2:(Y++(K++(B++C)))=(Y++K)++(B++C):=by simp
    rw [h1,h2];exact ar
   exact e _ _ _ _ _ _
  clear a4 a6 HX a7 k1 k2 k3
  go_wp2
  exact bodyPost_ret (v:=.tuple #[.pointer (some ⟨pl,0,none⟩),u3,.int .i64 0]) (by simp [results,results40,go_sem]) rfl ⟨pl,u3,rfl,_,X,HO.out,y,hR,_,HE.out⟩
end
end
section
open Go.RowKit Sm Cf
structure Cgf where
 ip:Int
 mac:List Int
 omac:List Int
 nmac:List Int
 key:List Int
 drain:Int
 ten:List Ten
structure CLen (c:Cgf):Prop where
 mac:c.mac.length=6
 omac:c.omac.length=6
 nmac:c.nmac.length=6
 key:c.key.length=8
structure CIn (c:Cgf):Prop where
 len:CLen c
 mac:j6 c.mac
 omac:j6 c.omac
 nmac:j6 c.nmac
 key:j6 c.key
def cc (c:Cgf) (v:Value):List Value:=.int .u32 c.ip::(c.mac.map (aD .u8)++(c.omac.map (aD .u8)++(c.nmac.map (aD .u8)++(c.key.map (aD .u8)++[.int .u32 c.drain,v]))))
theorem jc {c:Cgf} (h:CLen c) (v:Value):(cc c v).length=29:=by simp [cc,h.mac,h.omac,h.nmac,h.key]
def cfg0:Cgf:=⟨0,[0,0,0,0,0,0],[0,0,0,0,0,0],[0,0,0,0,0,0],[0,0,0,0,0,0,0,0],0,[]⟩
theorem j1d:CLen cfg0:=⟨rfl,rfl,rfl,rfl⟩
abbrev cz:Array Value:=(cc cfg0 nilV).toArray
theorem cset {t t':Cgf} {p':Value} (h:CLen t) (e:∀ u a b c d f g K I G E A y J H F C z x s r q n l k j k8 B i,
  t=⟨u,[a,b,c,d,f,g],[K,I,G,E,A,y],[J,H,F,C,z,x],[s,r,q,n,l,k,j,k8],B,i⟩->(cc t p).set o v=cc t' p'):(cc t p).set o v=cc t' p':=by
 obtain ⟨u,M,R,nm,key,B,i⟩:=t;obtain ⟨Q,P,O,N⟩:=h;obtain ⟨a,b,c,d,f,g,rfl⟩:=six6 Q;obtain ⟨K,I,G,E,A,y,rfl⟩:=six6 P;obtain ⟨J,H,F,C,z,x,rfl⟩:=six6 O;obtain ⟨s,r,q,n,l,k,j,k8,rfl⟩:=ke N;exact e u a b c d f g K I G E A y J H F C z x s r q n l k j k8 B i rfl
theorem cget {t:Cgf} (h:CLen t) (e:∀ u a b c d f g K I G E A y J H F C z x s r q n l k j k8 B i,
  t=⟨u,[a,b,c,d,f,g],[K,I,G,E,A,y],[J,H,F,C,z,x],[s,r,q,n,l,k,j,k8],B,i⟩->(cc t p)[o]?=some v):(cc t p)[o]?=some v:=by
 obtain ⟨u,M,R,nm,key,B,i⟩:=t;obtain ⟨Q,P,O,N⟩:=h;obtain ⟨a,b,c,d,f,g,rfl⟩:=six6 Q;obtain ⟨K,I,G,E,A,y,rfl⟩:=six6 P;obtain ⟨J,H,F,C,z,x,rfl⟩:=six6 O;obtain ⟨s,r,q,n,l,k,j,k8,rfl⟩:=ke N;exact e u a b c d f g K I G E A y J H F C z x s r q n l k j k8 B i rfl
abbrev Tz:=Ten×Nat×Nat×Nat
def tcs (z:Tz):List Value:=tc z.1 (lv z.2.1 (ux z.1.pool)) (lv z.2.2.1 (px z.1.stat)) (lv z.2.2.2 (px z.1.twi))
def tbs (z:Tz):List (Nat×Obj):=lb z.2.1 33 (ux z.1.pool)++(lb z.2.2.1 122 (px z.1.stat)++lb z.2.2.2 122 (px z.1.twi))
def tok (z:Tz):Prop:=TLen z.1/\(z.1.pool.length<=255/\z.1.stat.length<=255/\z.1.twi.length<=255)
def tbk (h:Nat):List Tz->List (Nat×Obj)
 | []=>[]
 | z::zs=>(h,.cells ((z::zs).flatMap tcs).toArray 46)::(z::zs).flatMap tbs
theorem j63 {b:List Tz} (e:b≠[]):tbk h b=(h,.cells (b.flatMap tcs).toArray 46)::b.flatMap tbs:=by
 cases b with
 | nil=>exact absurd rfl e
 | cons z b=>rfl
theorem jcq {b:List Tz} (h:∀ z∈b,tok z):(b.flatMap tcs).length=b.length*33:=by
 induction b with
 | nil=>rfl
 | cons z b ih =>
  rw [av,am,ih (fun z c=>h z (aw _ c)),ax,af];have:(tcs z).length=33:=ji (h z (List.mem_cons_self ..)).1 _ _ _;omega
def JC:St' Cgf:=fun w c g T pre post V K=>CLen c/\c.ten.length<=255/\∃ h zs,zs.map Prod.fst=c.ten/\(∀ z∈zs,tok z) /\
 Mem w V ((g,.cells (pre++(cc c (lv h (zs.map tcs))++post)).toArray T (0,0))::(tbk h zs++K))
theorem jj7 {β:Type} (o:Nat) (x:o<29) (old:Cgf->Value) (k:β->Value) (f:Cgf->β->Cgf) (d:∀ t p,CLen t->(cc t p)[o]?=some (old t)) (c:∀ t y p,CLen t->(cc t p).set o (k y)=cc (f t y) p)
  (z:∀ t y,CLen t->CLen (f t y)) (l:∀ t y,(f t y).ten=t.ten) :
  ∀ t g T b post V K,JC w t g T b post V K->∃ A M,Lens w JC o t g T b post V K M A/\A[b.length+o]?=some (old t) /\
   ∀ y i,Mem w i ((g,.cells (A.setIfInBounds (b.length+o) (k y)) T (0,0))::M)->JC w (f t y) g T b post i K:=by
 rintro t g T b post V K ⟨e,hb,h,r,s,j,B⟩;refine ⟨_,_,⟨B,fun q u=>aq _ u,fun i h=>h.dropA⟩,jv _ _ _ o _ (d _ _ e),fun y i n=>?_⟩;rw [set_mid _ _ _ o _ (by rw [jc e];exact x),c _ _ _ e] at n;exact ⟨z t y e,by rw [l];exact hb,h,r,by rw [l];exact s,j,n⟩
theorem j5d (o n:Nat) (f:Cgf->List Int->Cgf) (hcut:∀ t p,CLen t->∃ a b c,a.length=o/\b.length=n/\cc t p=a++(b++c)/\∀ y,cc (f t y) p=a++(y.map (aD .u8)++c))
  (F:∀ t y,y.length=n->CLen t->CLen (f t y)) (s:∀ t y,(f t y).ten=t.ten) :
  ∀ t g T d post V K,JC w t g T d post V K->∃ A M,Lens w JC o t g T d post V K M A/\d.length+o+n<=A.size /\
   ∀ y i,y.length=n->j6 y->Mem w i ((g,.cells (spl A (d.length+o) y) T (0,0))::M)->JC w (f t y) g T d post i K:=by
 rintro t g T d post V K ⟨u,hb,h,r,B,j,G⟩;obtain ⟨a,b,c,x,l,e,k⟩:=hcut t (lv h (r.map tcs)) u;refine ⟨_,_,⟨G,fun q E=>aq _ E,fun i h=>h.dropA⟩,?_,fun y i C _ z=>?_⟩
 ·rw [e];simp [x,l];omega
 ·rw [e,<-x,jd6 d a b c post y (by omega),<-k y] at z;exact ⟨F t y C u,by rw [s];exact hb,h,r,by rw [s];exact B,j,z⟩
def tz0:Tz:=(ten0,0,0,0)
theorem jmu:tok tz0:=⟨j0v,by decide,by decide,by decide⟩
theorem jjz (m:Nat):(ay m tz0).flatMap tbs=[]:=by
 induction m with
 | zero=>rfl
 | succ m ih=>rw [az,av,ih];rfl
theorem jnw (m:Nat):madeCells (aE (tc ten0 nilV nilV nilV).toArray).cells (m*33)=((ay m tz0).flatMap tcs).toArray:=by
 apply Array.toList_inj.mp;have:=qg (aE (tc ten0 nilV nilV nilV).toArray).cells m (by decide);rw [show (aE (tc ten0 nilV nilV nilV).toArray).cells.size=33 from rfl] at this;rw [this]
 induction m with
 | zero=>rfl
 | succ m ih =>
  have b:=qg (aE (tc ten0 nilV nilV nilV).toArray).cells m (by decide);rw [show (aE (tc ten0 nilV nilV nilV).toArray).cells.size=33 from rfl] at b;rw [az,List.flatten_cons,ih b,az];rfl
def j2x (c:Cgf) (m:Nat):Cgf:=if m=0 then c else { c with ten:=ay m ten0 }
theorem jed:∀ t g T i post V K,JC w t g T i post V K->∃ A M y,Lens w JC 28 t g T i post V K M A/\A[i.length+28]?=some y /\
   ∀ m n,m<=255->j5y w n g A T (i.length+28) M m->JC w (j2x t m) g T i post n K:=by
 rintro t g T i post V K ⟨j,hb,h,r,s,u,P⟩;refine ⟨_,_,_,⟨P,fun q N=>aq _ N,fun n h=>h.dropA⟩,jv _ _ _ 28 _ (cget (v:=lv h (r.map tcs)) j (by rintro J a b c d f g a1 b1 c1 Z U R a2 b2 c2 Y S Q I H G F E C B k8 X x rfl;rfl)),fun m n O k=>?_⟩;rcases k with ⟨rfl,k⟩|⟨h0,h',k⟩
 ·exact ⟨j,hb,h,r,s,u,k⟩
 ·rw [set_mid _ _ _ 28 _ (by rw [jc j];omega),jnw] at k;unfold j2x;rw [if_neg (by omega)];have l:ay m tz0≠[]:=by
   cases m with
   | zero=>omega
   | succ m=>simp [az]
  refine ⟨⟨j.mac,j.omac,j.nmac,j.key⟩,by simpa using O,h',ay m tz0,by simp [tz0],fun z s=>by rw [(List.mem_replicate.mp s).2];exact jmu,?_⟩;have e:(cc t (lv h (r.map tcs))).set 28 (.slice (some ⟨h',0,none⟩) m m)=cc { t with ten:=ay m ten0 } (lv h' ((ay m tz0).map tcs)):=by
   rw [j09 (h:=h') (xs:=(ay m tz0).map tcs) (fun e=>l (List.map_eq_nil_iff.mp e)),ao,List.length_replicate];exact cset j (by rintro J a b c d f g a1 b1 c1 Z U R a2 b2 c2 Y S Q I H G F E C B k8 X x rfl;rfl)
  rw [e] at k;rw [j63 l,jjz];exact k.subl ((List.sublist_append_right _ _).cons_cons _ |>.cons_cons _)
def IMT (w:World) (h:Nat) (M:List (Nat×Obj)) (V:World) (ys:List Ten):Prop:=∃ zs:List Tz,zs.map Prod.fst=ys/\(∀ z∈zs,tok z)/\Mem w V (tbk h zs++M)
theorem jeb:∀ t g T i post V K,JC w t g T i post V K->t.ten.length<=255/\∃ hb M n sc,(0<t.ten.length->n=some ⟨hb,0,none⟩)/\Sub K M/\(∀ r,Mem w r M->Mem w r K)/\V.cell? ⟨g,i.length+28,none⟩=some (.slice n t.ten.length sc) /\
   IMT w hb M V t.ten/\∀ s r,s.length=t.ten.length->IMT w hb M r s->JC w { t with ten:=s } g T i post r K:=by
 rintro t g T i post V K ⟨u,hb,h,k,F,B,E⟩;have j:V.cell? ⟨g,i.length+28,none⟩=some (lv h (k.map tcs)):=by
  rw [E.cell 0 rfl];exact jv _ _ _ 28 _ (cget u (by rintro ip a b c d f g a1 b1 c1 d1 f1 g1 a2 b2 c2 d2 f2 g2 Z Y X U S R Q k8 dr P rfl;rfl))
 have l:k.length=t.ten.length:=by rw [<-F,ao]
 obtain ⟨n,sc,hs,A⟩:∃ n sc,lv h (k.map tcs)=.slice n t.ten.length sc/\(0<t.ten.length->n=some ⟨h,0,none⟩):=by
  rw [<-l];cases k with
  | nil=>exact ⟨none,0,rfl,fun h=>by simp at h⟩
  | cons z k=>exact ⟨some ⟨h,0,none⟩,(z::k).length,by rw [j09 (by simp),ao],fun _=>rfl⟩
 rw [hs] at j;obtain ⟨G,J⟩:∃ G:Nat×Obj,G=(g,.cells (i++(cc t (lv h (k.map tcs))++post)).toArray T (0,0)):=⟨_,rfl⟩;rw [<-J] at E;refine ⟨hb,h,G::K,n,sc,A,fun q N=>aw _ N,fun r C=>C.sub,j,⟨k,F,B,E.perm (au (l₁:=_)).symm⟩,?_⟩;rintro s r H ⟨x,I,y,C⟩;refine ⟨⟨u.mac,u.omac,u.nmac,u.key⟩,by simp only [H];exact hb,h,x,I,y,?_⟩;have e:lv h (x.map tcs)=lv h (k.map tcs):=jaa (by rw [ao,ao,l,<-H,<-I,ao]);have O:cc { t with ten:=s } (lv h (x.map tcs))=cc t (lv h (k.map tcs)):=by rw [e];rfl
 rw [O,<-J];exact C.perm (au (l₁:=_))
abbrev Tv:=Ten×Value×Value×Value
def zc (z:Tv):List Value:=tc z.1 z.2.1 z.2.2.1 z.2.2.2
def Rws (V:World) (z:Tv):Prop:=Rw V 1 z.2.1 (ux z.1.pool)/\Rw V 2 z.2.2.1 (px z.1.stat)/\Rw V 2 z.2.2.2 (px z.1.twi)
def IC:Rp Cgf (Value×List Tv):=fun c r V g off=>CIn c/\V.rangeAt g off (cc c r.1)/\r.2.map Prod.fst=c.ten/\Rw V 33 r.1 (r.2.map zc)/\∀ z∈r.2,TIn z.1/\Rws V z
theorem IC.cell {t:Cgf} {r:Value×List Tv} {g b:Nat} (h:IC t r V g b) (o:Nat) (c:(cc t r.1)[o]?=some v):V.cell? ⟨g,b+o,none⟩=some v:=h.2.1 o v c
theorem IC.row {t:Cgf} {r:Value×List Tv} {g b:Nat} (h:IC t r V g b) (o:Nat) (x:List Int) (hb:j6 x) (hx:x.length<=1000) (a c:List Value) (d:a.length=o) (e:cc t r.1=a++(x.map (aD .u8)++c)) :
  Row V (some ⟨g,b+o,none⟩) x:=by
 refine ⟨hb,by omega,Or.inr ⟨g,b+o,rfl,fun i hi=>?_⟩⟩;have:=h.2.1 (o+i) (.int .u8 (x.getD i 0)) (by
  rw [e,List.getElem?_append_right (by omega),List.getElem?_append_left (by simp;omega),d,Nat.add_sub_cancel_left];simp [hi])
 rw [ac];exact this
theorem j26 {xs:List (List Value)} (h:Rw V sz v xs):v.oneCell'=true:=by
 obtain ⟨a,c,rfl,-⟩:=h;rfl
theorem jiu {z:Tv} (h:Rws V z):(zc z).toArray.all (·.oneCell')=true:=by
 apply all_oneCell_toArray;intro v b;simp only [zc,tc,List.mem_cons,List.mem_append,an,List.not_mem_nil,or_false] at b;rcases b with rfl|rfl|⟨x,_,rfl⟩|rfl|⟨x,_,rfl⟩|⟨x,_,rfl⟩|rfl|rfl|rfl|rfl|rfl|rfl|rfl|rfl|rfl|rfl<;>first|rfl|exact j26 h.1|exact j26 h.2.1|exact j26 h.2.2
structure Fw {α ρ:Type} (w:World) (L:List (Nat×Obj)) (I:Rp α ρ) (J:St' α) (f:Fv) (s:Sp α):Prop where
 ew:Ent f.kw
 er:Ent f.kr
 wr:∀ K,Sub L K->∀ x r g off,(∀ V,Mem w V K->I x r V g off)->∀ v l V,Out w V v l K->l.length+(s.enc x).length<=1000000000 ->
  Calls prog f.kw (#[v,.pointer (some ⟨g,off,none⟩)]++f.cw) V fun e V'=>∃ v',e=.returned v'/\Out w V' v' (l++s.enc x) K
 rd:∀ K,Sub L K->∀ x g T pre post a l c V,J w x g T pre post V K->Sl w a l c ->
  Calls prog f.kr (#[.slice a l.length c,.pointer (some ⟨g,pre.length,none⟩)]++f.cr) V (kt w K (fun y V'=>J w y g T pre post V' K) (s.dec l x))
theorem Fd.fw {α ρ:Type} {I:Rp α ρ} {J:St' α} {f:Fv} {s:Sp α} (h:Fd w L I J f s):Fw w L I J f s:=⟨h.ew,h.er,h.wr,h.rd⟩
theorem Fw.more {α ρ:Type} {K:List (Nat×Obj)} {I:Rp α ρ} {J:St' α} {f:Fv} {s:Sp α} (h:Fw w L I J f s) (hs:Sub L K):Fw w K I J f s :=
 ⟨h.ew,h.er,fun M b=>h.wr M (hs.trans b),fun M b=>h.rd M (hs.trans b)⟩
inductive FwAll {α ρ:Type} (w:World) (L:List (Nat×Obj)) (I:Rp α ρ) (J:St' α):List Fv->List (Sp α)->Prop
 | nil:FwAll w L I J [] []
 | cons {f:Fv} {s:Sp α} {fs:List Fv} {ss:List (Sp α)}:Fw w L I J f s->FwAll w L I J fs ss->FwAll w L I J (f::fs) (s::ss)
theorem FwAll.at_ {α ρ:Type} {I:Rp α ρ} {J:St' α} {b:List Fv} {ss:List (Sp α)} (h:FwAll w L I J b ss):∀ i,i<b.length->Fw w L I J (b.getD i fv0) (ss.getD i sp0):=by
 induction h with
 | nil=>intro i hi;simp at hi
 | cons h1 h2 ih =>
  intro i hi;cases i with
  | zero=>exact h1
  | succ i=>exact ih i (by simpa using hi)
theorem FwAll.len {α ρ:Type} {I:Rp α ρ} {J:St' α} {b:List Fv} {ss:List (Sp α)} (h:FwAll w L I J b ss):b.length=ss.length:=by
 induction h with
 | nil=>rfl
 | cons _ _ ih=>simp [ih]
theorem jhw {α ρ:Type} {I:Rp α ρ} {J:St' α} (B lb n:Nat) (b:List Fv) (ss:List (Sp α)) (O:b.length=n) (u:n<=1000)
  (N:(B,.cells #[.slice (some ⟨lb,0,none⟩) n n] 248)∈L) (E:(lb,.cells (b.flatMap Fv.cells).toArray 189)∈L)
  (j:FwAll w L I J b ss) (F:∀ x g T d post V C K,J w x g T d post V K->Below V.heap.size V C->J w x g T d post C K) (A:∀ x g T d post V K,J w x g T d post V K->Mem w V K) :
  Fw w L I J (j3h B) (j04 ss):=by
 have q:ss.length=n:=by rw [<-j.len];exact O
 have k:∀ K,Sub L K->∀ V,Mem w V K->V.cell? ⟨B,0,none⟩=some (.slice (some ⟨lb,0,none⟩) n n):=fun K f V z=>by rw [j8 z (f _ N)];rfl
 have e:∀ K,Sub L K->∀ V,Mem w V K->∀ i,i<n->V.cell? ⟨lb,i*3,none⟩=some (.func (.func (b.getD i fv0).kw) #[] (b.getD i fv0).cw) /\
   V.cell? ⟨lb,i*3+1,none⟩=some (.func (.func (b.getD i fv0).kr) #[] (b.getD i fv0).cr)/\V.cell? ⟨lb,i*3+2,none⟩=some (.func (.func (b.getD i fv0).ks) #[] (b.getD i fv0).cs):=by
  intro K f V z i hi;obtain ⟨U,S,R⟩:=flat_get b i (by omega);refine ⟨?_,?_,?_⟩
  ·rw [j8 z (f _ E)];simpa using U
  ·rw [j8 z (f _ E)];simpa using S
  ·rw [j8 z (f _ E)];simpa using R
 refine ⟨enters_of func205 (by kernel_rfl) rfl,enters_of func206 (by kernel_rfl) rfl,?_,?_⟩
 ·intro K f x r g s hx v l V Q hb;have:=jmg 205 (by simp) (H:=fun v l V=>Out w V v l K) (fun v l V C h M=>h.after M) ⟨g,s,none⟩ B lb n u (fun i=>(b.getD i fv0).kw) (fun i=>(b.getD i fv0).kr) (fun i=>(b.getD i fv0).ks) (fun i=>(b.getD i fv0).cw) (fun i=>(b.getD i fv0).cr) (fun i=>(b.getD i fv0).cs)
   (fun v l V h=>k K f V h.mem) (fun v l V h=>e K f V h.mem) (fun i=>(ss.getD i sp0).enc x) (fun i hi=>(j.at_ i (by omega)).ew) (fun i hi v l V h hb=>(j.at_ i (by omega)).wr K f x r g s hx v l V h hb) v l V Q (by simp only [j04,q] at hb;exact hb)
  simp only [j04,q];exact this
 ·intro K f x g T d post a l c V P G;have:=jmh 206 (by simp) (w:=w) (L:=K) (J:=fun y V=>J w y g T d post V K) (fun y V C h M=>F y g T d post V C K h M) ⟨g,d.length,none⟩ B lb n u (fun i=>(b.getD i fv0).kw) (fun i=>(b.getD i fv0).kr) (fun i=>(b.getD i fv0).ks) (fun i=>(b.getD i fv0).cw) (fun i=>(b.getD i fv0).cr) (fun i=>(b.getD i fv0).cs)
   (fun y V h=>k K f V (A _ _ _ _ _ _ _ h)) (fun y V h=>e K f V (A _ _ _ _ _ _ _ h)) (fun i=>(ss.getD i sp0).dec) (fun i hi=>(j.at_ i (by omega)).er) (fun i hi y l a c V h G=>(j.at_ i (by omega)).rd K f y g T d post a l c V h G) x l a c V P G
  simp only [j04,q];exact this
def RB {σ:Type} (dec:List Int->σ->Option (σ×List Int)) (e:List Int) (x x':σ):Prop:=(∀ r,dec (e++r) x=some (x',r))/\∀ l,l <+: e->l.length<e.length->dec l x=none
def catF (enc:Nat->List Int):Nat->Nat->List Int
 | _,0=>[]
 | i,m+1=>enc i++catF enc (i+1) m
theorem j7b (enc:Nat->List Int):∀ m i,catF enc i (m+1)=catF enc i m++enc (i+m)
 | 0,i=>by simp [catF]
 | m+1,i=>by
  rw [catF,j7b enc m (i+1),catF,ap,show i+1+m=i+(m+1) by omega]
theorem j20 (enc:Nat->List Int):∀ n,cat enc n=catF enc 0 n
 | 0=>rfl
 | n+1=>by rw [cat,j20 enc n,j7b,Nat.zero_add]
theorem jb5 {σ:Type} {dec:Nat->List Int->σ->Option (σ×List Int)} {enc:Nat->List Int} {Inv:Nat->σ->Prop}:∀ m i x,(∀ k,i<=k->k<i+m->∀ x,Inv k x->∃ c,RB (dec k) (enc k) x c/\Inv (k+1) c)->Inv i x ->
  ∃ c,RB (sq dec i m) (catF enc i m) x c/\Inv (i+m) c
 | 0,i,x,_,h=>⟨x,⟨fun r=>rfl,fun l f e=>by simp [catF] at e⟩,h⟩
 | m+1,i,x,H,h=>by
  obtain ⟨j,⟨f,e⟩,z⟩:=H i (Nat.le_refl _) (by omega) x h;obtain ⟨g,⟨u,s⟩,q⟩:=jb5 m (i+1) j (fun k a b=>H k (by omega) (by omega)) z;refine ⟨g,⟨fun r=>?_,fun l d hs=>?_⟩,by rw [show i+(m+1)=i+1+m by omega];exact q⟩
  ·rw [catF,ap,sq,f];exact u r
  ·rw [catF] at d hs;by_cases hc:l.length<(enc i).length
   ·have:l <+: enc i:=List.prefix_of_prefix_length_le d (List.prefix_append _ _) (by omega);rw [sq,e l this hc]
   ·have y:enc i <+: l:=List.prefix_of_prefix_length_le (List.prefix_append _ _) d (by omega);obtain ⟨n,rfl⟩:=y;rw [sq,f];refine s n ((List.prefix_append_right_inj _).mp d) ?_;simp only [am] at hs;omega
theorem ym {α:Type} (sz:Nat) (b:α->Int) (d:α->Int->α) (t x:α):RB (jw sz b d).dec ((jw sz b d).enc t) x (d x (num (be sz (b t)))):=by
 have c:=jq sz (b t);refine ⟨fun r=>?_,fun l f e=>?_⟩
 ·simp only [jw];rw [if_neg (by rw [am,c];omega),aA c,aB c]
 ·simp only [jw] at e ⊢;rw [if_pos (by omega)]
theorem j2z {α:Type} (n:Nat) (b:α->List Int) (d:α->List Int->α) (t x:α) (c:(b t).length=n):RB (j0p n b d).dec ((j0p n b d).enc t) x (d x (b t)):=by
 refine ⟨fun r=>?_,fun l f e=>?_⟩
 ·simp only [j0p];rw [if_neg (by rw [am,c];omega),aA c,aB c]
 ·simp only [j0p] at e ⊢;rw [if_pos (by omega)]
theorem ja0 {α:Type} (c:α->Nat) (b:α->Nat->α) (t x:α):RB (j0z c b).dec ((j0z c b).enc t) x (b x (min (c t) 255)):=by
 refine ⟨fun r=>?_,fun l e d=>?_⟩
 ·simp only [j0z,aC,List.nil_append,aF]
 ·simp only [j0z,ax,List.length_nil] at d ⊢;have:l=[]:=List.eq_nil_of_length_eq_zero (by omega);subst this;rfl
theorem jni {α:Type} (c:α->ByteArray) (f:α->ByteArray->α) (t x:α) (j:(sb (c t)).length=(c t).size):RB (jb6 c f).dec ((jb6 c f).enc t) x (f x (strOfNums ((sb (c t)).take 255))):=by
 have d:((sb (c t)).take 255).length=min (c t).size 255:=by rw [List.length_take,j,Nat.min_comm]
 refine ⟨fun r=>?_,fun l i g=>?_⟩
 ·simp only [jb6,nm,aC,dtxt,aF];rw [if_neg (by rw [am,d];omega),aA d,aB d];rfl
 ·simp only [jb6,nm] at i g ⊢;cases l with
  | nil=>rfl
  | cons b r =>
   obtain ⟨e,k⟩:=List.cons_prefix_cons.mp i;subst e;simp only [ax,d] at g;simp only [dtxt,aF];rw [if_pos (by omega)];rfl
theorem jdk {α β:Type} [DecidableEq β] (d:β) (f:Sp β) (g:β->β) (q:∀ y z,RB f.dec (f.enc y) z (g y)) (c:α->List β) (s:α->List β->α) (t x:α) (hx:(c x).length=min (c t).length 255) :
  RB (j4v d f c s).dec ((j4v d f c s).enc t) x (s x (((c t).take 255).map g)):=by
 obtain ⟨j,⟨B,A⟩,I,u⟩:=jb5 (dec:=itd d f) (enc:=fun i=>f.enc ((c t).getD i d)) (Inv:=fun k j=>j.length=min (c t).length 255/\∀ i,i<k->j[i]?=some (g ((c t).getD i d))) (min (c t).length 255) 0 (c x)
  (fun k _ H xs ⟨E,C⟩=>by
   obtain ⟨G,F⟩:=q ((c t).getD k d) (xs.getD k d);refine ⟨xs.set k (g ((c t).getD k d)),⟨fun r=>by simp only [itd,G,Option.map_some],fun l a b=>by simp only [itd,F l a b,Option.map_none]⟩,by rw [List.length_set];exact E,fun i hi=>?_⟩;rw [List.getElem?_set];by_cases e:k=i
   ·subst e;rw [if_pos rfl,if_pos (by omega)]
   ·rw [if_neg e];exact C i (by omega)) ⟨hx,fun i hi=>by omega⟩
 have n:j=((c t).take 255).map g:=by
  apply ak;intro i;rw [List.getElem?_map,List.getElem?_take];by_cases hi:i<min (c t).length 255
  ·rw [u i (by omega),if_pos (by omega),aj,ai (by omega)];rfl
  ·rw [al (by omega)];split
   ·rw [al (by omega)];rfl
   ·rfl
 subst n;refine ⟨fun r=>?_,fun l a b=>?_⟩
 ·simp only [j4v];rw [hx,j20,B];rfl
 ·simp only [j4v] at a b ⊢;rw [j20] at a b;rw [hx,A l a b];rfl
structure Chg where
 put:Bool
 name:ByteArray
 t:Ten
def hc (h:Chg) (p s q:Value):List Value:=.bool h.put::.string h.name::tc h.t p s q
abbrev hz0:Array Value:=(hc ⟨false,ByteArray.empty,ten0⟩ nilV nilV nilV).toArray
end
end Go.Proofs.YtdigofgjhaakmaaGreatDoor
