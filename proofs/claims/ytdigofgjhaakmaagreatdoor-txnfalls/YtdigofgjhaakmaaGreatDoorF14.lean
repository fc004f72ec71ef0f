/- Parts of the proof. -/
import Derived.Test.YtdigofgjhaakmaaGreatDoorF13
set_option linter.all false
set_option maxHeartbeats 40000000
set_option maxRecDepth 20000
open Go.Proofs.Tryz
open Go.Op renaming equalIn->aa
open Nat renaming sub_zero->ab,add_assoc->ac,zero_le->ad,succ_mul->af
open List renaming range'_succ->ag,cons->ah,getElem?_eq_getElem->ai,getD->aj,ext_getElem?->ak,getElem?_eq_none->al,length_append->am,mem_map->an,length_map->ao,append_assoc->ap,mem_append_right->aq,perm_append_comm->ar,perm_middle->au,flatMap_cons->av,mem_cons_of_mem->aw,length_cons->ax,replicate->ay,replicate_succ->az,take_left'->aA,drop_left'->aB,cons_append->aD
open Go.Value renaming int->aE,agg->aF
open Int renaming toNat_natCast->aG
namespace Go.Proofs.YtdigofgjhaakmaaGreatDoor
variable {w V:World} {L:List (Nat×Obj)} {bl:List (List Int)} {v p u:Value} {slot m o sz h:Nat} {l:List Int} {a:Addr} {t:Int}
section
open Go.RowKit Sm Cf
theorem jls (b c d f g i j q B A z y x s r k:Int) (w:World):(aa 10000 36 (.agg #[.int .u8 b,.int .u8 c,.int .u8 d,.int .u8 f,.int .u8 g,.int .u8 i,.int .u8 j,.int .u8 q]) (.agg #[.int .u8 B,.int .u8 A,.int .u8 z,.int .u8 y,.int .u8 x,.int .u8 s,.int .u8 r,.int .u8 k])).run prog w=.ok (decide ([b,c,d,f,g,i,j,q]=[B,A,z,y,x,s,r,k])) w:=by
 have u5:=underlying5;rw [show (10000:Nat)=9999+1 from rfl,aa];simp only [Sem.run_bind,run_underlying underlying36,Result.andThen_ok];simp only [Std.Legacy.Range.forIn_eq_forIn_range',Std.Legacy.Range.size,ab,Nat.add_sub_cancel,Nat.div_one,ag,List.range'_zero,List.forIn_cons,List.forIn_nil];by_cases h0:b=B
 rotate_left
 ·have hd:¬([b,c,d,f,g,i,j,q]=[B,A,z,y,x,s,r,k]):=by intro e;simp only [ah.injEq] at e;exact h0 (by simp_all)
  rw [decide_eq_false hd];clear hd;have hb:(b==B)=false:=by simpa using h0
  go_simp
  all_goals simp_all
 subst h0;by_cases h1:c=A
 rotate_left
 ·have hd:¬([b,c,d,f,g,i,j,q]=[b,A,z,y,x,s,r,k]):=by intro e;simp only [ah.injEq] at e;exact h1 (by simp_all)
  rw [decide_eq_false hd];clear hd;have hb:(c==A)=false:=by simpa using h1
  go_simp
  all_goals simp_all
 subst h1;by_cases h2:d=z
 rotate_left
 ·have hd:¬([b,c,d,f,g,i,j,q]=[b,c,z,y,x,s,r,k]):=by intro e;simp only [ah.injEq] at e;exact h2 (by simp_all)
  rw [decide_eq_false hd];clear hd;have hb:(d==z)=false:=by simpa using h2
  go_simp
  all_goals simp_all
 subst h2;by_cases h3:f=y
 rotate_left
 ·have hd:¬([b,c,d,f,g,i,j,q]=[b,c,d,y,x,s,r,k]):=by intro e;simp only [ah.injEq] at e;exact h3 (by simp_all)
  rw [decide_eq_false hd];clear hd;have hb:(f==y)=false:=by simpa using h3
  go_simp
  all_goals simp_all
 subst h3;by_cases h4:g=x
 rotate_left
 ·have hd:¬([b,c,d,f,g,i,j,q]=[b,c,d,f,x,s,r,k]):=by intro e;simp only [ah.injEq] at e;exact h4 (by simp_all)
  rw [decide_eq_false hd];clear hd;have hb:(g==x)=false:=by simpa using h4
  go_simp
  all_goals simp_all
 subst h4;by_cases h5:i=s
 rotate_left
 ·have hd:¬([b,c,d,f,g,i,j,q]=[b,c,d,f,g,s,r,k]):=by intro e;simp only [ah.injEq] at e;exact h5 (by simp_all)
  rw [decide_eq_false hd];clear hd;have hb:(i==s)=false:=by simpa using h5
  go_simp
  all_goals simp_all
 subst h5;by_cases h6:j=r
 rotate_left
 ·have hd:¬([b,c,d,f,g,i,j,q]=[b,c,d,f,g,i,r,k]):=by intro e;simp only [ah.injEq] at e;exact h6 (by simp_all)
  rw [decide_eq_false hd];clear hd;have hb:(j==r)=false:=by simpa using h6
  go_simp
  all_goals simp_all
 subst h6;by_cases h7:q=k
 rotate_left
 ·have hd:¬([b,c,d,f,g,i,j,q]=[b,c,d,f,g,i,j,k]):=by intro e;simp only [ah.injEq] at e;exact h7 (by simp_all)
  rw [decide_eq_false hd];clear hd;have hb:(q==k)=false:=by simpa using h7
  go_simp
  all_goals simp_all
 subst h7;rw [decide_eq_true rfl];go_simp
theorem j47 (b c d f g j x s r q k i:Int) (w:World):(aa 10000 35 (.agg #[.int .u8 b,.int .u8 c,.int .u8 d,.int .u8 f,.int .u8 g,.int .u8 j]) (.agg #[.int .u8 x,.int .u8 s,.int .u8 r,.int .u8 q,.int .u8 k,.int .u8 i])).run prog w=.ok (decide ([b,c,d,f,g,j]=[x,s,r,q,k,i])) w:=by
 have u5:=underlying5;rw [show (10000:Nat)=9999+1 from rfl,aa];simp only [Sem.run_bind,run_underlying underlying35,Result.andThen_ok];simp only [Std.Legacy.Range.forIn_eq_forIn_range',Std.Legacy.Range.size,ab,Nat.add_sub_cancel,Nat.div_one,ag,List.range'_zero,List.forIn_cons,List.forIn_nil];by_cases h0:b=x
 rotate_left
 ·have hd:¬([b,c,d,f,g,j]=[x,s,r,q,k,i]):=by intro e;simp only [ah.injEq] at e;exact h0 (by simp_all)
  rw [decide_eq_false hd];clear hd;have hb:(b==x)=false:=by simpa using h0
  go_simp
  all_goals simp_all
 subst h0;by_cases h1:c=s
 rotate_left
 ·have hd:¬([b,c,d,f,g,j]=[b,s,r,q,k,i]):=by intro e;simp only [ah.injEq] at e;exact h1 (by simp_all)
  rw [decide_eq_false hd];clear hd;have hb:(c==s)=false:=by simpa using h1
  go_simp
  all_goals simp_all
 subst h1;by_cases h2:d=r
 rotate_left
 ·have hd:¬([b,c,d,f,g,j]=[b,c,r,q,k,i]):=by intro e;simp only [ah.injEq] at e;exact h2 (by simp_all)
  rw [decide_eq_false hd];clear hd;have hb:(d==r)=false:=by simpa using h2
  go_simp
  all_goals simp_all
 subst h2;by_cases h3:f=q
 rotate_left
 ·have hd:¬([b,c,d,f,g,j]=[b,c,d,q,k,i]):=by intro e;simp only [ah.injEq] at e;exact h3 (by simp_all)
  rw [decide_eq_false hd];clear hd;have hb:(f==q)=false:=by simpa using h3
  go_simp
  all_goals simp_all
 subst h3;by_cases h4:g=k
 rotate_left
 ·have hd:¬([b,c,d,f,g,j]=[b,c,d,f,k,i]):=by intro e;simp only [ah.injEq] at e;exact h4 (by simp_all)
  rw [decide_eq_false hd];clear hd;have hb:(g==k)=false:=by simpa using h4
  go_simp
  all_goals simp_all
 subst h4;by_cases h5:j=i
 rotate_left
 ·have hd:¬([b,c,d,f,g,j]=[b,c,d,f,g,i]):=by intro e;simp only [ah.injEq] at e;exact h5 (by simp_all)
  rw [decide_eq_false hd];clear hd;have hb:(j==i)=false:=by simpa using h5
  go_simp
  all_goals simp_all
 subst h5;rw [decide_eq_true rfl];go_simp
theorem j12 {W:World} (h:∃ q,W=w.drewN q) (n:Nat):∃ q,W.drewN n=w.drewN q:=by
 obtain ⟨q,rfl⟩:=h;exact ⟨q+n,by simp only [World.drewN];rw [ac]⟩
theorem jfm (a b c d:Int) (w:World):(aa 10000 122 (.agg #[.int .u32 a,.int .u32 b]) (.agg #[.int .u32 c,.int .u32 d])).run prog w=.ok (decide ((a,b)=(c,d))) w:=by
 have u3:=underlying33;rw [show (10000:Nat)=9999+1 from rfl,run_equalIn_agg w 9999 122 _ _ (by kernel_rfl) (by kernel_rfl)];simp only [Program.fieldsOf,underlying122];go_simp;by_cases h1:a=c<;>by_cases h2:b=d<;>simp [h1,h2]
theorem jjd (X tv:Value) (xs g:List Int) (hx:Rw w 1 X (ux xs)) (hy:Rw w 1 tv (ux g)) (a0:xs.length<=1000000) :
  Calls prog 93 #[X,tv] w fun e w'=>e=.returned (.bool (decide (xs=g)))/\∃ q,w'=w.drewN q:=by
 obtain ⟨a,c,rfl,N,O,ha,z⟩:=hx;obtain ⟨a',c',rfl,H,I,P,f⟩:=hy;have B:(ux xs).length=xs.length:=by simp [ux]
 have A:(ux g).length=g.length:=by simp [ux]
 rw [B] at z ⊢;rw [A] at f ⊢;by_cases hl:xs.length=g.length
 ·obtain ⟨n,hn⟩:∃ n,xs.length=n:=⟨_,rfl⟩;have G:g.length=n:=by omega
  rw [G];rw [G] at f;rw [hn] at z ⊢;obtain ⟨D,J⟩:∃ D,decide (xs=g)=D:=⟨_,rfl⟩;rw [J];have R:Hid (∀ i,i<n->∃ b d,a=some ⟨b,d,none⟩/\w.rangeAt b (d+i*1) ((ux xs).getD i [])):=by
   intro i hi;rcases z with e|⟨b,d,rfl,hc⟩
   ·rw [e] at B;simp at B;omega
   ·exact ⟨b,d,rfl,fun j u C=>hc i (by omega) j u C⟩
  have Q:Hid (∀ i,i<n->∃ b d,a'=some ⟨b,d,none⟩/\w.rangeAt b (d+i*1) ((ux g).getD i [])):=by
   intro i hi;rcases f with e|⟨b,d,rfl,hc⟩
   ·rw [e] at A;simp at A;omega
   ·exact ⟨b,d,rfl,fun j u C=>hc i (by omega) j u C⟩
  clear z f N H O I ha P hl B A;go_enter func93,ntmps93;go_wp2_with fail
  go_loopw [5] (fun u5 w'=>∃ i:Nat,i<=n/\u5=.int .i64 i/\Hid ((∃ q,w'=w.drewN q)/\∀ j,j<i->xs[j]?=g[j]?)) (fun u5 w'=>n-(intOf u5).toNat)
  case atStart=>exact ⟨0,ad _,rfl,⟨0,rfl⟩,fun j C=>by omega⟩
  case round =>
   obtain ⟨i,hi,rfl,S⟩:=hrel;obtain ⟨⟨q,F⟩,k⟩:=S.out;have T:Hid (∃ q,wr=w.drewN q):=⟨q,F⟩;by_cases hlt:i<n
   ·have Y:(i:Int)<n:=by omega
    obtain ⟨b,d,rfl,M⟩:=R.out i hlt;obtain ⟨b',E,rfl,K⟩:=Q.out i hlt;obtain ⟨x,r⟩:∃ x,xs[i]?=some x:=⟨_,ai (by omega)⟩;obtain ⟨y,s⟩:∃ y,g[i]?=some y:=⟨_,ai (by omega)⟩;have ex:(ux xs).getD i []=[.int .u32 x]:=by simp [ux,aj,r]
    have Z:(ux g).getD i []=[.int .u32 y]:=by simp [ux,aj,s]
    rw [ex] at M;rw [Z] at K;have d3:wr.cell? ⟨b,d+i,none⟩=some (.int .u32 x):=by have:=M 0 _ rfl;rw [F];simpa using this
    have d4:wr.cell? ⟨b',E+i,none⟩=some (.int .u32 y):=by have:=K 0 _ rfl;rw [F];simpa using this
    have U:Hid (∀ j,j<i->xs[j]?=g[j]?):=k;clear R Q ex Z M K k S F;by_cases hxy:x=y
    ·have HF:Hid (∀ j,j<i+1->xs[j]?=g[j]?):=by
      intro j C;by_cases e:j=i
      ·rw [e,r,s,hxy]
      ·exact U.out j (by omega)
     clear r s U;subst hxy;have hb:(x != x)=false:=by simp
     go_upto_region 6 with fail
     go_quiet (fail)
     go_wp2_with fail;go_roundw
     case rel=>exact ⟨i+1,by omega,by go_num,j12 T.out _,HF.out⟩
     case measure=>simp [intOf];omega
    ·obtain rfl:D=false:=by
      rw [<-J];apply decide_eq_false;intro hc;rw [hc,s] at r;exact hxy (Option.some.inj r).symm
     have hb:(x != y)=true:=by simpa using hxy
     clear J r s U;go_upto_region 6 with fail
     go_quiet (fail)
     go_wp2_with fail;go_ret;exact ⟨rfl,j12 T.out _⟩
   ·have Y:¬((i:Int)<n):=by omega
    obtain rfl:i=n:=by omega
    obtain rfl:D=true:=by
     rw [<-J];apply decide_eq_true;apply ak;intro j;by_cases C:j<i
     ·exact k j C
     ·rw [al (by omega),al (by omega)]
    clear S k J R Q F;go_wp2_with fail;go_ret;exact ⟨rfl,T.out⟩
 ·rw [decide_eq_false (fun e=>hl (by rw [e]))];have Y:((xs.length:Int) != (g.length:Int))=true:=by simp;omega
  have h2:¬((xs.length:Int)=(g.length:Int)):=by omega
  clear z f hl;go_enter func93,ntmps93;go_wp2_with fail;go_ret;exact ⟨rfl,0,rfl⟩
theorem j7s (X tv:Value) (xs g:List (Int×Int)) (hx:Rw w 2 X (px xs)) (hy:Rw w 2 tv (px g)) (a0:xs.length<=1000000) :
  Calls prog 94 #[X,tv] w fun e w'=>e=.returned (.bool (decide (xs=g)))/\∃ q,w'=w.drewN q:=by
 obtain ⟨a,c,rfl,N,O,ha,z⟩:=hx;obtain ⟨a',c',rfl,H,I,P,f⟩:=hy;have B:(px xs).length=xs.length:=by simp [px]
 have A:(px g).length=g.length:=by simp [px]
 rw [B] at z ⊢;rw [A] at f ⊢;by_cases hl:xs.length=g.length
 ·obtain ⟨n,hn⟩:∃ n,xs.length=n:=⟨_,rfl⟩;have G:g.length=n:=by omega
  rw [G];rw [G] at f;rw [hn] at z ⊢;obtain ⟨D,J⟩:∃ D,decide (xs=g)=D:=⟨_,rfl⟩;rw [J];have R:Hid (∀ i,i<n->∃ b d,a=some ⟨b,d,none⟩/\w.rangeAt b (d+i*2) ((px xs).getD i [])):=by
   intro i hi;rcases z with e|⟨b,d,rfl,hc⟩
   ·rw [e] at B;simp at B;omega
   ·exact ⟨b,d,rfl,fun j u F=>hc i (by omega) j u F⟩
  have Q:Hid (∀ i,i<n->∃ b d,a'=some ⟨b,d,none⟩/\w.rangeAt b (d+i*2) ((px g).getD i [])):=by
   intro i hi;rcases f with e|⟨b,d,rfl,hc⟩
   ·rw [e] at A;simp at A;omega
   ·exact ⟨b,d,rfl,fun j u F=>hc i (by omega) j u F⟩
  clear z f N H O I ha P hl B A;go_enter func94,ntmps94;go_wp2_with fail
  go_loopw [5] (fun u5 w'=>∃ i:Nat,i<=n/\u5=.int .i64 i/\Hid ((∃ q,w'=w.drewN q)/\∀ j,j<i->xs[j]?=g[j]?)) (fun u5 w'=>n-(intOf u5).toNat)
  case atStart=>exact ⟨0,ad _,rfl,⟨0,rfl⟩,fun j F=>by omega⟩
  case round =>
   obtain ⟨i,hi,rfl,S⟩:=hrel;obtain ⟨⟨q,E⟩,k⟩:=S.out;have T:Hid (∃ q,wr=w.drewN q):=⟨q,E⟩;by_cases hlt:i<n
   ·have Y:(i:Int)<n:=by omega
    obtain ⟨b,d,rfl,M⟩:=R.out i hlt;obtain ⟨b',C,rfl,K⟩:=Q.out i hlt;obtain ⟨x,r⟩:∃ x,xs[i]?=some x:=⟨_,ai (by omega)⟩;obtain ⟨y,s⟩:∃ y,g[i]?=some y:=⟨_,ai (by omega)⟩;have ex:(px xs).getD i []=[.int .u32 x.1,.int .u32 x.2]:=by simp [px,aj,r]
    have Z:(px g).getD i []=[.int .u32 y.1,.int .u32 y.2]:=by simp [px,aj,s]
    rw [ex] at M;rw [Z] at K;have d3:wr.cell? ⟨b,d+i*2,none⟩=some (.int .u32 x.1):=by have:=M 0 _ rfl;rw [E];simpa using this
    have d5:wr.cell? ⟨b,d+i*2+1,none⟩=some (.int .u32 x.2):=by have:=M 1 _ rfl;rw [E];simpa using this
    have d4:wr.cell? ⟨b',C+i*2,none⟩=some (.int .u32 y.1):=by have:=K 0 _ rfl;rw [E];simpa using this
    have d6:wr.cell? ⟨b',C+i*2+1,none⟩=some (.int .u32 y.2):=by have:=K 1 _ rfl;rw [E];simpa using this
    have U:Hid (∀ j,j<i->xs[j]?=g[j]?):=k;clear R Q ex Z M K k S E;by_cases hxy:x=y
    ·have HF:Hid (∀ j,j<i+1->xs[j]?=g[j]?):=by
      intro j F;by_cases e:j=i
      ·rw [e,r,s,hxy]
      ·exact U.out j (by omega)
     clear r s U;subst hxy;have hb:=fun V=>jfm x.1 x.2 x.1 x.2 V;simp only [decide_true] at hb;go_upto_region 6 with fail
     go_quiet (fail)
     go_wp2_with fail;go_roundw
     case rel=>exact ⟨i+1,by omega,by go_num,j12 T.out _,HF.out⟩
     case measure=>simp [intOf];omega
    ·obtain rfl:D=false:=by
      rw [<-J];apply decide_eq_false;intro hc;rw [hc,s] at r;exact hxy (Option.some.inj r).symm
     have hb:=fun V=>jfm x.1 x.2 y.1 y.2 V;rw [decide_eq_false (show ¬((x.1,x.2)=(y.1,y.2)) from hxy)] at hb;clear J r s U;go_upto_region 6 with fail
     go_quiet (fail)
     go_wp2_with fail;go_ret;exact ⟨rfl,j12 T.out _⟩
   ·have Y:¬((i:Int)<n):=by omega
    obtain rfl:i=n:=by omega
    obtain rfl:D=true:=by
     rw [<-J];apply decide_eq_true;apply ak;intro j;by_cases F:j<i
     ·exact k j F
     ·rw [al (by omega),al (by omega)]
    clear S k J R Q E;go_wp2_with fail;go_ret;exact ⟨rfl,T.out⟩
 ·rw [decide_eq_false (fun e=>hl (by rw [e]))];have Y:((xs.length:Int) != (g.length:Int))=true:=by simp;omega
  have h2:¬((xs.length:Int)=(g.length:Int)):=by omega
  clear z f hl;go_enter func94,ntmps94;go_wp2_with fail;go_ret;exact ⟨rfl,0,rfl⟩
end
section
open Go.RowKit Sm
abbrev lgT:TypeId:=131
abbrev lgA (p:Nat) (t c:Int) (v:Value):Array Value:=#[.pointer (some ⟨p,0,none⟩),.int .u64 t,.int .i64 c,v]
structure Lg where
 t:Int
 c:Int
 r:List Int
theorem jlv (bl:List (List Int)):(fd bl).length<=2:=by
 unfold fd;split<;>try simp
 split<;>simp
theorem jll {k i:Nat} {acc r:List Int} (hb:∀ b∈bl,b.length=m/\j6 b) (g:256<=m) (h:rdL bl slot t k i acc=some r):r.length<=acc.length+k*m:=by
 induction k generalizing i acc with
 | zero=>rw [rdL] at h;cases h;simp
 | succ k ih =>
  rw [rdL] at h;split at h
  ·cases h
  ·rename_i q c;split at h
   ·have:=ih h;rw [am] at this;have f:q.b.length<=m:=by
     unfold rp at c;split at c
     ·cases c
     ·rename_i q' d;split at c
      ·cases c
      ·simp only [Option.some.injEq] at c;subst c;by_cases hz:slot*sbk bl.length+i<bl.length
       ·have e:bl.getD (slot*sbk bl.length+i) []=bl[slot*sbk bl.length+i]:=by simp [aj,hz]
        rw [e] at d;have o:=hb _ (List.getElem_mem hz);have:=(j3m d o.1 g o.2).2.1;omega
       ·have e:bl.getD (slot*sbk bl.length+i) []=[]:=by simp [aj,Nat.le_of_not_lt hz]
        rw [e] at d;simp [unf] at d
    rw [af];omega
   ·cases h
theorem jqg {x:En} (hb:∀ b∈bl,b.length=m/\j6 b) (d:256<=m) (c:m<=65536) (j:bl.length<=64) (h:rd bl slot=some x):x.r.length<=1000000000:=by
 unfold rd at h;split at h
 ·cases h
 ·rename_i f e;simp only [Option.map_eq_some_iff] at h;obtain ⟨r,hr,rfl⟩:=h;have y:=jll hb d hr;have s:(f.n.toNat-1)*m<=31*65536:=Nat.mul_le_mul (by have:=(rp_n e).2;unfold sbk at this;omega) c;have q:f.b.length<=65536:=by
   have g:=jll (k:=1) (i:=0) (acc:=[]) (r:=f.b) (t:=f.t) hb d (by rw [rdL,e];simp [rdL]);simp at g;omega
  simp only;omega
theorem jlu {x:En} (h:x∈fd bl):rd bl 0=some x\/rd bl 1=some x:=by
 unfold fd at h;split at h
 ·simp at h
 ·rename_i a d c;simp at h;subst h;exact Or.inl d
 ·rename_i a d c;simp at h;subst h;exact Or.inr c
 ·rename_i a b d c;split at h<;>simp at h<;>rcases h with e|e<;>subst e
  ·exact Or.inr c
  ·exact Or.inl d
  ·exact Or.inl d
  ·exact Or.inr c
section
variable {w W:World} {p h m:Nat} {D:Dk} {hc:Array Value} {ks:List Bk} {L:List (Nat×Obj)}
theorem DkAt.rows (H:DkAt w W p h m D hc ks L):∀ b∈ks.map Bk.b,b.length=m/\j6 b:=by
 intro b hb;obtain ⟨k,c,rfl⟩:=an.mp hb;have o:=H.st.ok k c;exact ⟨o.len,o.bytes⟩
theorem jfs (H:DkAt w W p h m D hc ks L) (hG:Gl W a) (hd:D.dead=false) (hn:4<=ks.length) (hm:256<=m) :
  Calls prog 40 #[.pointer (some ⟨p,0,none⟩)] W fun e G=>∃ pl s,e=.returned (.tuple #[.pointer (some ⟨pl,0,none⟩),s,.int .i64 0])/\∃ vr X,OwnV vr (nw (fd (ks.map Bk.b))).r X/\∃ Y,RS s (kp (fd (ks.map Bk.b))) Y/\∃ K,
   Mem W G ((pl,.cells (lgA p (nw (fd (ks.map Bk.b))).t (nw (fd (ks.map Bk.b))).c vr) lgT (0,0))::(X++(Y++K))):=by
 have hf:=j83 H;rw [show (decide (4<=ks.length) && decide (256<=m))=true by simp [hn,hm]] at hf;have a1:=j8a H hG hd hn hm;have HB:Hid (∀ x∈fd (ks.map Bk.b),x.r.length<=1000000000):=by
  intro x hx;rcases jlu hx with e|e<;>exact jqg H.rows hm H.mhi (by rw [ao];exact H.top) e
 have HL:=jlv (ks.map Bk.b);generalize fd (ks.map Bk.b)=J at *;generalize hq:nw J=q;obtain ⟨qs,y,z,i⟩:=q;have HQ:Hid (nw J=⟨qs,y,z,i⟩):=hq;show Calls _ _ _ _ fun e G=>∃ pl s,e=.returned (.tuple #[.pointer (some ⟨pl,0,none⟩),s,.int .i64 0])/\∃ vr X,OwnV vr i X/\∃ Y,RS s (kp J) Y/\∃ K,Mem W G ((pl,.cells (lgA p y z vr) lgT (0,0))::(X++(Y++K)));clear H hG hq;go_enter func40,ntmps40;go_wp2_with fail;refine hf.mono ?_;rintro e w' ⟨rfl,rfl⟩;go_wp2_with fail;refine a1.mono ?_;rintro e M ⟨v,rfl,l,hl,Y,hE,K,hM⟩;have O:l.length<=2:=by rw [<-ao (f:=Prod.fst),hl];exact HL
 have hN:=j2g hE hM O;have a0:∀ x∈l,x.1.r.length<=1000000000:=fun x hx=>HB.out _ (by rw [<-hl];exact List.mem_map_of_mem hx);have Q:∃ X R,OwnV (j1u l).2 (j1u l).1.r X/\Y.Perm (X++R):=by
  rcases List.eq_nil_or_concat l with e|⟨l',x,e⟩
  ·subst e;rcases hE with ⟨_,_,rfl⟩|⟨g,cap,cur,Xs,_,h0,_⟩
   ·exact ⟨[],[],Or.inl ⟨rfl,rfl,rfl⟩,List.Perm.refl _⟩
   ·simp at h0
  ·subst e;have:j1u (l'.concat x)=x:=by simp [j1u]
   rw [this];exact jgy hE (by simp)
 obtain ⟨X,R,ho,pm⟩:=Q;have N:=jbx l;rw [hl,HQ.out] at N;have a7:Hid (∀ V d,Mem M V d->Calls prog 70 #[v] V fun e G=>∃ s,e=.returned s/\∃ E,RS s (kp J) E/\∃ d,Mem V G (E++d)):=fun V d T=>by
  have:=jk3 hE (K:=K++d) (by have:=hM.join T;rw [ap] at this;exact this) O a0;rwa [hl] at this
 have a3:Mem W M (X++(R++K)):=by
  have:=hM.perm (pm.append_right K);rwa [ap] at this
 rw [N] at hN ho;generalize (j1u l).2=lv at *;obtain ⟨F,cv,ev,-⟩:=ho.shape;subst ev;have a2:Calls prog 69 #[v] M fun e G=>e=.returned (.agg (enA qs y z (.slice F i.length cv)))/\∃ d,Mem M G d:=hN;have HO:Hid (OwnV (.slice F i.length cv) i X):=ho;have a6:Hid (Mem W M (X++(R++K))):=a3;obtain ⟨ae,ce,ee⟩:=hE.shape;subst ee;clear hE hM hN ho pm a1 hf N hl a0 HL HB a3 O;go_wp2_with fail;refine a2.mono ?_;rintro e w3 ⟨rfl,K3,h3⟩;go_upto_region 7 with fail;refine j5 (fun V=>Mem M V (K3++[(w3.heap.size,.cells (enA qs y z (.slice F i.length cv)) enT (0,0))])) (h3.alloc _) ?_;intro k hx;have kb:∀ j,k.cell? ⟨w3.heap.size,j,none⟩=(enA qs y z (.slice F i.length cv))[j]?:=fun j=>cell_of (hx.at_ (w3.heap.size,_) (aq _ (List.mem_singleton.mpr rfl))) j;have k1:=kb 1;have k2:=kb 2;have k3:=kb 3;simp at k1 k2 k3;have S:w3.heap.size<k.heap.size:=j9 k1;have HX:Hid (Mem M k (K3++[(w3.heap.size,.cells (enA qs y z (.slice F i.length cv)) enT (0,0))])):=hx;clear h3 hx kb a2;generalize w3.heap.size=U at *
 go_cut [2,3,4] from 8 (fun s2 s3 s4 wy=>s4=.int .i64 0/\∃ pl,s2=.pointer (some ⟨pl,0,none⟩)/\∃ E,RS s3 (kp J) E/\∃ d,Mem k wy ((pl,.cells (lgA p y z (.slice F i.length cv)) lgT (0,0))::(E++d)))
 case first =>
  have Z:Hid (∀ V d,Mem k V d->Calls prog 70 #[.slice ae l.length ce] V fun e G=>∃ s,e=.returned s/\∃ E,RS s (kp J) E/\∃ d,Mem V G (E++d)):=fun V d T=>a7.out V _ (HX.out.join T);have a5:∀ (V:World),Mem V (V.alloc (.cells (lgA p y z (.slice F i.length cv)) lgT)) [(V.heap.size,.cells (lgA p y z (.slice F i.length cv)) lgT (0,0))]:=fun V=>(Mem.nil V).push1 rfl;have I:Hid (∀ (V:World),Mem V (V.alloc (.cells (lgA p y z (.slice F i.length cv)) lgT)) [(V.heap.size,.cells (lgA p y z (.slice F i.length cv)) lgT (0,0))]):=a5;clear a5;have a9:Hid (Calls prog 70 #[.slice ae l.length ce] (k.alloc (.cells (lgA p y z (.slice F i.length cv)) lgT)).drew fun e G=>∃ s,e=.returned s/\∃ E,RS s (kp J) E/\∃ d,Mem (k.alloc (.cells (lgA p y z (.slice F i.length cv)) lgT)).drew G (E++d)):=Z.out _ _ (I.out k).drew;have a8:Hid (Calls prog 70 #[.slice ae l.length ce] k.drew fun e G=>∃ s,e=.returned s/\∃ E,RS s (kp J) E/\∃ d,Mem k.drew G (E++d)):=Z.out _ _ (Mem.nil k).drew;have HS:Hid (∀ V K,Mem k V K->V.cell? ⟨U,1,none⟩=some (.int .u64 y)/\V.cell? ⟨U,2,none⟩=some (.int .i64 z)/\V.cell? ⟨U,3,none⟩=some (.slice F i.length cv)):=fun V K T=>⟨(T.old S).trans k1,(T.old S).trans k2,(T.old S).trans k3⟩;clear Z
  go_region_held3 (fun w'=>w'.cell? ⟨U,1,none⟩=some (.int .u64 y)/\w'.cell? ⟨U,2,none⟩=some (.int .i64 z)/\w'.cell? ⟨U,3,none⟩=some (.slice F i.length cv))
   (first|go_keep|assumption|exact HS.out _ _ ((I.out k).drew.join q5)|exact HS.out _ _ ((Mem.nil k).drew.join q5)|exact HS.out _ _ ((I.out k)))
   (first
    | (go_at_call 70;with_reducible refine a9.out.mono ?_;rintro e w5 ⟨v5,rfl,Y5,r5,K5,q5⟩)
    | (go_at_call 70;with_reducible refine a8.out.mono ?_;rintro e w5 ⟨v5,rfl,Y5,r5,K5,q5⟩))
  all_goals
   go_wp2_with fail;go_meet
   case rel=>first
    | exact ⟨rfl,k.heap.size,rfl,Y5,r5,K5,(I.out k).drew.join q5⟩
    | exact ⟨rfl,w5.heap.size,rfl,Y5,r5,K5,(((Mem.nil k).drew.join q5).join (I.out w5)).perm ar⟩
 case rest =>
  obtain ⟨rfl,pl,rfl,E,hR,d,a4⟩:=hcut;have HE:Hid (Mem W wc ((pl,.cells (lgA p y z (.slice F i.length cv)) lgT (0,0))::(X++(E++(d++(R++K++(K3++[(U,.cells (enA qs y z (.slice F i.length cv)) enT (0,0))]))))))):=by
   have h9:=(a6.out.join HX.out).join a4;refine h9.perm ?_;have e:∀ (P:Nat×Obj) (A B C Y K:List (Nat×Obj)),((A++B)++C++(P::(Y++K))).Perm (P::(A++(Y++(K++(B++C))))):=by
    intro P A B C Y K;refine au.trans (List.Perm.cons P ?_);simp only [ap];refine List.Perm.append_left A ?_;have h1:(B++(C++(Y++K)))=(B++C)++(Y++K):=by simp
    have h2:(Y++(K++(B++C)))=(Y++K)++(B++C):=by simp
    rw [h1,h2];exact ar
   exact e _ _ _ _ _ _
  clear a4 a6 HX a7 k1 k2 k3
  go_wp2
  exact bodyPost_ret (v:=.tuple #[.pointer (some ⟨pl,0,none⟩),u3,.int .i64 0]) (by simp [results,results40,go_sem]) rfl ⟨pl,u3,rfl,_,X,HO.out,E,hR,_,HE.out⟩
end
end
section
open Go.RowKit Sm Cf
structure Cgf where
 ip:Int
 mac:List Int
 omac:List Int
 nmac:List Int
 key:List Int
 drain:Int
 ten:List Ten
structure CLen (c:Cgf):Prop where
 mac:c.mac.length=6
 omac:c.omac.length=6
 nmac:c.nmac.length=6
 key:c.key.length=8
structure CIn (c:Cgf):Prop where
 len:CLen c
 mac:j6 c.mac
 omac:j6 c.omac
 nmac:j6 c.nmac
 key:j6 c.key
def cc (c:Cgf) (v:Value):List Value:=.int .u32 c.ip::(c.mac.map (aE .u8)++(c.omac.map (aE .u8)++(c.nmac.map (aE .u8)++(c.key.map (aE .u8)++[.int .u32 c.drain,v]))))
theorem je {c:Cgf} (h:CLen c) (v:Value):(cc c v).length=29:=by simp [cc,h.mac,h.omac,h.nmac,h.key]
def cfg0:Cgf:=⟨0,[0,0,0,0,0,0],[0,0,0,0,0,0],[0,0,0,0,0,0],[0,0,0,0,0,0,0,0],0,[]⟩
theorem yw:CLen cfg0:=⟨rfl,rfl,rfl,rfl⟩
abbrev cz:Array Value:=(cc cfg0 nilV).toArray
theorem cset {t t':Cgf} {p':Value} (h:CLen t) (e:∀ z a b c d f g O M J H E B N K I G C A y x s r q k j k8 F i,
  t=⟨z,[a,b,c,d,f,g],[O,M,J,H,E,B],[N,K,I,G,C,A],[y,x,s,r,q,k,j,k8],F,i⟩->(cc t p).set o v=cc t' p'):(cc t p).set o v=cc t' p':=by
 obtain ⟨z,P,U,nm,key,F,i⟩:=t;obtain ⟨T,S,R,Q⟩:=h;obtain ⟨a,b,c,d,f,g,rfl⟩:=six6 T;obtain ⟨O,M,J,H,E,B,rfl⟩:=six6 S;obtain ⟨N,K,I,G,C,A,rfl⟩:=six6 R;obtain ⟨y,x,s,r,q,k,j,k8,rfl⟩:=kt Q;exact e z a b c d f g O M J H E B N K I G C A y x s r q k j k8 F i rfl
theorem cget {t:Cgf} (h:CLen t) (e:∀ z a b c d f g O M J H E B N K I G C A y x s r q k j k8 F i,
  t=⟨z,[a,b,c,d,f,g],[O,M,J,H,E,B],[N,K,I,G,C,A],[y,x,s,r,q,k,j,k8],F,i⟩->(cc t p)[o]?=some v):(cc t p)[o]?=some v:=by
 obtain ⟨z,P,U,nm,key,F,i⟩:=t;obtain ⟨T,S,R,Q⟩:=h;obtain ⟨a,b,c,d,f,g,rfl⟩:=six6 T;obtain ⟨O,M,J,H,E,B,rfl⟩:=six6 S;obtain ⟨N,K,I,G,C,A,rfl⟩:=six6 R;obtain ⟨y,x,s,r,q,k,j,k8,rfl⟩:=kt Q;exact e z a b c d f g O M J H E B N K I G C A y x s r q k j k8 F i rfl
abbrev Tz:=Ten×Nat×Nat×Nat
def tcs (z:Tz):List Value:=tc z.1 (lv z.2.1 (ux z.1.pool)) (lv z.2.2.1 (px z.1.stat)) (lv z.2.2.2 (px z.1.twi))
def tbs (z:Tz):List (Nat×Obj):=lb z.2.1 33 (ux z.1.pool)++(lb z.2.2.1 122 (px z.1.stat)++lb z.2.2.2 122 (px z.1.twi))
def tok (z:Tz):Prop:=TLen z.1/\(z.1.pool.length<=255/\z.1.stat.length<=255/\z.1.twi.length<=255)
def tbk (h:Nat):List Tz->List (Nat×Obj)
 | []=>[]
 | z::zs=>(h,.cells ((z::zs).flatMap tcs).toArray 46)::(z::zs).flatMap tbs
theorem j7c {b:List Tz} (e:b≠[]):tbk h b=(h,.cells (b.flatMap tcs).toArray 46)::b.flatMap tbs:=by
 cases b with
 | nil=>exact absurd rfl e
 | cons z b=>rfl
theorem jeo {b:List Tz} (h:∀ z∈b,tok z):(b.flatMap tcs).length=b.length*33:=by
 induction b with
 | nil=>rfl
 | cons z b ih =>
  rw [av,am,ih (fun z c=>h z (aw _ c)),ax,af];have:(tcs z).length=33:=ji (h z (List.mem_cons_self ..)).1 _ _ _;omega
def JC:St' Cgf:=fun w c g T pre post V K=>CLen c/\c.ten.length<=255/\∃ h zs,zs.map Prod.fst=c.ten/\(∀ z∈zs,tok z) /\
 Mem w V ((g,.cells (pre++(cc c (lv h (zs.map tcs))++post)).toArray T (0,0))::(tbk h zs++K))
theorem jlr {β:Type} (o:Nat) (C:o<29) (old:Cgf->Value) (k:β->Value) (f:Cgf->β->Cgf) (d:∀ t p,CLen t->(cc t p)[o]?=some (old t)) (c:∀ t y p,CLen t->(cc t p).set o (k y)=cc (f t y) p)
  (E:∀ t y,CLen t->CLen (f t y)) (r:∀ t y,(f t y).ten=t.ten) :
  ∀ t g T b post V K,JC w t g T b post V K->∃ A M,Lens w JC o t g T b post V K M A/\A[b.length+o]?=some (old t) /\
   ∀ y i,Mem w i ((g,.cells (A.setIfInBounds (b.length+o) (k y)) T (0,0))::M)->JC w (f t y) g T b post i K:=by
 rintro t g T b post V K ⟨e,hb,h,x,z,j,F⟩;refine ⟨_,_,⟨F,fun q B=>aq _ B,fun i h=>h.dropA⟩,jy _ _ _ o _ (d _ _ e),fun y i s=>?_⟩;rw [set_mid _ _ _ o _ (by rw [je e];exact C),c _ _ _ e] at s;exact ⟨E t y e,by rw [r];exact hb,h,x,by rw [r];exact z,j,s⟩
theorem j6j (o n:Nat) (f:Cgf->List Int->Cgf) (hcut:∀ t p,CLen t->∃ a b c,a.length=o/\b.length=n/\cc t p=a++(b++c)/\∀ y,cc (f t y) p=a++(y.map (aE .u8)++c))
  (H:∀ t y,y.length=n->CLen t->CLen (f t y)) (x:∀ t y,(f t y).ten=t.ten) :
  ∀ t g T d post V K,JC w t g T d post V K->∃ A M,Lens w JC o t g T d post V K M A/\d.length+o+n<=A.size /\
   ∀ y i,y.length=n->j6 y->Mem w i ((g,.cells (spl A (d.length+o) y) T (0,0))::M)->JC w (f t y) g T d post i K:=by
 rintro t g T d post V K ⟨z,hb,h,s,E,j,I⟩;obtain ⟨a,b,c,B,r,e,k⟩:=hcut t (lv h (s.map tcs)) z;refine ⟨_,_,⟨I,fun q G=>aq _ G,fun i h=>h.dropA⟩,?_,fun y i F _ C=>?_⟩
 ·rw [e];simp [B,r];omega
 ·rw [e,<-B,jf2 d a b c post y (by omega),<-k y] at C;exact ⟨H t y F z,by rw [x];exact hb,h,s,by rw [x];exact E,j,C⟩
def tz0:Tz:=(ten0,0,0,0)
theorem jps:tok tz0:=⟨j1h,by decide,by decide,by decide⟩
theorem jmq (m:Nat):(ay m tz0).flatMap tbs=[]:=by
 induction m with
 | zero=>rfl
 | succ m ih=>rw [az,av,ih];rfl
theorem jqy (m:Nat):madeCells (aF (tc ten0 nilV nilV nilV).toArray).cells (m*33)=((ay m tz0).flatMap tcs).toArray:=by
 apply Array.toList_inj.mp;have:=yb (aF (tc ten0 nilV nilV nilV).toArray).cells m (by decide);rw [show (aF (tc ten0 nilV nilV nilV).toArray).cells.size=33 from rfl] at this;rw [this]
 induction m with
 | zero=>rfl
 | succ m ih =>
  have b:=yb (aF (tc ten0 nilV nilV nilV).toArray).cells m (by decide);rw [show (aF (tc ten0 nilV nilV nilV).toArray).cells.size=33 from rfl] at b;rw [az,List.flatten_cons,ih b,az];rfl
def j3t (c:Cgf) (m:Nat):Cgf:=if m=0 then c else { c with ten:=ay m ten0 }
theorem jgf:∀ t g T i post V K,JC w t g T i post V K->∃ A M y,Lens w JC 28 t g T i post V K M A/\A[i.length+28]?=some y /\
   ∀ m s,m<=255->j76 w s g A T (i.length+28) M m->JC w (j3t t m) g T i post s K:=by
 rintro t g T i post V K ⟨j,hb,h,x,B,C,S⟩;refine ⟨_,_,_,⟨S,fun q Q=>aq _ Q,fun s h=>h.dropA⟩,jy _ _ _ 28 _ (cget (v:=lv h (x.map tcs)) j (by rintro P a b c d f g a1 b1 c1 d1 Z X a2 b2 c2 d2 Y U O N J I H G F k8 dr E rfl;rfl)),fun m s R k=>?_⟩;rcases k with ⟨rfl,k⟩|⟨h0,h',k⟩
 ·exact ⟨j,hb,h,x,B,C,k⟩
 ·rw [set_mid _ _ _ 28 _ (by rw [je j];omega),jqy] at k;unfold j3t;rw [if_neg (by omega)];have r:ay m tz0≠[]:=by
   cases m with
   | zero=>omega
   | succ m=>simp [az]
  refine ⟨⟨j.mac,j.omac,j.nmac,j.key⟩,by simpa using R,h',ay m tz0,by simp [tz0],fun z B=>by rw [(List.mem_replicate.mp B).2];exact jps,?_⟩;have e:(cc t (lv h (x.map tcs))).set 28 (.slice (some ⟨h',0,none⟩) m m)=cc { t with ten:=ay m ten0 } (lv h' ((ay m tz0).map tcs)):=by
   rw [j0o (h:=h') (xs:=(ay m tz0).map tcs) (fun e=>r (List.map_eq_nil_iff.mp e)),ao,List.length_replicate];exact cset j (by rintro P a b c d f g a1 b1 c1 d1 Z X a2 b2 c2 d2 Y U O N J I H G F k8 dr E rfl;rfl)
  rw [e] at k;rw [j7c r,jmq];exact k.subl ((List.sublist_append_right _ _).cons_cons _ |>.cons_cons _)
def IMT (w:World) (h:Nat) (M:List (Nat×Obj)) (V:World) (ys:List Ten):Prop:=∃ zs:List Tz,zs.map Prod.fst=ys/\(∀ z∈zs,tok z)/\Mem w V (tbk h zs++M)
theorem jgd:∀ t g T i post V K,JC w t g T i post V K->t.ten.length<=255/\∃ hb M s sc,(0<t.ten.length->s=some ⟨hb,0,none⟩)/\Sub K M/\(∀ x,Mem w x M->Mem w x K)/\V.cell? ⟨g,i.length+28,none⟩=some (.slice s t.ten.length sc) /\
   IMT w hb M V t.ten/\∀ y x,y.length=t.ten.length->IMT w hb M x y->JC w { t with ten:=y } g T i post x K:=by
 rintro t g T i post V K ⟨A,hb,h,k,J,F,I⟩;have j:V.cell? ⟨g,i.length+28,none⟩=some (lv h (k.map tcs)):=by
  rw [I.cell 0 rfl];exact jy _ _ _ 28 _ (cget A (by rintro ip a b c d f g a1 b1 c1 d1 f1 g1 a2 b2 c2 d2 f2 g2 k1 k2 k3 Z Y X U k8 dr S rfl;rfl))
 have r:k.length=t.ten.length:=by rw [<-J,ao]
 obtain ⟨s,sc,hs,E⟩:∃ s sc,lv h (k.map tcs)=.slice s t.ten.length sc/\(0<t.ten.length->s=some ⟨h,0,none⟩):=by
  rw [<-r];cases k with
  | nil=>exact ⟨none,0,rfl,fun h=>by simp at h⟩
  | cons z k=>exact ⟨some ⟨h,0,none⟩,(z::k).length,by rw [j0o (by simp),ao],fun _=>rfl⟩
 rw [hs] at j;obtain ⟨G,P⟩:∃ G:Nat×Obj,G=(g,.cells (i++(cc t (lv h (k.map tcs))++post)).toArray T (0,0)):=⟨_,rfl⟩;rw [<-P] at I;refine ⟨hb,h,G::K,s,sc,E,fun q Q=>aw _ Q,fun x H=>H.sub,j,⟨k,J,F,I.perm (au (l₁:=_)).symm⟩,?_⟩;rintro y x N ⟨B,O,C,H⟩;refine ⟨⟨A.mac,A.omac,A.nmac,A.key⟩,by simp only [N];exact hb,h,B,O,C,?_⟩;have e:lv h (B.map tcs)=lv h (k.map tcs):=jbt (by rw [ao,ao,r,<-N,<-O,ao]);have R:cc { t with ten:=y } (lv h (B.map tcs))=cc t (lv h (k.map tcs)):=by rw [e];rfl
 rw [R,<-P];exact H.perm (au (l₁:=_))
abbrev Tv:=Ten×Value×Value×Value
def zc (z:Tv):List Value:=tc z.1 z.2.1 z.2.2.1 z.2.2.2
def Rws (V:World) (z:Tv):Prop:=Rw V 1 z.2.1 (ux z.1.pool)/\Rw V 2 z.2.2.1 (px z.1.stat)/\Rw V 2 z.2.2.2 (px z.1.twi)
def IC:Rp Cgf (Value×List Tv):=fun c r V g off=>CIn c/\V.rangeAt g off (cc c r.1)/\r.2.map Prod.fst=c.ten/\Rw V 33 r.1 (r.2.map zc)/\∀ z∈r.2,TIn z.1/\Rws V z
theorem IC.cell {t:Cgf} {r:Value×List Tv} {g b:Nat} (h:IC t r V g b) (o:Nat) (c:(cc t r.1)[o]?=some v):V.cell? ⟨g,b+o,none⟩=some v:=h.2.1 o v c
theorem IC.row {t:Cgf} {r:Value×List Tv} {g b:Nat} (h:IC t r V g b) (o:Nat) (x:List Int) (hb:j6 x) (hx:x.length<=1000) (a c:List Value) (d:a.length=o) (e:cc t r.1=a++(x.map (aE .u8)++c)) :
  Row V (some ⟨g,b+o,none⟩) x:=by
 refine ⟨hb,by omega,Or.inr ⟨g,b+o,rfl,fun i hi=>?_⟩⟩;have:=h.2.1 (o+i) (.int .u8 (x.getD i 0)) (by
  rw [e,List.getElem?_append_right (by omega),List.getElem?_append_left (by simp;omega),d,Nat.add_sub_cancel_left];simp [hi])
 rw [ac];exact this
theorem j2y {xs:List (List Value)} (h:Rw V sz v xs):v.oneCell'=true:=by
 obtain ⟨a,c,rfl,-⟩:=h;rfl
theorem jlf {z:Tv} (h:Rws V z):(zc z).toArray.all (·.oneCell')=true:=by
 apply all_oneCell_toArray;intro v b;simp only [zc,tc,List.mem_cons,List.mem_append,an,List.not_mem_nil,or_false] at b;rcases b with rfl|rfl|⟨x,_,rfl⟩|rfl|⟨x,_,rfl⟩|⟨x,_,rfl⟩|rfl|rfl|rfl|rfl|rfl|rfl|rfl|rfl|rfl|rfl<;>first|rfl|exact j2y h.1|exact j2y h.2.1|exact j2y h.2.2
structure Fw {α ρ:Type} (w:World) (L:List (Nat×Obj)) (I:Rp α ρ) (J:St' α) (f:Fv) (s:Sp α):Prop where
 ew:Ent f.kw
 er:Ent f.kr
 wr:∀ K,Sub L K->∀ x r g off,(∀ V,Mem w V K->I x r V g off)->∀ v l V,Out w V v l K->l.length+(s.enc x).length<=1000000000 ->
  Calls prog f.kw (#[v,.pointer (some ⟨g,off,none⟩)]++f.cw) V fun e V'=>∃ v',e=.returned v'/\Out w V' v' (l++s.enc x) K
 rd:∀ K,Sub L K->∀ x g T pre post a l c V,J w x g T pre post V K->Sl w a l c ->
  Calls prog f.kr (#[.slice a l.length c,.pointer (some ⟨g,pre.length,none⟩)]++f.cr) V (qh w K (fun y V'=>J w y g T pre post V' K) (s.dec l x))
theorem Fd.fw {α ρ:Type} {I:Rp α ρ} {J:St' α} {f:Fv} {s:Sp α} (h:Fd w L I J f s):Fw w L I J f s:=⟨h.ew,h.er,h.wr,h.rd⟩
theorem Fw.more {α ρ:Type} {K:List (Nat×Obj)} {I:Rp α ρ} {J:St' α} {f:Fv} {s:Sp α} (h:Fw w L I J f s) (hs:Sub L K):Fw w K I J f s :=
 ⟨h.ew,h.er,fun M b=>h.wr M (hs.trans b),fun M b=>h.rd M (hs.trans b)⟩
inductive FwAll {α ρ:Type} (w:World) (L:List (Nat×Obj)) (I:Rp α ρ) (J:St' α):List Fv->List (Sp α)->Prop
 | nil:FwAll w L I J [] []
 | cons {f:Fv} {s:Sp α} {fs:List Fv} {ss:List (Sp α)}:Fw w L I J f s->FwAll w L I J fs ss->FwAll w L I J (f::fs) (s::ss)
theorem FwAll.at_ {α ρ:Type} {I:Rp α ρ} {J:St' α} {b:List Fv} {ss:List (Sp α)} (h:FwAll w L I J b ss):∀ i,i<b.length->Fw w L I J (b.getD i fv0) (ss.getD i sp0):=by
 induction h with
 | nil=>intro i hi;simp at hi
 | cons h1 h2 ih =>
  intro i hi;cases i with
  | zero=>exact h1
  | succ i=>exact ih i (by simpa using hi)
theorem FwAll.len {α ρ:Type} {I:Rp α ρ} {J:St' α} {b:List Fv} {ss:List (Sp α)} (h:FwAll w L I J b ss):b.length=ss.length:=by
 induction h with
 | nil=>rfl
 | cons _ _ ih=>simp [ih]
theorem jk9 {α ρ:Type} {I:Rp α ρ} {J:St' α} (C lb n:Nat) (b:List Fv) (ss:List (Sp α)) (P:b.length=n) (z:n<=1000)
  (O:(C,.cells #[.slice (some ⟨lb,0,none⟩) n n] 248)∈L) (F:(lb,.cells (b.flatMap Fv.cells).toArray 189)∈L)
  (j:FwAll w L I J b ss) (G:∀ x g T d post V E K,J w x g T d post V K->Below V.heap.size V E->J w x g T d post E K) (B:∀ x g T d post V K,J w x g T d post V K->Mem w V K) :
  Fw w L I J (j4d C) (j0j ss):=by
 have q:ss.length=n:=by rw [<-j.len];exact P
 have k:∀ K,Sub L K->∀ V,Mem w V K->V.cell? ⟨C,0,none⟩=some (.slice (some ⟨lb,0,none⟩) n n):=fun K f V A=>by rw [ja A (f _ O)];rfl
 have e:∀ K,Sub L K->∀ V,Mem w V K->∀ i,i<n->V.cell? ⟨lb,i*3,none⟩=some (.func (.func (b.getD i fv0).kw) #[] (b.getD i fv0).cw) /\
   V.cell? ⟨lb,i*3+1,none⟩=some (.func (.func (b.getD i fv0).kr) #[] (b.getD i fv0).cr)/\V.cell? ⟨lb,i*3+2,none⟩=some (.func (.func (b.getD i fv0).ks) #[] (b.getD i fv0).cs):=by
  intro K f V A i hi;obtain ⟨X,U,S⟩:=flat_get b i (by omega);refine ⟨?_,?_,?_⟩
  ·rw [ja A (f _ F)];simpa using X
  ·rw [ja A (f _ F)];simpa using U
  ·rw [ja A (f _ F)];simpa using S
 refine ⟨enters_of func205 (by kernel_rfl) rfl,enters_of func206 (by kernel_rfl) rfl,?_,?_⟩
 ·intro K f x r g s hx v l V R hb;have:=jpf 205 (by simp) (H:=fun v l V=>Out w V v l K) (fun v l V E h N=>h.after N) ⟨g,s,none⟩ C lb n z (fun i=>(b.getD i fv0).kw) (fun i=>(b.getD i fv0).kr) (fun i=>(b.getD i fv0).ks) (fun i=>(b.getD i fv0).cw) (fun i=>(b.getD i fv0).cr) (fun i=>(b.getD i fv0).cs)
   (fun v l V h=>k K f V h.mem) (fun v l V h=>e K f V h.mem) (fun i=>(ss.getD i sp0).enc x) (fun i hi=>(j.at_ i (by omega)).ew) (fun i hi v l V h hb=>(j.at_ i (by omega)).wr K f x r g s hx v l V h hb) v l V R (by simp only [j0j,q] at hb;exact hb)
  simp only [j0j,q];exact this
 ·intro K f x g T d post a l c V Q M;have:=jpg 206 (by simp) (w:=w) (L:=K) (J:=fun y V=>J w y g T d post V K) (fun y V E h N=>G y g T d post V E K h N) ⟨g,d.length,none⟩ C lb n z (fun i=>(b.getD i fv0).kw) (fun i=>(b.getD i fv0).kr) (fun i=>(b.getD i fv0).ks) (fun i=>(b.getD i fv0).cw) (fun i=>(b.getD i fv0).cr) (fun i=>(b.getD i fv0).cs)
   (fun y V h=>k K f V (B _ _ _ _ _ _ _ h)) (fun y V h=>e K f V (B _ _ _ _ _ _ _ h)) (fun i=>(ss.getD i sp0).dec) (fun i hi=>(j.at_ i (by omega)).er) (fun i hi y l a c V h M=>(j.at_ i (by omega)).rd K f y g T d post a l c V h M) x l a c V Q M
  simp only [j0j,q];exact this
def RB {σ:Type} (dec:List Int->σ->Option (σ×List Int)) (e:List Int) (x x':σ):Prop:=(∀ r,dec (e++r) x=some (x',r))/\∀ l,l <+: e->l.length<e.length->dec l x=none
def catF (enc:Nat->List Int):Nat->Nat->List Int
 | _,0=>[]
 | i,m+1=>enc i++catF enc (i+1) m
theorem j8n (enc:Nat->List Int):∀ m i,catF enc i (m+1)=catF enc i m++enc (i+m)
 | 0,i=>by simp [catF]
 | m+1,i=>by
  rw [catF,j8n enc m (i+1),catF,ap,show i+1+m=i+(m+1) by omega]
theorem j2r (enc:Nat->List Int):∀ n,cat enc n=catF enc 0 n
 | 0=>rfl
 | n+1=>by rw [cat,j2r enc n,j8n,Nat.zero_add]
theorem jcs {σ:Type} {dec:Nat->List Int->σ->Option (σ×List Int)} {enc:Nat->List Int} {Inv:Nat->σ->Prop}:∀ m i x,(∀ k,i<=k->k<i+m->∀ x,Inv k x->∃ c,RB (dec k) (enc k) x c/\Inv (k+1) c)->Inv i x ->
  ∃ c,RB (sq dec i m) (catF enc i m) x c/\Inv (i+m) c
 | 0,i,x,_,h=>⟨x,⟨fun r=>rfl,fun l f e=>by simp [catF] at e⟩,h⟩
 | m+1,i,x,H,h=>by
  obtain ⟨j,⟨f,e⟩,B⟩:=H i (Nat.le_refl _) (by omega) x h;obtain ⟨g,⟨z,y⟩,s⟩:=jcs m (i+1) j (fun k a b=>H k (by omega) (by omega)) B;refine ⟨g,⟨fun r=>?_,fun l d hs=>?_⟩,by rw [show i+(m+1)=i+1+m by omega];exact s⟩
  ·rw [catF,ap,sq,f];exact z r
  ·rw [catF] at d hs;by_cases hc:l.length<(enc i).length
   ·have:l <+: enc i:=List.prefix_of_prefix_length_le d (List.prefix_append _ _) (by omega);rw [sq,e l this hc]
   ·have A:enc i <+: l:=List.prefix_of_prefix_length_le (List.prefix_append _ _) d (by omega);obtain ⟨q,rfl⟩:=A;rw [sq,f];refine y q ((List.prefix_append_right_inj _).mp d) ?_;simp only [am] at hs;omega
theorem zw {α:Type} (sz:Nat) (b:α->Int) (d:α->Int->α) (t x:α):RB (jz sz b d).dec ((jz sz b d).enc t) x (d x (num (be sz (b t)))):=by
 have c:=jr sz (b t);refine ⟨fun r=>?_,fun l f e=>?_⟩
 ·simp only [jz];rw [if_neg (by rw [am,c];omega),aA c,aB c]
 ·simp only [jz] at e ⊢;rw [if_pos (by omega)]
theorem j3x {α:Type} (n:Nat) (b:α->List Int) (d:α->List Int->α) (t x:α) (c:(b t).length=n):RB (j18 n b d).dec ((j18 n b d).enc t) x (d x (b t)):=by
 refine ⟨fun r=>?_,fun l f e=>?_⟩
 ·simp only [j18];rw [if_neg (by rw [am,c];omega),aA c,aB c]
 ·simp only [j18] at e ⊢;rw [if_pos (by omega)]
theorem jbk {α:Type} (c:α->Nat) (b:α->Nat->α) (t x:α):RB (j1l c b).dec ((j1l c b).enc t) x (b x (min (c t) 255)):=by
 refine ⟨fun r=>?_,fun l e d=>?_⟩
 ·simp only [j1l,aD,List.nil_append,aG]
 ·simp only [j1l,ax,List.length_nil] at d ⊢;have:l=[]:=List.eq_nil_of_length_eq_zero (by omega);subst this;rfl
theorem jqk {α:Type} (c:α->ByteArray) (f:α->ByteArray->α) (t x:α) (j:(sb (c t)).length=(c t).size):RB (jct c f).dec ((jct c f).enc t) x (f x (strOfNums ((sb (c t)).take 255))):=by
 have d:((sb (c t)).take 255).length=min (c t).size 255:=by rw [List.length_take,j,Nat.min_comm]
 refine ⟨fun r=>?_,fun l i g=>?_⟩
 ·simp only [jct,nm,aD,dtxt,aG];rw [if_neg (by rw [am,d];omega),aA d,aB d];rfl
 ·simp only [jct,nm] at i g ⊢;cases l with
  | nil=>rfl
  | cons b r =>
   obtain ⟨e,k⟩:=List.cons_prefix_cons.mp i;subst e;simp only [ax,d] at g;simp only [dtxt,aG];rw [if_pos (by omega)];rfl
theorem jfi {α β:Type} [DecidableEq β] (d:β) (f:Sp β) (g:β->β) (s:∀ y z,RB f.dec (f.enc y) z (g y)) (c:α->List β) (A:α->List β->α) (t x:α) (hx:(c x).length=min (c t).length 255) :
  RB (j5w d f c A).dec ((j5w d f c A).enc t) x (A x (((c t).take 255).map g)):=by
 obtain ⟨j,⟨E,C⟩,K,B⟩:=jcs (dec:=itd d f) (enc:=fun i=>f.enc ((c t).getD i d)) (Inv:=fun k j=>j.length=min (c t).length 255/\∀ i,i<k->j[i]?=some (g ((c t).getD i d))) (min (c t).length 255) 0 (c x)
  (fun k _ J xs ⟨G,F⟩=>by
   obtain ⟨I,H⟩:=s ((c t).getD k d) (xs.getD k d);refine ⟨xs.set k (g ((c t).getD k d)),⟨fun r=>by simp only [itd,I,Option.map_some],fun l a b=>by simp only [itd,H l a b,Option.map_none]⟩,by rw [List.length_set];exact G,fun i hi=>?_⟩;rw [List.getElem?_set];by_cases e:k=i
   ·subst e;rw [if_pos rfl,if_pos (by omega)]
   ·rw [if_neg e];exact F i (by omega)) ⟨hx,fun i hi=>by omega⟩
 have q:j=((c t).take 255).map g:=by
  apply ak;intro i;rw [List.getElem?_map,List.getElem?_take];by_cases hi:i<min (c t).length 255
  ·rw [B i (by omega),if_pos (by omega),aj,ai (by omega)];rfl
  ·rw [al (by omega)];split
   ·rw [al (by omega)];rfl
   ·rfl
 subst q;refine ⟨fun r=>?_,fun l a b=>?_⟩
 ·simp only [j5w];rw [hx,j2r,E];rfl
 ·simp only [j5w] at a b ⊢;rw [j2r] at a b;rw [hx,C l a b];rfl
structure Chg where
 put:Bool
 name:ByteArray
 t:Ten
def hc (h:Chg) (p s q:Value):List Value:=.bool h.put::.string h.name::tc h.t p s q
abbrev hz0:Array Value:=(hc ⟨false,ByteArray.empty,ten0⟩ nilV nilV nilV).toArray
theorem Out.none:∀ K,Out w V u l K->Out w V u l []:=by
 intro K
 induction K with
 | nil=>exact id
 | cons p K ih=>exact fun h=>ih h.drop
end
end Go.Proofs.YtdigofgjhaakmaaGreatDoor
