/- Parts of the proof. -/
import Derived.Test.YtdigofgjhaakmaaGreatDoorF12
set_option linter.all false
set_option maxHeartbeats 40000000
set_option maxRecDepth 100000
open Go.Proofs.Tryz
open List renaming append_assoc->aa,map_cons->ab,map_nil->ac,length_append->ae,take_of_length_le->af,length_map->ag,getElem?_eq_getElem->ah,getD->ai,length_take->aj
open Go.IntKind renaming i64->ak,u16->al,wrap->am,bits->an,signed->ao,u8->ap
open Nat renaming zero_add->aq,le_refl->ar,min_eq_left->au,le_trans->av
open Go.Act renaming eval->aw
open Go.RowKit.Below renaming refl->ax
open Go.Region renaming wanted->ay
open Go.DataW renaming trod->az,trod_struct->aA
namespace Go.Proofs.YtdigofgjhaakmaaGreatDoor
variable {cs:List Value} {K:List (Nat×Obj)} {t ty:TypeId} {fuel n sz:Nat} {v v':Value} {w W V w':World} {a:Option Addr}
section
open Go.RowKit Sm
theorem jk1 {y x:En×Value} {Y:List (Nat×Obj)} (hE:ES v [y,x] Y) (hM:Mem w W (Y++K)) (hb:∀ q∈[y,x],q.1.r.length<=1000000000) :
  Calls prog 70 #[v] W fun e W'=>∃ v',e=.returned v'/\∃ Y',RS v' (kp [y.1,x.1]) Y'/\∃ A,Mem W W' (Y'++A):=by
 obtain ⟨g,cap,z,X1,X2,b6,c3,c0,b1,o1,o2,hY,b,a3⟩:=jgx hE hM;have HN:Hid (∀ V A,Mem W V A->Calls prog 69 #[v] V fun e W'=>e=.returned (.agg (enA x.1.s x.1.t x.1.c x.2))/\∃ A,Mem V W' A):=fun V A hV =>
  j2g hE (by have:=hM.join hV;rw [aa] at this;exact this) (by simp)
 have b5:=hb y (by simp);have hb2:=hb x (by simp);subst hY;obtain ⟨N,M,ey,-,S⟩:=o1.row (X:=X1) (R:=(g,.cells z enT (0,0))::(X2++K)) (hM.perm (by
  have:((g,Obj.cells z enT (0,0))::(X1++X2)++K)=[(g,.cells z enT (0,0))]++(X1++(X2++K)):=by simp
  rw [this];exact jv _ _ _)) (by omega)
 obtain ⟨u,k,ex,-,T⟩:=o2.row (X:=X2) (R:=(g,.cells z enT (0,0))::(X1++K)) (hM.perm (by
  have:((g,Obj.cells z enT (0,0))::(X1++X2)++K)=((g,.cells z enT (0,0))::X1)++(X2++K):=by simp
  rw [this];exact jv _ _ _)) (by omega)
 subst b6;obtain ⟨⟨xs,m,h,d⟩,xv⟩:=x;obtain ⟨⟨C,B,yc,f⟩,yv⟩:=y;simp only at ex ey b5 hb2 T S HN;subst ex;subst ey;have b0:j6 d:=T.bytes;have b3:j6 f:=S.bytes;have k0:=b 0 (by omega);have k1:=b 1 (by omega);have k2:=b 2 (by omega);have k3:=b 3 (by omega);have k4:=b 4 (by omega);have k5:=b 5 (by omega);have k6:=b 6 (by omega);have k7:=b 7 (by omega);simp [enC] at k0 k1 k2 k3 k4 k5 k6 k7;have p:g<W.heap.size:=j9 k0;have P:Hid (∀ V A,Mem W V A->V.cell? ⟨g,4,none⟩=some (.int .i64 xs)/\V.cell? ⟨g,5,none⟩=some (.int .u64 m)/\V.cell? ⟨g,6,none⟩=some (.int .i64 h)/\V.cell? ⟨g,7,none⟩=some (.slice u d.length k)/\Row V u d/\Row V N f) :=
  fun V A hV=>⟨by rw [<-k4];exact hV.old p,by rw [<-k5];exact hV.old p,by rw [<-k6];exact hV.old p,by rw [<-k7];exact hV.old p,hV.row T,hV.row S⟩
 have hA:Mem W (W.alloc (.cells (enA C B yc (.slice N f.length M)) enT)) [(W.heap.size,.cells (enA C B yc (.slice N f.length M)) enT (0,0))]:=(Mem.nil W).push1 rfl;have b2:Hid (kp [⟨C,B,yc,f⟩,⟨xs,m,h,d⟩]=if ak.wrap (yc+1)=h then [f,d] else [d]):=by
  show _=_;simp only [kp,nw,kpL,List.getLastD];show (if ak.wrap (yc+1)=h then [f] else [])++[d]=_;split<;>rfl
 clear hM b hE hb o1 o2 T S b1 a3 k4 k5 k6 k7;show Calls _ _ _ _ fun e W'=>∃ v',e=.returned v'/\∃ Y',RS v' (kp [⟨C,B,yc,f⟩,⟨xs,m,h,d⟩]) Y'/\∃ A,Mem W W' (Y'++A);generalize kp [⟨C,B,yc,f⟩,⟨xs,m,h,d⟩]=KP at *;go_enter func70,ntmps70;go_wp2_with fail;refine wp_loop_rounds 3 ?_;rw [rounds_succ];go_upto_region 5 with fail;refine j5 (fun V=>Mem W V [(W.heap.size,.cells (enA C B yc (.slice N f.length M)) enT (0,0))]) hA ?_;intro w1 h1;have j2:=h1.cell 0 rfl 2;simp at j2;have O:Hid (Mem W w1 [(W.heap.size,.cells (enA C B yc (.slice N f.length M)) enT (0,0))]):=h1;have U:Hid (Calls prog 69 #[.slice (some ⟨g,0,none⟩) 2 cap] w1.drew fun e W'=>e=.returned (.agg (enA xs m h (.slice u d.length k)))/\∃ A,Mem w1.drew W' A):=HN.out _ _ O.out.drew;have F:W.heap.size<w1.drew.heap.size:=h1.lt (List.mem_singleton.mpr rfl);have b9:ak.wrap 1=1:=by decide
 have Q:w1.drew.cell? ⟨W.heap.size,2,none⟩=some (.int .i64 yc):=j2;have b8:∀ V:World,(Instr.field enT (.agg (enA xs m h (.slice u d.length k))) 2).run prog V=.ok (.int .i64 h) V:=fun V=>by kernel_rfl
 have a0:w1.drew.cell? ⟨W.heap.size,3,none⟩=some (.slice N f.length M):=by
  have:=h1.cell 0 rfl 3;simpa using this
 clear h1 hA j2;by_cases hq:ak.wrap (yc+1)=h
 ·have a9:Hid (KP=[f,d]):=by rw [b2.out];exact if_pos hq
  have bq:(ak.wrap (yc+1)==h)=true:=by simpa using hq
  clear hq
  go_region_held3 (fun w'=>w'.cell? ⟨W.heap.size,2,none⟩=some (.int .i64 yc)) (first|go_keep|assumption|exact (q5.old F).trans Q)
   (first|(go_at_call 69;with_reducible refine U.out.mono ?_;rintro e w5 ⟨rfl,K5,q5⟩))
  have j:=O.out.drew.join q5;have j3:w5.cell? ⟨W.heap.size,3,none⟩=some (.slice N f.length M):=(q5.old F).trans a0;have hs:=j0p rfl (P.out _ _ j).2.2.2.2.2 M;have Z:Hid (Mem W w5 ([]++([(W.heap.size,.cells (enA C B yc (.slice N f.length M)) enT (0,0))]++K5))):=j;clear q5 j Q a0 O U;go_wp2_with fail;refine hs.mono ?_;rintro e w6 ⟨g6,rfl,h6⟩;obtain ⟨a1,c1,Y1,W1,E,a4,K1,a5⟩:=j39 (v:=.slice none 0 0) (bl:=[]) (Y:=[]) (Or.inl ⟨rfl,rfl,rfl⟩) Z.out (by simp) b3 h6 84;rw [List.length_nil,aq] at E a4;have a7:Hid (RS (.slice a1 1 c1) [f] Y1):=a4;have b7:Hid (Mem W W1 (Y1++K1)):=a5;obtain ⟨k4,k5,k6,k7,-,-⟩:=P.out _ _ a5;clear a4 a5 h6 hs Z;go_wp2_with (refine jl (.tmp 27) (.tmp 31) 84 84 (by with_reducible rfl) E rfl rfl (by simp [aw]) (by simp [aw]) ?_)
  rw [rounds_succ];go_upto_region 5 with fail;refine j5 (fun V=>Mem W V (Y1++(K1++[(W1.heap.size,.cells (enA xs m h (.slice u d.length k)) enT (0,0))]))/\V.cell? ⟨W1.heap.size,3,none⟩=some (.slice u d.length k)) ⟨by have:=b7.out.alloc (.cells (enA xs m h (.slice u d.length k)) enT (0,0));rw [aa] at this;exact this,by
   have:=((Mem.nil W1).push1 (o:=.cells (enA xs m h (.slice u d.length k)) enT) rfl).cell 0 rfl 3;exact this⟩ ?_
  rintro wb ⟨G,b4⟩;have HB:Hid (Mem W wb (Y1++(K1++[(W1.heap.size,.cells (enA xs m h (.slice u d.length k)) enT (0,0))]))):=G;clear G
  go_quiet (fail)
  have D:=j0p rfl (P.out _ _ (HB.out.drewN nq)).2.2.2.2.1 k;go_wp2_with fail;refine D.mono ?_;rintro e w7 ⟨g7,rfl,h7⟩;obtain ⟨a2,c2,Y2,W2,i,I,K2,J⟩:=j39 a7.out (HB.out.drewN nq) (by simp) b0 h7 84;have a6:Hid (RS (.slice a2 2 c2) [f,d] Y2):=I;have a8:Hid (Mem W W2 (Y2++K2)):=J;clear I J h7 D HB;go_wp2_with (refine jl (.tmp 27) (.tmp 31) 84 84 (by with_reducible rfl) i rfl rfl (by simp [aw]) (by simp [aw]) ?_)
  rw [rounds_succ]
  go_wp2
  go_ret;exact ⟨_,rfl,Y2,by rw [a9.out];exact a6.out,K2,a8.out⟩
 ·have a9:Hid (KP=[d]):=by rw [b2.out];exact if_neg hq
  have bq:(ak.wrap (yc+1)==h)=false:=by simpa using hq
  clear hq
  go_region_held3 (fun w'=>w'.cell? ⟨W.heap.size,2,none⟩=some (.int .i64 yc)) (first|go_keep|assumption|exact (q5.old F).trans Q)
   (first|(go_at_call 69;with_reducible refine U.out.mono ?_;rintro e w5 ⟨rfl,K5,q5⟩))
  have j:=O.out.drew.join q5;obtain ⟨k4,k5,k6,k7,-,-⟩:=P.out _ _ j;have Z:Hid (Mem W w5 ([]++([(W.heap.size,.cells (enA C B yc (.slice N f.length M)) enT (0,0))]++K5))):=j;have a7:Hid (RS (.slice none 0 0) [] []):=Or.inl ⟨rfl,rfl,rfl⟩;clear q5 j Q a0 O U;go_wp2_with fail;rw [rounds_succ];go_upto_region 5 with fail;refine j5 (fun V=>Mem W V ([]++(([(W.heap.size,.cells (enA C B yc (.slice N f.length M)) enT (0,0))]++K5)++[(w5.heap.size,.cells (enA xs m h (.slice u d.length k)) enT (0,0))]))/\V.cell? ⟨w5.heap.size,3,none⟩=some (.slice u d.length k)) ⟨by have:=Z.out.alloc (.cells (enA xs m h (.slice u d.length k)) enT (0,0));rw [aa] at this;exact this,by
   have:=((Mem.nil w5).push1 (o:=.cells (enA xs m h (.slice u d.length k)) enT) rfl).cell 0 rfl 3;exact this⟩ ?_
  rintro wb ⟨G,b4⟩;have HB:Hid (Mem W wb ([]++(([(W.heap.size,.cells (enA C B yc (.slice N f.length M)) enT (0,0))]++K5)++[(w5.heap.size,.cells (enA xs m h (.slice u d.length k)) enT (0,0))]))):=G;clear G
  go_quiet (fail)
  have D:=j0p rfl (P.out _ _ (HB.out.drewN nq)).2.2.2.2.1 k;go_wp2_with fail;refine D.mono ?_;rintro e w7 ⟨g7,rfl,h7⟩;obtain ⟨a2,c2,Y2,W2,i,I,K2,J⟩:=j39 a7.out (HB.out.drewN nq) (by simp) b0 h7 84;have a6:Hid (RS (.slice a2 1 c2) [d] Y2):=I;have a8:Hid (Mem W W2 (Y2++K2)):=J;clear I J h7 D HB;go_wp2_with (refine jl (.tmp 27) (.tmp 31) 84 84 (by with_reducible rfl) i rfl rfl (by simp [aw]) (by simp [aw]) ?_)
  rw [rounds_succ]
  go_wp2
  go_ret;exact ⟨_,rfl,Y2,by rw [a9.out];exact a6.out,K2,a8.out⟩
theorem jk3 {l:List (En×Value)} {Y:List (Nat×Obj)} (c:ES v l Y) (b:Mem w W (Y++K)) (f:l.length<=2) (hb:∀ x∈l,x.1.r.length<=1000000000) :
  Calls prog 70 #[v] W fun e W'=>∃ v',e=.returned v'/\∃ d,RS v' (kp (l.map Prod.fst)) d/\∃ g,Mem W W' (d++g):=by
 by_cases h1:l.length<=1
 ·exact jk2 c b h1 hb
 ·match l,h1,f with
  | [y,x],_,_=>exact jk1 c b hb
end
section
open Go.RowKit Sm Cf
def Ob (w W:World) (v:Value) (l:List Int) (L:List (Nat×Obj)) (n:Nat):Prop:=Out w W v l L/\l.length<=n
section
variable {w W W':World} {v:Value} {l:List Int} {L:List (Nat×Obj)} {n:Nat}
theorem Ob.mem (h:Ob w W v l L n):Mem w W L:=h.1.mem
theorem Ob.after (h:Ob w W v l L n) (hb:Below W.heap.size W W'):Ob w W' v l L n:=⟨h.1.after hb,h.2⟩
theorem Ob.drew (h:Ob w W v l L n):Ob w W.drew v l L n:=h.after ((ax _ _).drew)
theorem be4 (x:Int):be 4 x=[x / 16777216 % 256,x / 65536 % 256,x / 256 % 256,x % 256]:=by simp [be]
theorem be2 (x:Int):be 2 x=[x / 256 % 256,x % 256]:=by simp [be]
theorem be1 (x:Int):be 1 x=[x % 256]:=by simp [be]
theorem jcb (x:Int):be 2 (al.wrap x)=be 2 x:=by
 have:al.wrap x=x % 65536:=by simp [am,an,ao]
 rw [be2,be2,this];congr 1
 ·omega
 ·congr 1;omega
theorem j31 (h:Out w W v l L) (k:List Int) (c:j6 k) (m:Nat) (b:k.length=m) (hb:l.length+m<=1000000000) (ty:TypeId) :
  ∃ v' W',(Builtin.append_ #[86,86] ty #[v,.slice (some ⟨W.heap.size,0,none⟩) m m]).run prog (W.alloc (.cells (k.map (Value.int .u8)).toArray 5))=.ok v' W'/\Out w W' v' (l++k) L :=
 qq (h.after ((ax _ _).alloc (ar _) _)) _ m m k b (j63 W k c (by omega) 5) hb ty
theorem ki (h:Ob w W v l L n) (x:Int) (i:n<=990000000) :
  Calls prog 99 #[v,.int .u32 x] W fun e W'=>∃ v',e=.returned v'/\Ob w W' v' (l++be 4 x) L (n+4):=by
 have d:=h.2;rw [be4];obtain ⟨c,f,hr,b⟩:=j31 h.1 [x / 16777216 % 256,x / 65536 % 256,x / 256 % 256,x % 256] (jq (ya _) (jq (ya _) (jq (ya _) (jq (ya _) ku)))) 4 rfl (by omega) 86;have g:Hid (Ob w f c (l++[x / 16777216 % 256,x / 65536 % 256,x / 256 % 256,x % 256]) L (n+4)):=⟨b,by simp;omega⟩;simp only [ab,ac] at hr;have u1:ap.wrap (x / 16777216)=x / 16777216 % 256:=yo _;have u2:ap.wrap (x / 65536)=x / 65536 % 256:=yo _;have u3:ap.wrap (x / 256)=x / 256 % 256:=yo _;have u4:ap.wrap x=x % 256:=yo _;clear h b d;go_enter func99,ntmps99;go_wp2_with (at_builtin;refine wpList_append_run (.tmp 5) (.tmp 17) 86 86 (by with_reducible rfl) hr rfl rfl (by simp [aw]) (by simp [aw]) ?_)
 go_ret;exact ⟨_,rfl,g.out⟩
theorem qp (h:Ob w W v l L n) (x:Int) (i:n<=990000000) :
  Calls prog 132 #[v,.int .u16 x] W fun e W'=>∃ v',e=.returned v'/\Ob w W' v' (l++be 2 x) L (n+2):=by
 have d:=h.2;rw [be2];obtain ⟨c,f,hr,b⟩:=j31 h.1 [x / 256 % 256,x % 256] (jq (ya _) (jq (ya _) ku)) 2 rfl (by omega) 86;have g:Hid (Ob w f c (l++[x / 256 % 256,x % 256]) L (n+2)):=⟨b,by simp;omega⟩;simp only [ab,ac] at hr;have u3:ap.wrap (x / 256)=x / 256 % 256:=yo _;have u4:ap.wrap x=x % 256:=yo _;clear h b d;go_enter func132,ntmps132;go_wp2_with (at_builtin;refine wpList_append_run (.tmp 5) (.tmp 11) 86 86 (by with_reducible rfl) hr rfl rfl (by simp [aw]) (by simp [aw]) ?_)
 go_ret;exact ⟨_,rfl,g.out⟩
theorem jd {b:Array Oper} {o:Oper} {a:Act} {K:Act->World->Prop} {Q:Exit->Act->World->Prop} {E:Prop} (d:o.guard=none)
  (s x:Operand) (t c:TypeId) (g:o.op=.call { callee:=.builtin .append,args:=#[s,x],argTypes:=#[t,c] }) {f e:Value} (hs:a.eval s=f) (hx:a.eval x=e)
  (hr:(Builtin.append_ #[t,c] o.type #[f,e]).run prog W=.ok v' w') (h:K (a.put o.dst v') w') :
  if ay o (yielded b a.tmps)=true then Oper.wp prog o a W K Q else E:=by
 have hw:ay o (yielded b a.tmps)=true:=by simp [ay,d]
 rw [if_pos hw];exact j0b s x t c g hs hx hr h
theorem q7 {b:Array Oper} {o:Oper} {a:Act} {K:Act->World->Prop} {Q:Exit->Act->World->Prop} {E:Prop} (d:o.guard=none)
  (s x:Operand) (e:o.op=.call { callee:=.builtin .append,args:=#[s,x],argTypes:=#[86,86] }) (hs:a.eval s=v) (ad:Addr) (m c:Nat) (hx:a.eval x=.slice (some ad) m c)
  (h:Ob w W v l L n) (k:List Int) (f:k.length=m) (hr:Row W (some ad) k) (p:n+m<=1000000000) (g:∀ v' W',Ob w W' v' (l++k) L (n+m)->K (a.put o.dst v') W') :
  if ay o (yielded b a.tmps)=true then Oper.wp prog o a W K Q else E:=by
 have q:=h.2;obtain ⟨v',W',j,i⟩:=qq h.1 ad m c k f hr (by omega) o.type;exact jd d s x _ _ e hs hx j (g v' W' ⟨i,by rw [ae];omega⟩)
theorem jb0 {b:Array Oper} {o:Oper} {a:Act} {K:Act->World->Prop} {Q:Exit->Act->World->Prop} {E:Prop} (c:o.guard=none)
  (s x:Operand) (d:o.op=.call { callee:=.builtin .append,args:=#[s,x],argTypes:=#[86,9] }) (hs:a.eval s=v) (t:ByteArray) (hx:a.eval x=.string t)
  (h:Ob w W v l L n) (m:Nat) (k:t.size<=m) (i:n+m<=1000000000) (e:∀ v' W',Ob w W' v' (l++sb t) L (n+m)->K (a.put o.dst v') W') :
  if ay o (yielded b a.tmps)=true then Oper.wp prog o a W K Q else E:=by
 have j:=h.2;obtain ⟨v',W',g,f⟩:=jfp h.1 t (by omega) o.type;exact jd c s x _ _ d hs hx g (e v' W' ⟨f,by rw [ae,j54];omega⟩)
theorem jfe (h:Ob w W v l L n) (s:ByteArray) (y:n<=900000000) :
  Calls prog 131 #[v,.string s] W fun e W'=>∃ v',e=.returned v'/\Ob w W' v' (l++nm s) L (n+256):=by
 obtain ⟨k,o⟩:∃ k,min s.size 255=k:=⟨_,rfl⟩;obtain ⟨s',d⟩:∃ s',s.extract 0 k=s':=⟨_,rfl⟩;have q:∀ V,(Instr.slice 9 (.string s) none (some (.int .i64 k)) none).run prog V=.ok (.string s') V:=by
  intro V;rw [run_slice_string_h V 9 s underlying9 .i64 k (by omega) (by omega),Int.toNat_natCast,d]
 have B:s'.size=k:=by rw [<-d,ByteArray.size_extract];omega
 have g:sb s'=(sb s).take 255:=by
  rw [<-d];unfold sb;rw [Lib.extract_data,List.drop_zero,Nat.sub_zero,List.map_take];rw [<-o];by_cases hc:s.size<=255
  ·rw [au hc,af (l:=List.map _ _) (by rw [ag,Array.length_toList];exact ar _),af (by rw [ag,Array.length_toList];exact hc)]
  ·rw [Nat.min_eq_right (by omega)]
 have m:∀ l:List Int,(l++[(k:Int)])++sb s'=l++nm s:=by
  intro l;rw [g,aa];unfold nm;rw [o];rfl
 have x:Hid (∀ l:List Int,(l++[(k:Int)])++sb s'=l++nm s):=m;have r:k<=255:=by omega
 have F:ap.wrap (k:Int)=k:=by rw [yo];omega
 have E:(k:Int) % 256=k:=by omega
 have z:Hid (Ob w W v l L n):=h;have f:Hid (s'.size<=255/\n<=900000000/\j6 [(k:Int)]):=⟨by omega,y,jq (by omega) ku⟩;clear h g d m B y;by_cases hc:s.size<=255
 ·have i:k=s.size:=by omega
  have D:(s.size:Int)<=255:=by omega
  have C:¬((255:Int)<s.size):=by omega
  subst i;clear o hc;go_enter func131,ntmps131;go_upto_region 2 with fail
  go_region_held3 (fun V=>True) (trivial)
   (first
    | (refine q7 rfl (.tmp 9) (.tmp 12) rfl (by simp [aw]) ⟨W.heap.size,0,none⟩ 1 1 (by simp [aw]) (z.out.after (((ax _ _).alloc (ar _) _).drew)) [(s.size:Int)] rfl (j0v (j63 W [(s.size:Int)] f.out.2.2 (by simp) 5)) (by have:=f.out.2.1;omega) ?_;intro A G c)
    | (refine jb0 rfl (.tmp 13) (.tmp 16) rfl (by simp [aw]) s' (by simp [aw]) c 255 f.out.1 (by have:=f.out.2.1;omega) ?_;intro p u b))
  rw [x.out] at b;have j:Hid (Ob w u p (l++nm s) L (n+1+255)):=b;clear c b;go_wp2_with fail;go_ret;exact ⟨_,rfl,j.out⟩
 ·have i:k=255:=by omega
  have D:¬((s.size:Int)<=255):=by omega
  have C:(255:Int)<s.size:=by omega
  subst i;clear o hc;simp only [Int.cast_ofNat_Int] at q F E x f;go_enter func131,ntmps131;go_upto_region 2 with fail
  go_region_held3 (fun V=>True) (trivial)
   (first
    | (refine q7 rfl (.tmp 9) (.tmp 12) rfl (by simp [aw]) ⟨W.heap.size,0,none⟩ 1 1 (by simp [aw]) (z.out.after (((ax _ _).alloc (ar _) _).drew)) [(255:Int)] rfl (j0v (j63 W [(255:Int)] f.out.2.2 (by simp) 5)) (by have:=f.out.2.1;omega) ?_;intro A G c)
    | (refine jb0 rfl (.tmp 13) (.tmp 16) rfl (by simp [aw]) s' (by simp [aw]) c 255 f.out.1 (by have:=f.out.2.1;omega) ?_;intro p u b))
  rw [x.out] at b;have j:Hid (Ob w u p (l++nm s) L (n+1+255)):=b;clear c b;go_wp2_with fail;go_ret;exact ⟨_,rfl,j.out⟩
theorem j3r (x:Int×Int):spP.enc x=be 4 x.1++be 4 x.2:=by
 simp [spP,j0j,cat,spA,spB,jz]
theorem j5z {c:Nat} {xs:List (List Value)} (h:Rw V sz (.slice a n c) xs) (i:Nat) (hi:i<xs.length):∃ b d,a=some ⟨b,d,none⟩/\∀ j u,(xs.getD i [])[j]?=some u->V.cell? ⟨b,d+i*sz+j,none⟩=some u:=by
 obtain ⟨g,f,e,_,_,_,hr⟩:=h;simp only [Value.slice.injEq] at e;obtain ⟨rfl,-,rfl⟩:=e;rcases hr with e|⟨b,d,rfl,hc⟩
 ·rw [e] at hi;simp at hi
 ·exact ⟨b,d,rfl,hc i hi⟩
theorem j0u (h:Ob w W v l L n) (O:n<=900000000) (J:Value) (f:List (Int×Int)) (hr:Rw w 2 J (px f)) (B:f.length<=1000000) :
  Calls prog 133 #[v,J] W fun e W'=>∃ v',e=.returned v'/\Ob w W' v' (l++cat (fun i=>spP.enc (f.getD i (0,0))) (min f.length 255)) L (n+2040):=by
 have m:(px f).length=f.length:=by simp [px]
 obtain ⟨a,c,rfl,r⟩:=hr;have G:Hid (∀ i,i<f.length->∀ V,Mem w V L->∃ b d x y,a=some ⟨b,d,none⟩/\f.getD i (0,0)=(x,y)/\V.cell? ⟨b,d+i*2,none⟩=some (.int .u32 x)/\V.cell? ⟨b,d+i*2+1,none⟩=some (.int .u32 y)):=by
  intro i hi V C;have A:Rw V 2 (.slice a (px f).length c) (px f):=C.rw' ⟨a,c,rfl,r⟩ zj;obtain ⟨b,d,rfl,hc⟩:=j5z A i (by omega);obtain ⟨x,hx⟩:∃ x,f[i]?=some x:=⟨_,ah hi⟩;have Z:(px f).getD i []=[.int .u32 x.1,.int .u32 x.2]:=by simp [px,ai,hx]
  rw [Z] at hc;exact ⟨b,d,x.1,x.2,rfl,by simp [ai,hx],hc 0 _ rfl,hc 1 _ rfl⟩
 rw [m];have S:Hid (Ob w W v l L n):=h;obtain ⟨k,z⟩:∃ k,min f.length 255=k:=⟨_,rfl⟩;rw [z];obtain ⟨N,D⟩:∃ N,f.length=N:=⟨_,rfl⟩;rw [D] at G z B ⊢;have T:Hid (k=min N 255):=z.symm;have X:k<=255:=by omega
 have HE:Hid (∀ i,cat (fun i=>spP.enc (f.getD i (0,0))) (i+1)=(cat (fun i=>spP.enc (f.getD i (0,0))) i++be 4 (f.getD i (0,0)).1)++be 4 (f.getD i (0,0)).2):=by
  intro i;rw [cat,j3r,aa]
 have s:Hid (n<=900000000):=O;clear h r m z D O;generalize (fun i=>spP.enc (f.getD i (0,0)))=enc at *;go_enter func133,ntmps133;go_wp2_with fail
 go_loopw [0,5] (fun u0 u5 w'=>∃ i:Nat,i<=k/\u5=.int .i64 i/\Hid (Ob w w' u0 (l++cat enc i) L (n+i*8))) (fun u0 u5 w'=>k-(intOf u5).toNat)
 case atStart=>exact ⟨0,Nat.zero_le _,rfl,by rw [cat,List.append_nil];exact S⟩
 case round =>
  obtain ⟨i,hi,rfl,q⟩:=hrel;clear S;by_cases hlt:i<k
  ·have g:=T.out;have Q:(i:Int)<N:=by omega
   have Y:(i:Int)<255:=by omega
   have P:i<N:=by omega
   clear g;obtain ⟨b,d,x,y,rfl,p,c1,c2⟩:=G.out i P _ q.out.mem;have F:Hid (∀ V,Mem w V L->V.cell? ⟨b,d+i*2,none⟩=some (.int .u32 x)/\V.cell? ⟨b,d+i*2+1,none⟩=some (.int .u32 y)):=by
    intro V C;obtain ⟨b',M,x',y',R,E,d1,d2⟩:=G.out i P V C;simp only [Option.some.injEq,Addr.mk.injEq,and_true] at R;obtain ⟨rfl,rfl⟩:=R;rw [p] at E;simp only [Prod.mk.injEq] at E;obtain ⟨rfl,rfl⟩:=E;exact ⟨d1,d2⟩
   have I:=HE.out i;rw [p] at I;have u:Hid (cat enc (i+1)=(cat enc i++be 4 x)++be 4 y):=I;clear I p;go_upto_region 4 with fail
   go_region_held3 (fun V=>V.cell? ⟨b,d+i*2,none⟩=some (.int .u32 x)/\V.cell? ⟨b,d+i*2+1,none⟩=some (.int .u32 y)) (first|go_keep|exact F.out _ o.mem|exact F.out _ j.mem)
    (first
     | (go_at_call 99;with_reducible refine (ki q.out.drew x (by have:=s.out;omega)).mono ?_;rintro e W1 ⟨v1,rfl,o⟩)
     | (go_at_call 99;with_reducible refine (ki o y (by have:=s.out;omega)).mono ?_;rintro e W2 ⟨U,rfl,j⟩))
   have HH:Hid (Ob w W2 U (l++cat enc (i+1)) L (n+(i+1)*8)):=by
    rw [u.out,<-aa,<-aa];exact ⟨j.1,av j.2 (by omega)⟩
   clear o j q F u c1 c2;go_wp2_with fail;go_roundw
   case rel=>exact ⟨i+1,by omega,by go_num,HH⟩
   case measure=>simp [intOf];omega
  ·obtain rfl:i=k:=by omega
   have g:=T.out;by_cases D:i<N
   ·have Q:(i:Int)<N:=by omega
    have Y:¬((i:Int)<255):=by omega
    clear g;go_wp2_with fail;go_ret;exact ⟨_,rfl,q.out.1,av q.out.2 (by omega)⟩
   ·have Q:¬((i:Int)<N):=by omega
    clear g;go_wp2_with fail;go_ret;exact ⟨_,rfl,q.out.1,av q.out.2 (by omega)⟩
end
def Lgt (t:Ten):Prop:=t.name.size<=300/\t.pool.length<=300/\t.stat.length<=300/\t.twi.length<=300
instance (t:Ten):Decidable (Lgt t):=by unfold Lgt;infer_instance
theorem j82 {t:Ten} (h:TV w v t) :
  Calls prog 38 #[v] w fun e w'=>e=.returned (.bool (decide (Lgt t)))/\Below w.heap.size w w':=by
 obtain ⟨R,r⟩:∃ R,decide (Lgt t)=R:=⟨_,rfl⟩;rw [r];have i:∀ b:Bool,(b=true ↔ Lgt t)->R=b:=by
  intro b hb;rw [<-r];cases b with
  | true=>exact decide_eq_true (hb.mp rfl)
  | false=>exact decide_eq_false (fun e=>by cases hb.mpr e)
 clear r;obtain ⟨G,p,s,q,rfl,⟨Z,Y,rfl,-⟩,⟨Q,sc,rfl,-⟩,⟨X,U,rfl,-⟩⟩:=h;obtain ⟨n,N,key,M,O,ho,o,lo,hi,fi,st,j,P,T,S,bu⟩:=t;obtain ⟨D,C,B⟩:=G;obtain ⟨a,b,c,d,f,g,x,y,rfl⟩:=kt D;obtain ⟨a1,b1,c1,F,f1,g1,rfl⟩:=six6 C;obtain ⟨a2,b2,c2,E,f2,g2,rfl⟩:=six6 B;have A:(ux o).length=o.length:=by simp [ux]
 have z:(px st).length=st.length:=by simp [px]
 have u:(px j).length=j.length:=by simp [px]
 simp only [tc,ab,ac,List.cons_append,List.nil_append,Lgt,A,z,u] at i ⊢;clear A z u D C B;generalize o.length=pn at *;generalize st.length=k at *;generalize j.length=m at *;go_enter func38,ntmps38;by_cases e1:n.size<=300
 rotate_left
 ·have F:decide ((n.size:Int)<=300)=false:=decide_eq_false (by omega);obtain rfl:=i false ⟨(fun e=>by cases e),fun e=>absurd e.1 e1⟩;go_wp2_with fail;go_ret;exact ⟨rfl,(ax _ _).alloc (ar _) _⟩
 have F:decide ((n.size:Int)<=300)=true:=decide_eq_true (by omega);by_cases e2:pn<=300
 rotate_left
 ·have E:decide ((pn:Int)<=300)=false:=decide_eq_false (by omega);obtain rfl:=i false ⟨(fun e=>by cases e),fun e=>absurd e.2.1 e2⟩;go_wp2_with fail;go_ret;exact ⟨rfl,(ax _ _).alloc (ar _) _⟩
 have E:decide ((pn:Int)<=300)=true:=decide_eq_true (by omega);by_cases e3:k<=300
 rotate_left
 ·have J:decide ((k:Int)<=300)=false:=decide_eq_false (by omega);obtain rfl:=i false ⟨(fun e=>by cases e),fun e=>absurd e.2.2.1 e3⟩;go_wp2_with fail;go_ret;exact ⟨rfl,(ax _ _).alloc (ar _) _⟩
 have J:decide ((k:Int)<=300)=true:=decide_eq_true (by omega);by_cases e4:m<=300
 rotate_left
 ·have I:decide ((m:Int)<=300)=false:=decide_eq_false (by omega);obtain rfl:=i false ⟨(fun e=>by cases e),fun e=>absurd e.2.2.2 e4⟩;go_wp2_with fail;go_ret;exact ⟨rfl,(ax _ _).alloc (ar _) _⟩
 have I:decide ((m:Int)<=300)=true:=decide_eq_true (by omega);obtain rfl:=i true ⟨fun _=>⟨e1,e2,e3,e4⟩,fun _=>rfl⟩;go_wp2_with fail;go_ret;exact ⟨rfl,(ax _ _).alloc (ar _) _⟩
end
section
open Go.ChangeShapes Go.WideShapes Go.ChangeAt Go.RowKit Go.Joins Sm Cf
theorem jlp {k:IntKind} {P:Int->Prop}:∀ (cs:List Value),(∀ i,i<cs.length->∃ a,cs[i]?=some (.int k a)/\P a)->∃ l:List Int,cs=l.map (Value.int k)/\∀ a∈l,P a
 | [],_=>⟨[],rfl,by simp⟩
 | c::cs,h=>by
  obtain ⟨a,e,f⟩:=h 0 (by simp);simp at e;subst e;obtain ⟨l,rfl,d⟩:=jlp cs (fun i hi=>by simpa using h (i+1) (by simpa using hi));exact ⟨a::l,rfl,fun b hb=>by
   rcases List.mem_cons.mp hb with rfl|hb
   ·exact f
   ·exact d b hb⟩
theorem j8p:∀ {l:List Int},(∀ a∈l,0<=a/\a<=255)->j6 l
 | [],_=>ku
 | a::l,h=>jq (h a (by simp)) (j8p fun b hb=>h b (List.mem_cons_of_mem _ hb))
section
variable {H:Type} {enc:TypeId×Value->H} {W:World} {base:Nat} {held:Bool}
theorem open_arr (g:prog.underlying t=some (.array n 5)) (hc:prog.cellsOf t=n) {x:DataW H×List MemPlace} (h:az enc prog W base (fun _=>true) held fuel t cs=some x) :
  ∃ l:List Int,cs=l.map (Value.int .u8)/\l.length=n/\j6 l:=by
 obtain ⟨xs,m,-,-,c,d,b⟩:=DataW.trod_array g h;rw [hc] at c;rw [show prog.cellsOf 5=1 by kernel_rfl] at b;obtain ⟨l,rfl,j⟩:=jlp (k:=.u8) (P:=fun a=>0<=a/\a<=255) cs (fun i hi=>by
  have e:=b i (by omega);rw [ah (by omega)] at e;obtain ⟨a,o,-,f⟩:=DataW.trod_int underlying5 e;refine ⟨a,?_,bounds_u8 f⟩;have:=congrArg (·[0]?) o;simpa [List.getElem?_take,List.getElem?_drop] using this)
 exact ⟨l,rfl,by simpa using c,j8p j⟩
theorem addr_add (b c j:Nat):(Addr.mk b c none).add j=⟨b,c+j,none⟩:=by
 by_cases e:j=0
 ·subst e;simp [Addr.add]
 ·simp [Addr.add,e]
theorem trod_struct2 {d c:Field} {x:DataW H×List MemPlace} (i:prog.underlying t=some (.struct #[d,c])) (h:az enc prog W base (fun _=>true) held fuel t cs=some x) :
  ∃ f e n,az enc prog W base (fun _=>true) held n d.type ((cs.drop d.offset).take (prog.cellsOf d.type))=some f/\az enc prog W base (fun _=>true) held n c.type ((cs.drop c.offset).take (prog.cellsOf c.type))=some e:=by
 obtain ⟨xs,n,_,_,j,b,g⟩:=aA i h
 match xs,b with
 | [f,e],_=>exact ⟨f,e,n,by simpa using g 0 d rfl,by simpa using g 1 c rfl⟩
theorem j9v {β:Type} (Q:Nat->β->Prop):∀ n,(∀ i,i<n->∃ x,Q i x)->∃ l:List β,l.length=n/\∀ i x,l[i]?=some x->Q i x
 | 0,_=>⟨[],rfl,by simp⟩
 | n+1,h=>by
  obtain ⟨l,c,d⟩:=j9v Q n (fun i hi=>h i (by omega));obtain ⟨x,hx⟩:=h n (by omega);refine ⟨l++[x],by simp [c],fun i y b=>?_⟩;rw [List.getElem?_append] at b;split at b
  ·exact d i y b
  ·rename_i hi;have:i=n:=by
    have:=(List.getElem?_eq_some_iff.1 b).1;simp at this;omega
   subst this;rw [c,Nat.sub_self] at b;simp at b;subst b;exact hx
theorem j5n {A z u s r q p o m k i g f e d c:Field} {x:DataW H×List MemPlace} (C:prog.underlying t=some (.struct #[A,z,u,s,r,q,p,o,m,k,i,g,f,e,d,c])) (h:az enc prog W base (fun _=>true) held fuel t cs=some x) :
  ∃ n,cs.length=prog.cellsOf t/\(∃ y,az enc prog W base (fun _=>true) held n A.type ((cs.drop A.offset).take (prog.cellsOf A.type))=some y)/\(∃ y,az enc prog W base (fun _=>true) held n z.type ((cs.drop z.offset).take (prog.cellsOf z.type))=some y)/\(∃ y,az enc prog W base (fun _=>true) held n u.type ((cs.drop u.offset).take (prog.cellsOf u.type))=some y)/\(∃ y,az enc prog W base (fun _=>true) held n s.type ((cs.drop s.offset).take (prog.cellsOf s.type))=some y)/\(∃ y,az enc prog W base (fun _=>true) held n r.type ((cs.drop r.offset).take (prog.cellsOf r.type))=some y)/\(∃ y,az enc prog W base (fun _=>true) held n q.type ((cs.drop q.offset).take (prog.cellsOf q.type))=some y)/\(∃ y,az enc prog W base (fun _=>true) held n p.type ((cs.drop p.offset).take (prog.cellsOf p.type))=some y)/\(∃ y,az enc prog W base (fun _=>true) held n o.type ((cs.drop o.offset).take (prog.cellsOf o.type))=some y)/\(∃ y,az enc prog W base (fun _=>true) held n m.type ((cs.drop m.offset).take (prog.cellsOf m.type))=some y)/\(∃ y,az enc prog W base (fun _=>true) held n k.type ((cs.drop k.offset).take (prog.cellsOf k.type))=some y)/\(∃ y,az enc prog W base (fun _=>true) held n i.type ((cs.drop i.offset).take (prog.cellsOf i.type))=some y)/\(∃ y,az enc prog W base (fun _=>true) held n g.type ((cs.drop g.offset).take (prog.cellsOf g.type))=some y)/\(∃ y,az enc prog W base (fun _=>true) held n f.type ((cs.drop f.offset).take (prog.cellsOf f.type))=some y)/\(∃ y,az enc prog W base (fun _=>true) held n e.type ((cs.drop e.offset).take (prog.cellsOf e.type))=some y)/\(∃ y,az enc prog W base (fun _=>true) held n d.type ((cs.drop d.offset).take (prog.cellsOf d.type))=some y)/\(∃ y,az enc prog W base (fun _=>true) held n c.type ((cs.drop c.offset).take (prog.cellsOf c.type))=some y):=by
 obtain ⟨xs,n,_,_,D,j,b⟩:=aA C h;have B:xs.length=16:=j;exact ⟨n,D,⟨_,(b 0 A rfl).trans (ah (by omega))⟩,⟨_,(b 1 z rfl).trans (ah (by omega))⟩,⟨_,(b 2 u rfl).trans (ah (by omega))⟩,⟨_,(b 3 s rfl).trans (ah (by omega))⟩,⟨_,(b 4 r rfl).trans (ah (by omega))⟩,⟨_,(b 5 q rfl).trans (ah (by omega))⟩,⟨_,(b 6 p rfl).trans (ah (by omega))⟩,⟨_,(b 7 o rfl).trans (ah (by omega))⟩,⟨_,(b 8 m rfl).trans (ah (by omega))⟩,⟨_,(b 9 k rfl).trans (ah (by omega))⟩,⟨_,(b 10 i rfl).trans (ah (by omega))⟩,⟨_,(b 11 g rfl).trans (ah (by omega))⟩,⟨_,(b 12 f rfl).trans (ah (by omega))⟩,⟨_,(b 13 e rfl).trans (ah (by omega))⟩,⟨_,(b 14 d rfl).trans (ah (by omega))⟩,⟨_,(b 15 c rfl).trans (ah (by omega))⟩⟩
end
end
section
open Go.RowKit Sm Cf
theorem jiq (l:List Int) (c:Nat) (h:Mem w V (lb c 33 (ux l)++K)) (k:l.length<=255):Rw V 1 (lv c (ux l)) (ux l):=by
 have d:(ux l).length=l.length:=by simp [ux]
 by_cases h0:l=[]
 ·subst h0;exact ⟨none,0,rfl,ar _,by omega,fun _=>rfl,Or.inl rfl⟩
 ·have b:ux l≠[]:=by simpa [ux] using h0
  rw [j0r b] at h;rw [j0o b];refine ⟨_,_,rfl,ar _,by omega,(fun e=>by cases e),Or.inr ⟨c,0,rfl,fun i hi j u f=>?_⟩⟩;obtain ⟨x,hx⟩:∃ x,l[i]?=some x:=⟨_,ah (by omega)⟩;have g:(ux l).getD i []=[.int .u32 x]:=by simp [ux,ai,hx]
  rw [g] at f;rw [h.cell 0 rfl,ja5 l i x hx];have:=jy (ux (l.take i)).flatten [.int .u32 x] (ux (l.drop (i+1))).flatten j u f;rw [jbz,aj,au (by omega)] at this;rw [aq];exact this
theorem jbe (l:List (Int×Int)) (c:Nat) (h:Mem w V (lb c 122 (px l)++K)) (k:l.length<=255):Rw V 2 (lv c (px l)) (px l):=by
 have d:(px l).length=l.length:=by simp [px]
 by_cases h0:l=[]
 ·subst h0;exact ⟨none,0,rfl,ar _,by omega,fun _=>rfl,Or.inl rfl⟩
 ·have b:px l≠[]:=by simpa [px] using h0
  rw [j0r b] at h;rw [j0o b];refine ⟨_,_,rfl,ar _,by omega,(fun e=>by cases e),Or.inr ⟨c,0,rfl,fun i hi j u f=>?_⟩⟩;obtain ⟨x,hx⟩:∃ x,l[i]?=some x:=⟨_,ah (by omega)⟩;have g:(px l).getD i []=[.int .u32 x.1,.int .u32 x.2]:=by simp [px,ai,hx]
  rw [g] at f;rw [h.cell 0 rfl,ja6 l i x hx];have:=jy (px (l.take i)).flatten [.int .u32 x.1,.int .u32 x.2] (px (l.drop (i+1))).flatten j u f;rw [jc0,aj,au (by omega)] at this;rw [aq];exact this
abbrev tz:Array Value:=(tc ten0 nilV nilV nilV).toArray
theorem jx {d:Func} {p q:Tmp} (h:d.results=#[.cell p ty,.tmp q]) (b:Array Value) (w:World) (g:Nat) (cs:Array Value)
  (e:b.getD p undef=.pointer (some ⟨g,0,none⟩)) (f:(loadVar ty ⟨g,0,none⟩).run prog w=.ok (.agg cs) w) :
  (results d b).run prog w=.ok (.tuple #[.agg cs,b.getD q undef]) w:=by
 have c:b[p]?.getD undef=.pointer (some ⟨g,0,none⟩):=by simpa using e
 simp [results,h,c,asAddr,f]
def Fit (t:Ten):Prop:=t.name.size<=255/\t.pool.length<=255/\t.stat.length<=255/\t.twi.length<=255/\0<=t.filter/\t.filter<=255/\0<=t.sess/\t.sess<=65535/\0<=t.queue/\t.queue<=65535
instance (t:Ten):Decidable (Fit t):=by unfold Fit;infer_instance
end
end Go.Proofs.YtdigofgjhaakmaaGreatDoor
