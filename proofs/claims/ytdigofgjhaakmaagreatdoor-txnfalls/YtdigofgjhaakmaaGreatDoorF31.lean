/- Parts of the proof. -/
import Derived.Test.YtdigofgjhaakmaaGreatDoorF30
set_option linter.all false
set_option maxHeartbeats 40000000
set_option maxRecDepth 20000
open Go.Proofs.Tryz
open Prod renaming fst->aa
open Go.Act renaming eval->ab,put->ac
open List renaming perm_append_comm->ae,size_toArray->af,set_cons_zero->ag,mem_cons_of_mem->ah,append_toArray->ai,cons_append->aj,nil_append->ak,eq_nil_of_length_eq_zero->al,flatten_cons->am,length_append->an,mem_flatten->ao,mem_singleton->ap,perm_iff_count->aq,count_append->ar,count_cons->au,mem_of_mem_take->av,mem_map->aw,length_map->ax,getElem?_take->ay,length_take->az,map_append->aA,flatten_append->aB,map_cons->aD
open Array renaming empty_append->aE,getElem?_toList->aF
open Nat renaming le_refl->aG,zero_add->aH,min_eq_left->aI
open Go.RowKit.Below renaming refl->aJ
open Go.Value renaming slice->aK
open Go.Builtin renaming append_->aL
open Or renaming inl->aM,inr->aN
open Go.AllReadyH renaming cons->aO,nil->aP
namespace Go.Proofs.YtdigofgjhaakmaaGreatDoor
variable {W V w X:World} {g tp n k ga i g1 B:Nat} {v u1 u z:Value} {L:List (Nat×Obj)} {ta:Option Addr} {caps:Array Value} {T:TypeId} {ys xs x post pre:List Value}
section
open Go.RowKit Sm Cf Df
section
variable {W:World} {ps:Nat} {ver:Int} {dn:Bool} {sp:Option Addr}
theorem j3j (b:W.cell? ⟨ps,1,none⟩=some (.int .u64 ver)):Calls prog 15 #[.pointer (some ⟨ps,0,none⟩)] W fun e a=>e=.returned (.int .u64 ver)/\W=a:=by
 go_enter func15,ntmps15
 go_wp2
 go_ret;exact ⟨rfl,rfl⟩
theorem jkj (a:W.cell? ⟨ps,32,none⟩=some (.bool dn)):Calls prog 18 #[.pointer (some ⟨ps,0,none⟩)] W fun e b=>e=.returned (.bool dn)/\W=b:=by
 go_enter func18,ntmps18
 go_wp2
 go_ret;exact ⟨rfl,rfl⟩
def Cpd (W:World) (c:Cgf) (ts:List Ten) (v:Value) (V:World):Prop:=∃ u,v=.agg (cc c u).toArray/\∃ B C,TsB u ts B C/\Mem W V (B++C)
theorem Cpd.cv {c:Cgf} (h:Cpd W c c.ten v V) (a:CLen c):CV V v c:=by
 obtain ⟨u,rfl,B,C,d,b⟩:=h;exact ⟨a,u,rfl,j8y d fun x hx=>b.at_ x hx⟩
theorem Cpd.below {c:Cgf} {ts:List Ten} (h:Cpd W c ts v V):Below W.heap.size W V:=by
 obtain ⟨u,rfl,B,C,b,a⟩:=h;exact a.below
theorem jei {ts:List Ten} {B C:List (Nat×Obj)} (h:TsB u ts B C):u.oneCell'=true:=by
 obtain ⟨b,-,a,-⟩:=h;exact j01 a
theorem j2q {c:Cgf} {l:List Tv} (b:W.rangeAt ps 2 (cc c u)) (m:CLen c) (K:ZV W u l) (M:∀ z∈l,TFew z.1) (R:l.length<=1000) :
 Calls prog 17 #[.pointer (some ⟨ps,0,none⟩)] W fun e V=>∃ v,e=.returned v/\Cpd W c (l.map aa) v V:=by
 obtain ⟨g,H⟩:∃ g,W.heap.size=g:=⟨_,rfl⟩;have a:Mem W (W.alloc (.cells cz 39)) [(g,.cells cz 39)]:=(Mem.nil W).push1 H.symm;have f:(W.alloc (.cells cz 39)).rangeAt ps 2 (cc c u):=fun j x S=>by
  have h:=b j x S;rw [a.old (j9 h)];exact h
 have C:=jha m (K.at_ a.below) M R;have D:(prog.info? 39).map (·.size)=some (cc c u).length:=by rw [je m];kernel_rfl
 have P:Hid (Mem W (W.alloc (.cells cz 39)) [(g,.cells cz 39)]/\(W.alloc (.cells cz 39)).rangeAt ps 2 (cc c u)/\Calls prog 51 #[.agg (cc c u).toArray] (W.alloc (.cells cz 39)) fun e V=>∃ d,e=.returned (.agg (cc c d).toArray)/\∃ B C,TsB d (l.map aa) B C/\Mem (W.alloc (.cells cz 39)) V (B++C)):=⟨a,f,C⟩;clear a K M b f C;go_enter func17,ntmps17;go_upto_region 1 with fail;refine j5 (fun X=>Mem W X [(g,.cells cz 39)]/\X.rangeAt ps 2 (cc c u)/\Calls prog 51 #[.agg (cc c u).toArray] X fun e V=>∃ d,e=.returned (.agg (cc c d).toArray)/\∃ B C,TsB d (l.map aa) B C/\Mem X V (B++C)) (by exact P.out) ?_;rintro U ⟨a,b,C⟩
 try simp only [H]
 clear P H;have G:Hid (Mem W U [(g,.cells cz 39)]):=a;clear a;go_wp2_with (refine wpList_load_mid rfl 39 (.tmp 6) (by with_reducible rfl) ps 2 (by simp [ab]) (cc c u) _ b underlying39 rfl D ?_)
 refine C.mono ?_;rintro e V ⟨d,rfl,B,Q,I,N⟩;have E:=G.out.more N;have q:Mem W V ((g,.cells cz 39)::(B++Q)):=E.perm ae;have J:=q.get 0 rfl;obtain ⟨A,F⟩:∃ A,(cc c d).toArray=A:=⟨_,rfl⟩;have s:A.size=29:=by rw [<-F,af];exact je m _
 have y:A.all (·.oneCell')=true:=by rw [<-F];exact zx c (jei I)
 have r:(prog.info? 39).map (·.size)=some A.size:=by rw [s];kernel_rfl
 have z29:(cz:Array Value).size=A.size:=by rw [s];rfl
 have o:=q.wrote 0 rfl (j8 V g _ A _ J);have O:Hid ((V.setRow g A).heap[g]?=some (.cells A 39)/\∃ v,Ending.returned (.agg A)=.returned v/\Cpd W c (l.map aa) v (V.setRow g A)):=⟨o.get 0 rfl,_,rfl,d,by rw [F],B,Q,I,o.sub⟩;rw [F];clear N E q o G C b I F;go_wp2_with (refine wpList_store_row rfl 39 (.tmp 2) (.tmp 8) (by with_reducible rfl) g A (by first|rfl|simp [ab]) (by first|rfl|simp [ab]) 39 cz J r z29 y ?_)
 refine bodyPost_ret (v:=.agg A) ?_ rfl O.out.2;exact results_cell_row (p:=2) (ty:=39) rfl _ _ g 39 _ (0,0) _ rfl O.out.1 underlying39 rfl r
end
section
variable {w W:World} {ps pl:Nat} {ver:Int} {c:Cgf} {u:Value} {sp:Option Addr} {dn:Bool} {L:List (Nat×Obj)}
abbrev bxS (ps pl:Nat) (ver:Int) (c:Cgf) (u:Value) (sp:Option Addr) (dn:Bool):Nat×Obj:=(ps,.cells (xA pl ver c u sp dn).toArray stT (0,0))
abbrev bxC (g:Nat) (c:Cgf) (u:Value):Nat×Obj:=(g,.cells (cc c u).toArray 39)
theorem bx1 (a:Mem w W (bxS ps pl ver c u sp dn::L)):W.cell? ⟨ps,1,none⟩=some (.int .u64 ver):=by rw [a.cell 0 rfl];exact xA_1
theorem bx0 (a:Mem w W (bxS ps pl ver c u sp dn::L)):W.cell? ⟨ps,0,none⟩=some (.pointer (some ⟨pl,0,none⟩)):=by rw [a.cell 0 rfl];exact xA_0
theorem bx31 (b:Mem w W (bxS ps pl ver c u sp dn::L)) (a:CLen c):W.cell? ⟨ps,31,none⟩=some (.pointer sp):=by rw [b.cell 0 rfl];exact ji0 a
theorem bx32 (b:Mem w W (bxS ps pl ver c u sp dn::L)) (a:CLen c):W.cell? ⟨ps,32,none⟩=some (.bool dn):=by rw [b.cell 0 rfl];exact jsr a
theorem jl4 (hM:Mem w W (bxS ps pl ver c u none false::L)) (hl:CLen c) :
 Calls prog 22 #[.pointer (some ⟨ps,0,none⟩),.int .u64 ver] W fun e W'=>∃ g,e=.returned (.int .i64 0)/\Mem w W' (bxS ps pl ver c u (some ⟨g,0,none⟩) false::bxC g c u::L):=by
 have h1:=bx1 hM;have h31:=bx31 hM hl;have h32:=bx32 hM hl;have hra:=j5l hM;have C:=j3p (cl:=(cc c u).toArray) hM (j8v hl) (ji0 hl);simp only [j0s hl] at C;have hi29:(prog.info? 39).map (·.size)=some (cc c u).length:=by rw [je hl];kernel_rfl
 have hv:(ver != ver)=false:=by simp
 clear hM;obtain ⟨cl,hcl⟩:∃ cl,cc c u=cl:=⟨_,rfl⟩;rw [hcl] at hra hi29;simp only [hcl] at C;have HCL:Hid (cc c u=cl):=hcl;clear hcl;go_enter func22,ntmps22;go_wp2_with (refine wpList_load_mid rfl 39 (.tmp 28) (by with_reducible rfl) ps 2 (by simp [ab]) cl _ hra underlying39 rfl hi29 ?_)
 refine C.mono ?_;rintro e W' ⟨g,rfl,hM⟩;go_wp2_with fail;go_ret;exact ⟨g,rfl,by rw [bxC,HCL.out];exact hM⟩
theorem jle (b:Mem w W (bxS ps pl ver c u (some ⟨g,0,none⟩) false::L)) (d:CLen c) :
 Calls prog 23 #[.pointer (some ⟨ps,0,none⟩)] W fun e l=>e=.returned (.int .i64 0)/\Mem w l (bxS ps pl ver c u none false::L):=by
 have f:=bx31 b d;have C:=kx f (bx32 b d);have m:=jk 0 W;have j:=b.free 0 rfl 31;have a:=b.set 0 rfl 31 (.pointer none);simp only [ag] at a;rw [j0s d] at a;have h:Hid (Mem w (W.setCell ⟨ps,31,none⟩ (.pointer none)) (bxS ps pl ver c u none false::L)):=a;have o:((0:Int) != 0)=false:=rfl;clear b a;go_enter func23,ntmps23;go_wp2_with fail;refine C.mono ?_;rintro e _ ⟨rfl,rfl⟩;go_wp2_with fail;refine m.mono ?_;rintro e _ ⟨rfl,rfl⟩;go_wp2_with fail;go_ret;exact ⟨rfl,h.out⟩
theorem jdj (b:Mem w W (bxS ps pl ver c u sp dn::L)) (h:CLen c) (j:bgn dn sp≠0) (cl:Array Value) :
 Calls prog 26 #[.pointer (some ⟨ps,0,none⟩),.agg cl] W fun e d=>e=.returned (.int .i64 (bgn dn sp))/\Below W.heap.size W d:=by
 have a:Mem W (W.alloc (.cells cl 39)) [(W.heap.size,.cells cl 39)]:=(Mem.nil W).push1 rfl;have C:∀ X,Below W.heap.size W X->Calls prog 53 #[.pointer (some ⟨ps,0,none⟩)] X fun e d=>e=.returned (.int .i64 (bgn dn sp))/\X=d:=fun X l=>kx (bx31 (b.after l) h) (bx32 (b.after l) h);have o:=C _ a.below;have f:=jk (bgn dn sp) (W.alloc (.cells cl 39));have m:(bgn dn sp != 0)=true:=by simp [j]
 have p:Hid (Below W.heap.size W (W.alloc (.cells cl 39))):=a.below;rw [m] at f;generalize bgn dn sp=k at o f;clear j m C b a;go_enter func26,ntmps26;go_wp2_with fail;refine o.mono ?_;rintro e _ ⟨rfl,rfl⟩;go_wp2_with fail;refine f.mono ?_;rintro e _ ⟨rfl,rfl⟩;go_wp2_with fail;go_ret;exact ⟨rfl,p.out⟩
theorem jdi {s b:Cgf} {u2:Value} (q:Mem w W (bxS ps pl ver c u (some ⟨g,0,none⟩) false::L)) (S:bxC g s u1∈L) (D:CLen c) (N:CLen s) (f:CLen b) (M:∃ a n m,u1=.slice a n m) :
 Calls prog 26 #[.pointer (some ⟨ps,0,none⟩),.agg (cc b u2).toArray] W fun e Y=>∃ I,e=.returned (.int .i64 0)/\Mem w Y (bxS ps pl ver c u (some ⟨I,0,none⟩) false::bxC I { b with ten:=s.ten } u1::L):=by
 obtain ⟨o,j,l,rfl⟩:=M;obtain ⟨g0,p⟩:∃ g,W.heap.size=g:=⟨_,rfl⟩;have h:Mem w (W.alloc (.cells (cc b u2).toArray 39)) (bxC g0 b u2::bxS ps pl ver c u (some ⟨g,0,none⟩) false::L):=q.front _ p.symm;have d:=h.sub;have Q:=kx (bx31 d D) (bx32 d D);have P:=jk 0 (W.alloc (.cells (cc b u2).toArray 39));have F:=bx31 d D;have G:(W.alloc (.cells (cc b u2).toArray 39)).cell? ⟨g,28,none⟩=some (.slice o j l):=by
  rw [cell_of (h.at_ _ (ah _ (ah _ S)))];exact j50 N (.slice o j l)
 have E:(W.alloc (.cells (cc b u2).toArray 39)).cell? ⟨g0,28,none⟩=some u2:=by rw [h.cell 0 rfl];exact j50 f u2
 have H:=h.free 0 rfl 28;have y:Hid (Mem w (W.alloc (.cells ((cc b u2).toArray.setIfInBounds 28 (.slice o j l)) 39)) (bxC g0 { b with ten:=s.ten } (.slice o j l)::bxS ps pl ver c u (some ⟨g,0,none⟩) false::L)):=by
  rw [j3e f,show cc b (.slice o j l)=cc { b with ten:=s.ten } (.slice o j l) from rfl];exact q.front _ p.symm
 obtain ⟨A,U⟩:∃ A,(cc b u2).toArray=A:=⟨_,rfl⟩;obtain ⟨C,r⟩:∃ C,(cc { b with ten:=s.ten } (.slice o j l)).toArray=C:=⟨_,rfl⟩;have K:C.size=29:=by rw [<-r,af];exact je ⟨f.mac,f.omac,f.nmac,f.key⟩ _
 have J:(prog.info? 39).map (·.size)=some C.size:=by rw [K];kernel_rfl
 have O:Hid ((cc { b with ten:=s.ten } (.slice o j l)).toArray=C):=r;rw [U] at Q P F G E H y ⊢;have hz:((0:Int) != 0)=false:=rfl;clear q h d S U;go_enter func26,ntmps26;go_wp2_with fail;refine Q.mono ?_;rintro e _ ⟨rfl,rfl⟩;go_wp2_with fail;refine P.mono ?_;rintro e _ ⟨rfl,rfl⟩;go_upto_region 5 with fail;refine j5 (fun X=>Mem w X (bxC g0 { b with ten:=s.ten } (.slice o j l)::bxS ps pl ver c u (some ⟨g,0,none⟩) false::L)) (by exact y.out) ?_;intro V q
 try simp only [p]
 clear y Q P F G E H p;have R:=q.get 0 rfl;have Z:=j3p (cl:=C) q.sub (j8v D) (ji0 D);simp only [j0s D] at Z;rw [r] at R;clear r q;go_wp2_with (refine wpList_load_row rfl 39 (.tmp 3) (by with_reducible rfl) g0 (by first|rfl|simp [ab]) 39 C (0,0) _ R underlying39 rfl J ?_)
 refine Z.mono ?_;rintro e Y ⟨I,rfl,q⟩;go_wp2_with fail;go_ret;exact ⟨I,rfl,by rw [bxC,O.out];exact q⟩
end
end
section
open Go.RowKit Va
theorem pp1 {t:Ten} (h:TBo W g t):PrT W 109 #[.pointer (some ⟨g,0,none⟩)] (fun o=>o.vni==t.vni):=by
 refine ⟨enters_of func109 (by kernel_rfl) rfl,fun V v o I j H=>?_⟩;obtain ⟨K,Q,M,O,P,sc,N,m,hx⟩:=h.later I;obtain ⟨e,G,C,E,F,s,D,rfl,l⟩:=j.tb;obtain ⟨b,a⟩:∃ b,V.heap.size=b:=⟨_,rfl⟩;have d:Mem V (V.alloc (.cells e.toArray 46)) [(b,.cells e.toArray 46)]:=(Mem.nil V).push1 a.symm;have r:Hid (∀ X,Mem V X [(b,.cells e.toArray 46)]->X.cell? ⟨b,1,none⟩=some (.int .u32 o.vni)/\X.cell? ⟨g,1,none⟩=some (.int .u32 t.vni)):=fun X p=>⟨jb (p.get 0 rfl) l.vni,cell_later p.below (jb m hx.vni)⟩;clear h m hx l j H;simp only [ai,aj,ak,aE];generalize e.toArray=A at *;generalize o.vni=x at *;generalize t.vni=y at *;go_enter func109,ntmps109;go_upto_region 1 with fail;refine j5 (fun X=>Mem V X [(b,.cells A 46)]) (by exact d) ?_;intro q f
 try simp only [a]
 clear d a;obtain ⟨S,R⟩:=r.out q f;have J:Hid (Below V.heap.size V q):=f.below;clear r f;go_wp2_with fail;go_ret;exact ⟨rfl,J.out⟩
theorem pp21 {x:Int} (h:W.cell? ⟨g,0,none⟩=some (.int .u32 x)):PrT W 112 #[.pointer (some ⟨g,0,none⟩)] (fun o=>owns o x):=by
 refine ⟨enters_of func112 (by kernel_rfl) rfl,fun V v o N p q=>?_⟩;have r:=cell_later N h;obtain ⟨j,J,F,H,I,E,G,rfl,m⟩:=p.tb;obtain ⟨f,a⟩:∃ f,V.heap.size=f:=⟨_,rfl⟩;have b:Mem V (V.alloc (.cells j.toArray 46)) [(f,.cells j.toArray 46)]:=(Mem.nil V).push1 a.symm;have y:Hid (∀ X,Below V.heap.size V X->Calls prog 113 #[.agg j.toArray,.int .u32 x] X fun e w'=>e=.returned (.bool (owns o x))/\Below X.heap.size X w'):=fun X M=>jbm (m.later M).tv q x;have l:=j5b m.len;clear h m p q;simp only [ai,aj,ak,aE];generalize owns o x=B at *;generalize j.toArray=A at *;go_enter func112,ntmps112;go_upto_region 1 with fail;refine j5 (fun X=>Mem V X [(f,.cells A 46)]) (by exact b) ?_;intro s d
 try simp only [a]
 clear b a;have O:=cell_later d.below r;have K:=d.get 0 rfl;have C:=y.out s d.below;have D:Hid (Below V.heap.size V s):=d.below;clear y d r;go_wp2_with (refine wpList_load_row rfl 46 (.tmp 2) (by with_reducible rfl) f (by first|rfl|simp [ab]) 46 A (0,0) _ K underlying46 rfl l ?_)
 refine C.mono ?_;rintro _ X ⟨rfl,hb⟩;go_wp2_with fail;go_ret;exact ⟨rfl,D.out.trans (hb.mono D.out.size)⟩
theorem pp2 {c:Cgf} {j:List Ten} (h:CBo W g c) (hc:W.cell? ⟨ga,0,none⟩=some (.slice ta n tp)) (A:TSV W (.slice ta n tp) j) (E:j.length<=1000000) (D:∀ t∈j,TSm t) :
  PrU W 110 #[.pointer (some ⟨g,0,none⟩),.pointer (some ⟨ga,0,none⟩)] (fun x=>x==c.ip || j.any (fun o=>owns o x)):=by
 refine ⟨enters_of func110 (by kernel_rfl) rfl,fun x V p=>?_⟩;obtain ⟨cl,H,G,F,hx⟩:=h.later p;obtain ⟨d,a⟩:∃ d,V.heap.size=d:=⟨_,rfl⟩;have b:Mem V (V.alloc (.cells #[.int .u32 x] 33)) [(d,.cells #[.int .u32 x] 33)]:=(Mem.nil V).push1 a.symm;obtain ⟨B,s⟩:∃ B,j.any (fun o=>owns o x)=B:=⟨_,rfl⟩;have q:Hid (∀ X,Mem V X [(d,.cells #[.int .u32 x] 33)]->X.cell? ⟨d,0,none⟩=some (.int .u32 x)/\X.cell? ⟨g,0,none⟩=some (.int .u32 c.ip)/\X.cell? ⟨ga,0,none⟩=some (.slice ta n tp)/\Calls prog 111 #[.slice ta n tp,.func (.func 112) #[] #[.pointer (some ⟨d,0,none⟩)]] X fun e w'=>e=.returned (.bool B)/\Below X.heap.size X w'):=by
  intro X m;have hb:=p.trans (m.below.mono p.size);have C:=j4i (A.at_ hb (aG _)) E (pp21 (m.cell 0 rfl 0)) D;rw [s] at C;exact ⟨m.cell 0 rfl 0,cell_later m.below (jb F hx.ip),cell_later hb hc,C⟩
 have I:=mkf;simp only [ai,aj,ak,aE];rw [s];clear h hc A E D F hx s p;generalize c.ip=y at *;cases hxy:(x==y) with
 | true =>
  go_enter func110,ntmps110;go_upto_region 1 with fail;refine j5 (fun X=>Mem V X [(d,.cells #[.int .u32 x] 33)]) (by exact b) ?_;intro l f
  try simp only [a]
  clear b a;obtain ⟨M,K,J,C⟩:=q.out l f;have r:Hid (Below V.heap.size V l):=f.below;clear q f C;go_wp2_with fail;go_ret;exact ⟨rfl,r.out⟩
 | false =>
  go_enter func110,ntmps110;go_upto_region 1 with fail;refine j5 (fun X=>Mem V X [(d,.cells #[.int .u32 x] 33)]) (by exact b) ?_;intro l f
  try simp only [a]
  clear b a;obtain ⟨M,K,J,C⟩:=q.out l f;have r:Hid (Below V.heap.size V l):=f.below;clear q f;go_wp2_with fail;refine C.mono ?_;rintro _ X ⟨rfl,hb⟩;go_wp2_with fail;go_ret;exact ⟨rfl,r.out.trans (hb.mono r.out.size)⟩
theorem pr3 {t:Ten} (b:Vs W) (h:TBo W g t) (d:TSm t):Rul W 114 #[.pointer (some ⟨g,0,none⟩)] (tchk t):=by
 refine ⟨enters_of func114 (by kernel_rfl) rfl,fun V e=>?_⟩;obtain ⟨f,q,l,o,p,sc,m,j,hx⟩:=h.later e;have C:=j2n (b.below e) hx.tv d;have a:=j5b hx.len;clear h hx d b;simp only [ai,aj,ak,aE];generalize tchk t=B at *;generalize f.toArray=A at *;go_enter func114,ntmps114;go_wp2_with (refine wpList_load_row rfl 46 (.tmp 0) (by with_reducible rfl) g (by first|rfl|simp [ab]) 46 A (0,0) _ j underlying46 rfl a ?_)
 refine C.mono ?_;rintro _ X ⟨rfl,hb⟩;go_wp2_with fail;go_ret;exact ⟨rfl,hb⟩
theorem pq4 {F:Nat} {t:Ten} {a:List Ten} (h:TBo W g t) (hi:W.cell? ⟨F,0,none⟩=some (.int .i64 (i:Int))) (P:a.length=i) (O:i<=1000000) (hc:W.cell? ⟨ga,0,none⟩=some (.slice ta i tp)) (y:TSV W (.slice ta i tp) a) :
  Ask W 115 #[.pointer (some ⟨F,0,none⟩),.pointer (some ⟨ga,0,none⟩),.pointer (some ⟨g,0,none⟩)] (a.length==0 || lss (a.getD (a.length-1) ten0).name t.name):=by
 refine ⟨enters_of func115 (by kernel_rfl) rfl,fun V f=>?_⟩;obtain ⟨S,pa,U,qa,pc,sc,Z,C,hx⟩:=h.later f;have R:=cell_later f hi;have c1:=cell_later f hc;have c2:=jb C hx.name;have d:=y.at_ f (aG _);simp only [ai,aj,ak,aE];subst P;by_cases h0:a.length=0
 ·have I:(((a.length:Nat):Int)==0)=true:=by rw [h0];rfl
  have r:(a.length==0)=true:=by rw [h0];rfl
  rw [r,Bool.true_or];clear h hi hc y d C hx f r;have H:((a.length:Nat):Int)=0:=by omega
  rw [H] at R;clear I H;generalize a.length=n at *;generalize t.name=J at *;go_enter func115,ntmps115;go_upto_region 1 with fail
  go_quiet (fail)
  go_wp2_with fail;go_ret;exact ⟨rfl,Go.below_drewN (aJ _ _) _⟩
 ·have r:(a.length==0)=false:=by simp [h0]
  rw [r,Bool.false_or];obtain ⟨a',c',e,N,Q,D⟩:=d.parts;simp only [aK.injEq] at e;obtain ⟨rfl,-,rfl⟩:=e;obtain ⟨b,s,x,rfl,A,l,o⟩:=D (a.length-1) (by omega);obtain ⟨j,p⟩:=o V (aJ _ _);obtain ⟨K,_,_,_,_,_,_,G,E⟩:=p.tb;have q:x=K:=by simpa using G
  have c3:V.cell? ⟨b,s+(a.length-1)*33,none⟩=some (.string (a.getD (a.length-1) ten0).name):=by
   have:=j 0 _ (by rw [q];exact E.name);rwa [Nat.add_zero] at this
  have e3:IntKind.i64.wrap ((a.length:Nat)-1:Int)=((a.length-1:Nat):Int):=by
   rw [wrap64 (by omega) (by omega)];omega
  have I:(((a.length:Nat):Int)==0)=false:=by rw [beq_eq_false_iff_ne];omega
  have M:a.length-1<a.length:=by omega
  unfold lss;clear h hi hc y d C hx f r D o j p E G q l A;generalize (a.getD (a.length-1) ten0).name=Y at *;generalize a.length-1=m at *;generalize a.length=n at *;generalize t.name=J at *;have h1:(m:Int)<n:=by omega
  go_enter func115,ntmps115;go_upto_region 1 with fail
  go_quiet (fail)
  go_wp2_with fail;go_ret;exact ⟨rfl,Go.below_drewN (aJ _ _) _⟩
theorem pq5 {gs:Nat} {a:List Ten} {f:Ten->Bool} (j:PrT W k caps f) (hs:W.cell? ⟨gs,0,none⟩=some (.func (.func k) #[] caps)) (hc:W.cell? ⟨ga,0,none⟩=some (.slice ta n tp)) (d:TSV W (.slice ta n tp) a) (h:a.length<=1000000) (e:∀ t∈a,TSm t) :
  Ask W 117 #[.pointer (some ⟨ga,0,none⟩),.pointer (some ⟨gs,0,none⟩)] (a.any f):=by
 refine ⟨enters_of func117 (by kernel_rfl) rfl,fun V b=>?_⟩;have m:=cell_later b hs;have l:=cell_later b hc;have C:=j4i (d.at_ b (aG _)) h (j.later b) e;clear j hs hc d h e;simp only [ai,aj,ak,aE];generalize a.any f=B at *;go_enter func117,ntmps117;go_wp2_with fail;refine C.mono ?_;rintro _ X ⟨rfl,hb⟩;go_wp2_with fail;go_ret;exact ⟨rfl,hb⟩
theorem pq6 {gk:Nat} {t:Ten} {f:Int->Bool} (h:TBo W g t) (d:TSm t) (e:PrU W k caps f) (hs:W.cell? ⟨gk,0,none⟩=some (.func (.func k) #[] caps)) :
  Ask W 118 #[.pointer (some ⟨g,0,none⟩),.pointer (some ⟨gk,0,none⟩)] (ow1 t f):=by
 refine ⟨enters_of func118 (by kernel_rfl) rfl,fun V b=>?_⟩;obtain ⟨j,r,m,p,q,sc,o,l,hx⟩:=h.later b;have s:=cell_later b hs;have C:=j3z hx.tv d (e.later b);have a:=j5b hx.len;clear h hx d e hs;simp only [ai,aj,ak,aE];generalize ow1 t f=B at *;generalize j.toArray=A at *;go_enter func118,ntmps118;go_wp2_with (refine wpList_load_row rfl 46 (.tmp 0) (by with_reducible rfl) g (by first|rfl|simp [ab]) 46 A (0,0) _ l underlying46 rfl a ?_)
 refine C.mono ?_;rintro _ X ⟨rfl,hb⟩;go_wp2_with fail;go_ret;exact ⟨rfl,hb⟩
end
section
open Go.RowKit La Ad
end
section
open Go.RowKit Sm Cf Df
namespace Df
theorem j8s {t e ty:TypeId} {sz b:Nat} (A:prog.underlying t=some (.slice e)) (hi:(prog.info? e).map (fun i=>(i.zero,i.size,i.bytes))=some (some z,sz,b)) (f:z.cells.size=sz) (d:0<sz)
  {s:Value} (m:Ow w W e sz s n ys L) {xs:List (List Value)} (h:Rw W sz v xs) (hx:∀ x∈xs,x.length=sz) (D:∀ x∈xs,∀ u∈x,u.oneCell'=true) (C:n+xs.length<=maxLen) (hb:(n+xs.length)*b<=140737488355328) :
  ∃ r F,(aL #[t,t] ty #[s,v]).run prog W=.ok r F/\Ow w F e sz r (n+xs.length) (ys++xs.flatten) L:=by
 have E:=h;obtain ⟨a,c,rfl,I,M,H,G⟩:=h;cases a with
 | none =>
  have hc:c=0:=H rfl;subst hc;have o:xs=[]:=al (by omega);subst o;obtain ⟨i,p,-,-,-⟩:=info_parts hi;refine ⟨_,_,run_append_owned_none (P:=prog) W w.heap.size t ty e i sz A p _ _ _ m.owns,?_⟩;simpa using m
 | some ad =>
  have q:xs.flatten.length=xs.length*sz:=by
   clear E G hb C D I
   induction xs with
   | nil=>simp
   | cons x xs ih=>rw [am,an,hx x (by simp),ih fun y J=>hx y (by simp [J]),List.length_cons,Nat.succ_mul];omega
  exact yi (ty:=ty) A hi f d m ad xs.length c xs.flatten q (j3v d E hx rfl) (by
   intro u K;obtain ⟨x,j,l⟩:=ao.mp K;exact D x j u l) C hb
end Df
theorem jo (h:Below V.drew.heap.size V.drew X):Below V.heap.size V X:=((aJ V.heap.size V).drew).trans h
theorem bslC (h:Chg) (m:TLen h.t) (p s q:Value) (V:World):(Instr.buildSlice 109 1 #[(0,.agg (hc h p s q).toArray)]).run prog V=.ok (.slice (some ⟨V.heap.size,0,none⟩) 1 1) (V.alloc (.cells (hc h p s q).toArray 48)):=by
 obtain ⟨put,j,n,D,key,C,E,M,J,K,hi,O,st,F,G,I,H,Z⟩:=h;obtain ⟨A,r,o⟩:=m;obtain ⟨a,b,c,d,f,g,x,y,rfl⟩:=kt A;obtain ⟨a1,b1,Y,S,Q,g1,rfl⟩:=six6 r;obtain ⟨a2,b2,U,R,P,N,rfl⟩:=six6 o;obtain ⟨os,e,l⟩:=V;kernel_rfl
section
variable {w W:World} {ps pl:Nat} {ver:Int} {c:Cgf} {u:Value} {sp:Option Addr} {dn:Bool} {L:List (Nat×Obj)}
theorem jex (b:Mem w W (bxS ps pl ver c u sp dn::L)) (f:CLen c) (h:bgn dn sp≠0) (cl:Array Value) :
 Calls prog 29 #[.pointer (some ⟨ps,0,none⟩),.agg cl] W fun e m=>e=.returned (.int .i64 (bgn dn sp))/\Below W.heap.size W m:=by
 have a:Mem W (W.alloc (.cells cl 48)) [(W.heap.size,.cells cl 48)]:=(Mem.nil W).push1 rfl;have l:=kx (bx31 (b.after a.below) f) (bx32 (b.after a.below) f);have d:=jk (bgn dn sp) (W.alloc (.cells cl 48));have j:(bgn dn sp != 0)=true:=by simp [h]
 have o:Hid (Below W.heap.size W (W.alloc (.cells cl 48))):=a.below;rw [j] at d;generalize bgn dn sp=k at l d;clear h j b a;go_enter func29,ntmps29;go_wp2_with fail;refine l.mono ?_;rintro e _ ⟨rfl,rfl⟩;go_wp2_with fail;refine d.mono ?_;rintro e _ ⟨rfl,rfl⟩;go_wp2_with fail;go_ret;exact ⟨rfl,o.out⟩
def StgP (w W:World) (ps pl:Nat) (ver:Int) (c:Cgf) (u:Value) (c1:Cgf) (h:Chg) (L:List (Nat×Obj)) (e:Ending) (W':World):Prop :=
 (ftsB c1.ten h=false/\e=.returned (.int .i64 90)/\Below W.heap.size W W')\/(ftsB c1.ten h=true/\e=.returned (.int .i64 0)/\∃ g' u' B C,TsB u' (app c1.ten [h]) B C/\Mem w W' (bxS ps pl ver c u (some ⟨g',0,none⟩) false::bxC g' { c1 with ten:=app c1.ten [h] } u'::(B++C++L)))
theorem jcr (hv:Vs W) {d:Cgf} (hM:Mem w W (bxS ps pl ver c u (some ⟨g,0,none⟩) false::L)) (hg:bxC g d u1∈L) (hl:CLen c) (f:CLen d) {o:List Tv} (hz:ZV W u1 o) (a1:o.map aa=d.ten) (a2:∀ z∈o,Nf z.1) (hm:o.length<=900)
 {y:Hv} (E:TLen y.1.t) (a3:Rws W (yz y)) (d1:Nf y.1.t) (a8:y.1.name.size<=1000000) :
 Calls prog 29 #[.pointer (some ⟨ps,0,none⟩),.agg (yc y).toArray] W (StgP w W ps pl ver c u d y.1 L):=by
 obtain ⟨J,b1⟩:∃ g,W.heap.size=g:=⟨_,rfl⟩;obtain ⟨Y,hY⟩:∃ Y,(yc y).toArray=Y:=⟨_,rfl⟩;obtain ⟨I,H,rfl,-,-,-⟩:=hz.parts;have U:Mem w (W.alloc (.cells Y 48)) ((J,.cells Y 48)::bxS ps pl ver c u (some ⟨g,0,none⟩) false::L):=hM.front _ b1.symm;have a5:Below W.heap.size W (W.alloc (.cells Y 48)):=(aJ _ _).alloc (aG _) _;have C1:=kx (bx31 U.sub hl) (bx32 U.sub hl);have C2:=jk 0 (W.alloc (.cells Y 48));have G:Hid (∀ X,Below W.heap.size W X->Calls prog 54 #[.agg (yc y).toArray,.slice I o.length H] X fun e V=>e=.returned (.bool (ftsB d.ten y.1))/\Below X.heap.size X V):=fun X l=>by
  rw [<-a1];exact jdm (hv.below l) (hz.at_ l) a2 (by omega) E (Rws.at_ a3 l) a8
 have c5:Hid (∀ X ga,Below W.heap.size W X->X.heap[ga]?=some (.cells (yc y).toArray 48)->Calls prog 55 #[.slice I o.length H,.slice (some ⟨ga,0,none⟩) 1 1] X fun e V=>∃ r,e=.returned r/\∃ B C,TsB r (app d.ten [y.1]) B C/\Mem X V (B++C)):=fun X ga l d3=>by
  have:=jhr (hz.at_ l) (jft d3 E (Rws.at_ a3 l)) a2 (by intro y' a9;rw [ap] at a9;subst a9;exact ⟨d1,a8⟩) (by omega) (by simp);rw [a1] at this;exact this
 have c4:Hid (∀ V,(Instr.buildSlice 109 1 #[(0,.agg Y)]).run prog V=.ok (.slice (some ⟨V.heap.size,0,none⟩) 1 1) (V.alloc (.cells Y 48))):=fun V=>by rw [<-hY];exact bslC y.1 E _ _ _ V
 have d0:(prog.info? 48).map (·.size)=some (yc y).length:=by rw [j03 E];kernel_rfl
 have c9:(prog.info? 48).map (·.size)=some Y.size:=by rw [<-hY,af,j03 E];kernel_rfl
 have h:Hid (∀ X,Below (W.alloc (.cells Y 48)).heap.size (W.alloc (.cells Y 48)) X->Mem w X ((J,.cells Y 48)::bxS ps pl ver c u (some ⟨g,0,none⟩) false::L)/\X.rangeAt J 0 (yc y)/\X.cell? ⟨ps,31,none⟩=some (.pointer (some ⟨g,0,none⟩))/\X.cell? ⟨g,28,none⟩=some (.slice I o.length H)/\X.heap[g]?=some (.cells (cc d (.slice I o.length H)).toArray 39)/\Below W.heap.size W X):=by
  intro X l;have h1:=U.after l;have h2:=h1.at_ _ (ah _ (ah _ hg));refine ⟨h1,fun j x hj=>?_,bx31 h1.sub hl,?_,h2,a5.trans (l.mono a5.size)⟩
  ·rw [h1.cell 0 rfl,<-hY,List.getElem?_toArray,aH];exact hj
  ·rw [cell_of h2];exact j50 f _
 have hz0:((0:Int) != 0)=false:=rfl;rw [hY];obtain ⟨R,hR⟩:∃ R,ftsB d.ten y.1=R:=⟨_,rfl⟩;rw [hR] at G;have b8:Hid (ftsB d.ten y.1=R):=hR;clear hM U hg hz a2 a3 a5 hR a1 hv;go_enter func29,ntmps29;go_wp2_with fail;refine C1.mono ?_;rintro e _ ⟨rfl,rfl⟩;go_wp2_with fail;refine C2.mono ?_;rintro e _ ⟨rfl,rfl⟩;go_upto_region 4 with fail;refine j5 (fun V=>V=W.alloc (.cells Y 48)) rfl ?_;rintro V0 b4;rw [<-b4] at h
 try simp only [b1]
 have HS:Hid (∀ X,Below V0.heap.size V0 X->X.rangeAt J 0 (yc y)/\X.cell? ⟨ps,31,none⟩=some (.pointer (some ⟨g,0,none⟩))/\X.cell? ⟨g,28,none⟩=some (.slice I o.length H)):=fun X l=>⟨(h.out X l).2.1,(h.out X l).2.2.1,(h.out X l).2.2.2.1⟩;have c3:Hid (∀ X,Below V0.heap.size V0 X->Calls prog 54 #[.agg Y,.slice I o.length H] X fun e V=>e=.returned (.bool R)/\Below X.heap.size X V):=fun X l=>by rw [<-hY];exact G.out X (h.out X l).2.2.2.2.2
 clear b4 G C1 C2;refine wp_region_held_drew (S:=fun X=>X.rangeAt J 0 (yc y)/\X.cell? ⟨ps,31,none⟩=some (.pointer (some ⟨g,0,none⟩))/\X.cell? ⟨g,28,none⟩=some (.slice I o.length H)) (by kernel_rfl) (HS.out _ (aJ _ _).drew) (fun a6=>?_);refine tkq 0 rfl (v:=_) (yieldsIf_load_mid (by rfl) _ _ rfl _ _ rfl _ _ ?qs0 underlying48 rfl d0) ?_
 case qs0 =>
  intro w b
  (try dsimp only at b)
  go_split_ands
  assumption
 try simp only [sqx,ac]
 refine tkq 1 rfl (v:=?_) (aM ⟨by rfl,?qy1⟩) ?_
 case qy1=>intro w b;(try dsimp only at b);go_simp;all_goals with_reducible rfl
 try simp only [sqx,ac]
 refine tkq 2 rfl (v:=?_) (aM ⟨by rfl,?qy2⟩) ?_
 case qy2=>intro w b;(try dsimp only at b);go_simp;all_goals with_reducible rfl
 try simp only [sqx,ac]
 refine tkq 3 rfl (v:=?_) (aM ⟨by rfl,?qy3⟩) ?_
 case qy3=>intro w b;(try dsimp only at b);go_simp;all_goals with_reducible rfl
 try simp only [sqx,ac]
 refine tkq 4 rfl (v:=?_) (aM ⟨by rfl,?qy4⟩) ?_
 case qy4=>intro w b;(try dsimp only at b);go_simp;all_goals with_reducible rfl
 try simp only [sqx,ac]
 refine tkq 5 rfl (v:=?_) (aM ⟨by rfl,?qy5⟩) ?_
 case qy5=>intro w b;(try dsimp only at b);go_simp;all_goals with_reducible rfl
 try simp only [sqx,ac]
 refine tkq 6 rfl (v:=?_) (aM ⟨by rfl,?qy6⟩) ?_
 case qy6=>intro w b;(try dsimp only at b);go_simp;all_goals with_reducible rfl
 try simp only [sqx,ac]
 refine tkq 7 rfl (v:=?_) (aM ⟨by rfl,?qy7⟩) ?_
 case qy7=>intro w b;(try dsimp only at b);go_simp;all_goals with_reducible rfl
 try simp only [sqx,ac]
 refine wpAnyH_ready (rs:=[8]) (by kernel_rfl) (by simp) ?_;refine aO rfl (fun K hK=>?_) aP;go_simp
 with_reducible refine (c3.out _ (aJ _ _).drew).mono ?_
 rintro e V2 ⟨rfl,hb2⟩
 try go_wp2_with fail
 refine hK.out _ _ (HS.out _ (jo hb2)) (fun a6=>?_);clear hK K
 try simp only [sqx,ac]
 refine tkq 9 rfl (v:=?_) (aM ⟨by rfl,?qy9⟩) ?_
 case qy9=>intro w b;(try dsimp only at b);go_simp;all_goals with_reducible rfl
 try simp only [sqx,ac]
 refine wpAnyH_done (by kernel_rfl) ?_ _;have s:Below V0.heap.size V0 V2:=jo hb2;have a7:Hid (Below V0.heap.size V0 V2):=s;clear HS c3 hb2 s;cases R
 ·go_wp2_with fail;go_ret;exact aM ⟨b8.out,rfl,(h.out _ a7.out).2.2.2.2.2⟩
 ·obtain ⟨b7,-,c7,-,kg,kb⟩:=h.out _ a7.out;obtain ⟨A,hA⟩:∃ A,(cc d (.slice I o.length H)).toArray=A:=⟨_,rfl⟩;have a4:A.size=29:=by rw [<-hA,af];exact je f _
  have a0:A.all (·.oneCell')=true:=by rw [<-hA];exact zx d rfl
  have D:(prog.info? 39).map (·.size)=some A.size:=by rw [a4];kernel_rfl
  have z29:(cz:Array Value).size=A.size:=by rw [a4];rfl
  rw [hA] at kg;obtain ⟨q,F⟩:∃ g,V2.heap.size=g:=⟨_,rfl⟩;have b0:(V2.alloc (.cells cz 39)).heap[q]?=some (.cells cz 39):=by rw [<-F];exact heap_alloc_new _ _
  have c2:Hid (Mem w ((V2.alloc (.cells cz 39)).setRow q A) ((q,.cells A 39)::(J,.cells Y 48)::bxS ps pl ver c u (some ⟨g,0,none⟩) false::L)/\Below W.heap.size W ((V2.alloc (.cells cz 39)).setRow q A)):=by
   rw [<-F,World.setRow_alloc_new];exact ⟨b7.front _ rfl,kb.alloc kb.size _⟩
  clear h a7 b7 kb;go_upto_region 7 with (first|(refine wpList_load_row rfl 39 (.tmp 27) (by with_reducible rfl) g (by first|rfl|simp [ab]) 39 A (0,0) _ kg underlying39 rfl D ?_)|(refine wpList_store_row rfl 39 (.tmp 6) (.tmp 28) (by with_reducible rfl) q A (by simp [ab];try exact F) (by first|rfl|simp [ab]) 39 cz b0 D z29 a0 ?_)|fail)
  refine j5 (fun X=>Mem w X ((q,.cells A 39)::(J,.cells Y 48)::bxS ps pl ver c u (some ⟨g,0,none⟩) false::L)/\Below W.heap.size W X) (by exact c2.out) ?_;rintro V3 ⟨Q,s⟩
  try simp only [F]
  clear c2 b0 F c7 kg;have d6:V3.cell? ⟨q,28,none⟩=some (.slice I o.length H):=by rw [Q.cell 0 rfl,<-hA];exact j50 f _
  have k3:=Q.get 1 rfl;have b2:=c4.out V3;have b3:Below W.heap.size W (V3.alloc (.cells Y 48)):=s.alloc s.size _;have CA:=c5.out (V3.alloc (.cells Y 48)) V3.heap.size b3 (by rw [hY];exact heap_alloc_new _ _);have c0:Hid (Mem w (V3.alloc (.cells Y 48)) ((q,.cells A 39)::(J,.cells Y 48)::bxS ps pl ver c u (some ⟨g,0,none⟩) false::L)):=Q.after ((aJ _ _).alloc (aG _) _);clear Q s b3 c5 c4;go_wp2_with (first|(refine wpList_load_row rfl 48 (.tmp 3) (by with_reducible rfl) J (by first|rfl|simp [ab]) 48 Y (0,0) _ k3 underlying48 rfl c9 ?_)|(refine j20 rfl 109 1 #[(0,.tmp 31)] (by with_reducible rfl) b2 (by simp [ab,ac]) ?_)|fail)
  refine CA.mono ?_;rintro e V5 ⟨r,rfl,B,C,hT,b6⟩;have b5:=c0.out.more b6;have P:Mem w V5 ((q,.cells A 39)::bxS ps pl ver c u (some ⟨g,0,none⟩) false::(B++C++L)):=Mem.sub (p:=(J,.cells Y 48)) (b5.perm (by classical rw [aq];intro z;simp only [ar,au];omega));obtain ⟨N,rn,M,rfl⟩:∃ a n m,r=.slice a n m:=by
   obtain ⟨xs,-,k,-⟩:=hT;exact js k
  have d4:=P.free 0 rfl 28;have d5:V5.cell? ⟨q,28,none⟩=some (.slice I o.length H):=by rw [P.cell 0 rfl,<-hA];exact j50 f _
  have O:=P.set 0 rfl 28 (.slice N rn M);simp only [ag] at O;rw [<-hA,j3e f,show cc d (.slice N rn M)=cc { d with ten:=app d.ten [y.1] } (.slice N rn M) from rfl] at O;have b9:Hid (Mem w (V5.setCell ⟨q,28,none⟩ (.slice N rn M)) (bxC q { d with ten:=app d.ten [y.1] } (.slice N rn M)::bxS ps pl ver c u (some ⟨g,0,none⟩) false::(B++C++L))):=O;have HT:Hid (TsB (.slice N rn M) (app d.ten [y.1]) B C):=hT;clear hT b6 b5 P O c0 CA d6 k3 b2 hA a4 a0 D z29;go_upto_region 8 with fail;refine j5 (fun X=>Mem w X (bxC q { d with ten:=app d.ten [y.1] } (.slice N rn M)::bxS ps pl ver c u (some ⟨g,0,none⟩) false::(B++C++L))) (by exact b9.out) ?_;intro V6 hM;clear b9 d4 d5;have k0:=hM.get 0 rfl;obtain ⟨A2,Z⟩:∃ A2,(cc { d with ten:=app d.ten [y.1] } (.slice N rn M)).toArray=A2:=⟨_,rfl⟩;have d2:A2.size=29:=by rw [<-Z,af];exact je ⟨f.mac,f.omac,f.nmac,f.key⟩ _
  have D:(prog.info? 39).map (·.size)=some A2.size:=by rw [d2];kernel_rfl
  have C3:=j3p (cl:=A2) hM.sub (j8v hl) (ji0 hl);simp only [j0s hl] at C3;rw [Z] at k0;have d7:Hid ((cc { d with ten:=app d.ten [y.1] } (.slice N rn M)).toArray=A2):=Z;clear Z hM;go_wp2_with (refine wpList_load_row rfl 39 (.tmp 6) (by with_reducible rfl) q (by first|rfl|simp [ab]) 39 A2 (0,0) _ k0 underlying39 rfl D ?_)
  refine C3.mono ?_;rintro e W' ⟨g',rfl,hM⟩;go_wp2_with fail;go_ret;exact aN ⟨b8.out,rfl,g',_,B,C,HT.out,by rw [bxC,d7.out];exact hM⟩
end
section
variable {w W:World} {ps pl:Nat} {ver:Int} {c:Cgf} {u:Value} {sp:Option Addr} {dn:Bool} {L:List (Nat×Obj)}
theorem jrr:(cz:Array Value).all (·.oneCell')=true:=by kernel_rfl
theorem jew (d:Mem w W (bxS ps pl ver c u sp dn::L)) (r:CLen c) (s:bgn dn sp≠0) :
 Calls prog 32 #[.pointer (some ⟨ps,0,none⟩)] W fun e h=>e=.returned (.tuple #[.agg cz,.int .i64 (bgn dn sp)])/\Below W.heap.size W h:=by
 obtain ⟨g,l⟩:∃ g,W.heap.size=g:=⟨_,rfl⟩;have a:Mem W (W.alloc (.cells cz 39)) [(g,.cells cz 39)]:=(Mem.nil W).push1 l.symm;have m:Hid (Mem W (W.alloc (.cells cz 39)) [(g,.cells cz 39)]/\Calls prog 53 #[.pointer (some ⟨ps,0,none⟩)] (W.alloc (.cells cz 39)) fun e h=>e=.returned (.int .i64 (bgn dn sp))/\(W.alloc (.cells cz 39))=h):=⟨a,kx (bx31 (d.after a.below) r) (bx32 (d.after a.below) r)⟩;have y:(bgn dn sp != 0)=true:=by simp [s]
 have f:(prog.info? 39).map (·.size)=some (cz:Array Value).size:=by kernel_rfl
 generalize bgn dn sp=k at m y;clear s d a;go_enter func32,ntmps32;go_upto_region 1 with fail;refine j5 (fun X=>Mem W X [(g,.cells cz 39)]/\Calls prog 53 #[.pointer (some ⟨ps,0,none⟩)] X fun e h=>e=.returned (.int .i64 k)/\X=h) (by exact m.out) ?_;rintro j ⟨d,D⟩
 try simp only [l]
 clear m l;have C:=jk k j;rw [y] at C;have o:=d.get 0 rfl;have b:=d.wrote 0 rfl (j8 j g _ cz _ o);have A:Hid ((j.setRow g cz).heap[g]?=some (.cells cz 39)/\Below W.heap.size W (j.setRow g cz)):=⟨b.get 0 rfl,b.below⟩;clear d b;go_wp2_with fail;refine D.mono ?_;rintro e _ ⟨rfl,rfl⟩;go_wp2_with fail;refine C.mono ?_;rintro e _ ⟨rfl,rfl⟩;go_wp2_with (refine wpList_store_row rfl 39 (.tmp 2) (.tmp 10) (by with_reducible rfl) g cz (by first|rfl|simp [ab]) (by first|rfl|simp [ab]) 39 cz o f rfl jrr ?_)
 refine bodyPost_ret (v:=.tuple #[.agg cz,.int .i64 k]) ?_ rfl ⟨rfl,A.out.2⟩;exact jx (p:=2) (q:=3) (ty:=39) rfl _ _ g _ rfl (run_loadVar_row _ _ 39 39 _ (0,0) _ A.out.1 underlying39 rfl f)
theorem jev {f:Cgf} (G:Mem w W (bxS ps pl ver c u (some ⟨g1,0,none⟩) false::L)) (E:bxC g1 f u1∈L) (M:CLen c) (l:CLen f) {j:List Tv} (U:ZV W u1 j) (Y:∀ z∈j,TFew z.1) (hm:j.length<=1000) :
 Calls prog 32 #[.pointer (some ⟨ps,0,none⟩)] W fun e V=>∃ v,e=.returned (.tuple #[v,.int .i64 0])/\Cpd W f (j.map aa) v V:=by
 obtain ⟨g,N⟩:∃ g,W.heap.size=g:=⟨_,rfl⟩;have a:Mem W (W.alloc (.cells cz 39)) [(g,.cells cz 39)]:=(Mem.nil W).push1 N.symm;have b:=G.after a.below;obtain ⟨r,d⟩:∃ A,(cc f u1).toArray=A:=⟨_,rfl⟩;have K:r.size=29:=by rw [<-d,af];exact je l _
 have J:(prog.info? 39).map (·.size)=some r.size:=by rw [K];kernel_rfl
 have HL:Hid (Mem W (W.alloc (.cells cz 39)) [(g,.cells cz 39)]/\(Calls prog 53 #[.pointer (some ⟨ps,0,none⟩)] (W.alloc (.cells cz 39)) fun e Q=>e=.returned (.int .i64 0)/\(W.alloc (.cells cz 39))=Q)/\(W.alloc (.cells cz 39)).cell? ⟨ps,31,none⟩=some (.pointer (some ⟨g1,0,none⟩))/\(W.alloc (.cells cz 39)).heap[g1]?=some (.cells r 39) /\
  Calls prog 51 #[.agg r] (W.alloc (.cells cz 39)) fun e V=>∃ h,e=.returned (.agg (cc f h).toArray)/\∃ B C,TsB h (j.map aa) B C/\Mem (W.alloc (.cells cz 39)) V (B++C)):=by
  refine ⟨a,kx (bx31 b M) (bx32 b M),bx31 b M,?_,?_⟩
  ·rw [<-d];exact b.at_ _ (ah _ E)
  ·rw [<-d];exact jha l (U.at_ a.below) Y hm
 have hz0:((0:Int) != 0)=false:=rfl;clear G a b U Y E d;go_enter func32,ntmps32;go_upto_region 1 with fail;refine j5 (fun X=>Mem W X [(g,.cells cz 39)]/\(Calls prog 53 #[.pointer (some ⟨ps,0,none⟩)] X fun e Q=>e=.returned (.int .i64 0)/\X=Q)/\X.cell? ⟨ps,31,none⟩=some (.pointer (some ⟨g1,0,none⟩))/\X.heap[g1]?=some (.cells r 39) /\
  Calls prog 51 #[.agg r] X fun e V=>∃ h,e=.returned (.agg (cc f h).toArray)/\∃ B C,TsB h (j.map aa) B C/\Mem X V (B++C)) (by exact HL.out) ?_
 rintro Z ⟨a,C1,P,R,C⟩
 try simp only [N]
 clear HL N;have C2:=jk 0 Z;have I:Hid (Mem W Z [(g,.cells cz 39)]):=a;clear a;go_wp2_with fail;refine C1.mono ?_;rintro e _ ⟨rfl,rfl⟩;go_wp2_with fail;refine C2.mono ?_;rintro e _ ⟨rfl,rfl⟩;go_wp2_with (refine wpList_load_row rfl 39 (.tmp 16) (by with_reducible rfl) g1 (by first|rfl|simp [ab]) 39 r (0,0) _ R underlying39 rfl J ?_)
 refine C.mono ?_;rintro e V ⟨h,rfl,B,C',O,G⟩;have F:=I.out.more G;have o:Mem W V ((g,.cells cz 39)::(B++C')):=F.perm ae;have S:=o.get 0 rfl;obtain ⟨A,H⟩:∃ A,(cc f h).toArray=A:=⟨_,rfl⟩;have y:A.size=29:=by rw [<-H,af];exact je l _
 have D:A.all (·.oneCell')=true:=by rw [<-H];exact zx f (jei O)
 have s:(prog.info? 39).map (·.size)=some A.size:=by rw [y];kernel_rfl
 have z29:(cz:Array Value).size=A.size:=by rw [y];rfl
 have m:=o.wrote 0 rfl (j8 V g _ A _ S);have HQ:Hid ((V.setRow g A).heap[g]?=some (.cells A 39)/\Cpd W f (j.map aa) (.agg A) (V.setRow g A)):=⟨m.get 0 rfl,h,by rw [H],B,C',O,m.sub⟩;rw [H];clear G F o m I C O H P R C1 C2;go_wp2_with (refine wpList_store_row rfl 39 (.tmp 2) (.tmp 18) (by with_reducible rfl) g A (by first|rfl|simp [ab]) (by first|rfl|simp [ab]) 39 cz S s z29 D ?_)
 refine bodyPost_ret (v:=.tuple #[.agg A,.int .i64 0]) ?_ rfl ⟨_,rfl,HQ.out.2⟩;exact jx (p:=2) (q:=3) (ty:=39) rfl _ _ g _ rfl (run_loadVar_row _ _ 39 39 _ (0,0) _ HQ.out.1 underlying39 rfl s)
end
end
section
open Go.RowKit Va
theorem qx {P:Program} {f:Region.Mode} {e:Array Oper} {Q:Exit->Act->World->Prop} {S:World->Prop} {d:Nat} {b:Array Bool} {a:Act} (R:World->Prop) (h:R W) (k:∀ j,R j->wpAnyH P f e Q S d b a j):wpAnyH P f e Q S d b a W:=k W h
abbrev tz14:Array Value:=(tc ten0 nilV nilV nilV).toArray
structure PR (W X:World) (gc gi gt ga i:Nat) (c:Cgf) (t:Ten) (ta:Option Addr) (tp:Nat):Prop where
 vs:Vs X
 cb:CBo X gc c
 ci:X.cell? ⟨gi,0,none⟩=some (.int .i64 (i:Int))
 tb:TBo X gt t
 ca:X.cell? ⟨ga,0,none⟩=some (.slice ta i tp)
 ts:TSV X (.slice ta i tp) (c.ten.take i)
 below:Below W.heap.size W X
theorem PR.later {Y:World} {b a gt:Nat} {c:Cgf} {t:Ten} (h:PR W X b a gt ga i c t ta tp) (hb:Below X.heap.size X Y):PR W Y b a gt ga i c t ta tp :=
 ⟨h.vs.below hb,h.cb.later hb,cell_later hb h.ci,h.tb.later hb,cell_later hb h.ca,h.ts.at_ hb (aG _),h.below.trans (hb.mono h.below.size)⟩
theorem jpv {t:Ten} (h:X.heap[g]?=some (.cells x.toArray 46)) (m:TV X (.agg x.toArray) t):TBo X g t:=by
 obtain ⟨a,l,b,f,j,sc,d,e,hx⟩:=m.tb;obtain rfl:x=a:=by simpa using e
 exact ⟨x,l,b,f,j,sc,d,h,hx⟩
theorem jd4 {c:Cgf} (hv:Vs W) (h:CV W v c) (hl:c.ten.length<=1000000) (hm:∀ t∈c.ten,TSm t) (hi:i<c.ten.length) :
  Calls prog 84 #[v,.int .i64 (i:Int)] W (Rls W (Va.prs c.ip (c.ten.take i) (c.ten.getD i ten0))):=by
 obtain ⟨cl,ta,tp,rfl,hx⟩:=h.tb;have b4:=mkf;obtain ⟨a',c',e,b2,b3,hp⟩:=hx.ts.parts;simp only [aK.injEq] at e;obtain ⟨rfl,-,rfl⟩:=e;obtain ⟨b,a,x,rfl,Q,K,a7⟩:=hp i hi;have a0:(prog.info? 46).map (·.size)=some x.length:=by rw [Q];kernel_rfl
 obtain ⟨p,a6⟩:∃ g,W.heap.size=g:=⟨_,rfl⟩;obtain ⟨H,a5⟩:∃ g,p+1=g:=⟨_,rfl⟩;have b1:Hid (Mem W ((W.alloc (.cells cl.toArray 39)).alloc (.cells #[.int .i64 (i:Int)] 3)) [(H,.cells #[.int .i64 (i:Int)] 3),(p,.cells cl.toArray 39)]):=by
  rw [<-a5,<-a6];exact ql W _ _
 have HX:Hid (∀ V,Mem W V [(H,.cells #[.int .i64 (i:Int)] 3),(p,.cells cl.toArray 39)]->∀ X,Below V.heap.size V X->X.cell? ⟨p,28,none⟩=some (.slice (some ⟨b,a,none⟩) c.ten.length tp)/\X.cell? ⟨H,0,none⟩=some (.int .i64 (i:Int))/\X.rangeAt b (a+i*33) x):=by
  intro V hV X hX;have s:=hV.after hX;exact ⟨jb (s.get 1 rfl) hx.ten,s.cell 0 rfl 0,(a7 X s.below).1⟩
 have HP:Hid (∀ V,Mem W V [(H,.cells #[.int .i64 (i:Int)] 3),(p,.cells cl.toArray 39)]->∀ X gt ga,Mem V X [(ga,.cells #[.slice (some ⟨b,a,none⟩) i tp] 37),(gt,.cells x.toArray 46)]->PR W X p H gt ga i c (c.ten.getD i ten0) (some ⟨b,a,none⟩) tp):=by
  intro V hV X gt ga hX;have s:=hV.after hX.below;exact ⟨hv.below s.below,⟨cl,_,tp,s.get 1 rfl,hx.later s.below⟩,s.cell 0 rfl 0,jpv (hX.get 1 rfl) (a7 X s.below).2,hX.cell 0 rfl 0,(hx.ts.head i (by omega)).at_ s.below (aG _),s.below⟩
 have I:Hid ((c.ten.take i).length=i/\i<=1000000/\(∀ t∈c.ten.take i,TSm t)/\TSm (c.ten.getD i ten0)):=⟨by simp;omega,by omega,fun t ht=>hm t (av ht),hm _ (by simp [List.getD,List.getElem?_eq_getElem hi])⟩;have HE:Hid (Va.prs c.ip (c.ten.take i) (c.ten.getD i ten0)=[tchk (c.ten.getD i ten0),ul 90 ((c.ten.take i).length==0 || lss ((c.ten.take i).getD ((c.ten.take i).length-1) ten0).name (c.ten.getD i ten0).name),wn 91 ((c.ten.take i).any (fun o=>o.vni==(c.ten.getD i ten0).vni)),wn 92 (ow1 (c.ten.getD i ten0) (fun x=>x==c.ip || (c.ten.take i).any (fun o=>owns o x)))]):=rfl;have h1:(i:Int)<c.ten.length:=by omega
 have h2:(i:Int)<=tp:=by omega
 have h3:i<=tp:=by omega
 clear hv h hl hm hx hp a7;generalize Va.prs c.ip (c.ten.take i) (c.ten.getD i ten0)=ES at *;generalize c.ten.getD i ten0=t at *;generalize c.ten.length=N at *;generalize cl.toArray=A at *;go_enter func84,ntmps84;go_upto_region 1 with fail;refine j5 (fun X=>Mem W X [(H,.cells #[.int .i64 (i:Int)] 3),(p,.cells A 39)]) (by exact b1.out) ?_;intro V s
 try simp only [a6,a5]
 clear b1 a6 a5;have J:Hid (∀ X,Below V.heap.size V X->X.cell? ⟨p,28,none⟩=some (.slice (some ⟨b,a,none⟩) N tp)/\X.cell? ⟨H,0,none⟩=some (.int .i64 (i:Int))/\X.rangeAt b (a+i*33) x):=HX.out V s;have a9:Hid (∀ X gt ga,Mem V X [(ga,.cells #[.slice (some ⟨b,a,none⟩) i tp] 37),(gt,.cells x.toArray 46)]->PR W X p H gt ga i c t (some ⟨b,a,none⟩) tp):=HP.out V s;clear HX HP s
 go_cut [5,6] from 9 (fun u5 u6 w'=>∃ gt ga:Nat,u5=.pointer (some ⟨gt,0,none⟩)/\u6=.pointer (some ⟨ga,0,none⟩)/\Hid (Mem V w' [(ga,.cells #[.slice (some ⟨b,a,none⟩) i tp] 37),(gt,.cells x.toArray 46)]))
 case first =>
  clear a9 I HE;obtain ⟨l,a1⟩:∃ g,V.heap.size=g:=⟨_,rfl⟩;have HG:Hid (V.heap.size=l):=a1;clear a1;refine wp_region_held_drew (S:=fun X=>X.cell? ⟨p,28,none⟩=some (.slice (some ⟨b,a,none⟩) N tp)/\X.cell? ⟨H,0,none⟩=some (.int .i64 (i:Int))/\X.rangeAt b (a+i*33) x) (by kernel_rfl) (J.out _ (aJ _ _).drew) (fun f=>?_);refine tkq 0 rfl (v:=?_) (aM ⟨by rfl,?qy0⟩) ?_
  case qy0=>intro w d;(try dsimp only at d);go_simp;all_goals with_reducible rfl
  try simp only [sqx,ac]
  refine tkq 1 rfl (v:=?_) (aM ⟨by rfl,?qy1⟩) ?_
  case qy1=>intro w d;(try dsimp only at d);go_simp;all_goals with_reducible rfl
  try simp only [sqx,ac]
  refine tkq 2 rfl (v:=?_) (aM ⟨by rfl,?qy2⟩) ?_
  case qy2=>intro w d;(try dsimp only at d);go_simp;all_goals with_reducible rfl
  try simp only [sqx,ac]
  refine tkq 3 rfl (v:=?_) (aM ⟨by rfl,?qy3⟩) ?_
  case qy3=>intro w d;(try dsimp only at d);go_simp;all_goals with_reducible rfl
  try simp only [sqx,ac]
  refine tkq 4 rfl (v:=_) (yieldsIf_load_mid (by rfl) _ _ rfl _ _ rfl _ _ ?qs4 underlying46 rfl a0) ?_
  case qs4 =>
   intro w d
   (try dsimp only at d)
   go_split_ands
   assumption
  try simp only [sqx,ac]
  refine tkq 5 rfl (v:=?_) (aM ⟨by rfl,?qy5⟩) ?_
  case qy5=>intro w d;(try dsimp only at d);go_simp;all_goals with_reducible rfl
  try simp only [sqx,ac]
  refine tkq 6 rfl (v:=?_) (aM ⟨by rfl,?qy6⟩) ?_
  case qy6=>intro w d;(try dsimp only at d);go_simp;all_goals with_reducible rfl
  try simp only [sqx,ac]
  refine tkq 7 rfl (v:=?_) (aM ⟨by rfl,?qy7⟩) ?_
  case qy7=>intro w d;(try dsimp only at d);go_simp;all_goals with_reducible rfl
  try simp only [sqx,ac]
  refine tkq 8 rfl (v:=?_) (aM ⟨by rfl,?qy8⟩) ?_
  case qy8=>intro w d;(try dsimp only at d);go_simp;all_goals with_reducible rfl
  try simp only [sqx,ac]
  refine wpAnyH_ready (rs:=[9,10]) (by kernel_rfl) (by simp) ?_;refine aO rfl (fun F m=>?_) (aO rfl (fun F m=>?_) aP)
  ·go_simp;have E:Mem V (V.drew.alloc (.cells tz14 46)) [(l,.cells tz14 46)]:=(Mem.nil V).drew.front _ HG.out.symm;refine m.out _ _ (J.out _ E.below) (fun f=>?_);clear m F
   try simp only [sqx,ac]
   refine qx (fun X=>Mem V X [(l,.cells tz14 46)]) (by exact E) ?_;intro Y1 O
   try simp only [HG.out]
   clear E;obtain ⟨j,M⟩:∃ j,Y1.heap.size=j:=⟨_,rfl⟩;have G:Hid (Y1.heap.size=j):=M;clear M;have D:Mem V (Y1.alloc (.cells #[.slice none 0 0] 37)) [(j,.cells #[.slice none 0 0] 37),(l,.cells tz14 46)]:=O.front _ G.out.symm;refine wpAnyH_ready (rs:=[10]) (by kernel_rfl) (by simp) ?_;refine aO rfl (fun F m=>?_) aP;go_simp;refine m.out _ _ (J.out _ D.below) (fun f=>?_);clear m F
   try simp only [sqx,ac]
   refine qx (fun X=>Mem V X [(j,.cells #[.slice none 0 0] 37),(l,.cells tz14 46)]) (by exact D) ?_;intro Y2 r
   try simp only [G.out]
   clear D G O;have a2:=zz Y2 l tz14 x.toArray 46 (r.get 1 rfl) (by rw [show x.toArray.size=33 by rw [af];exact Q];rfl) K;have C:Mem V (Y2.setRow l x.toArray) [(j,.cells #[.slice none 0 0] 37),(l,.cells x.toArray 46)]:=r.wrote 1 rfl (j8 Y2 l tz14 _ _ (r.get 1 rfl));refine wpAnyH_ready (rs:=[11]) (by kernel_rfl) (by simp) ?_;refine aO rfl (fun F m=>?_) aP;go_simp;refine m.out _ _ (J.out _ C.below) (fun f=>?_);clear m F
   try simp only [sqx,ac]
   refine qx (fun X=>Mem V X [(j,.cells #[.slice none 0 0] 37),(l,.cells x.toArray 46)]) (by exact C) ?_;intro Y3 q;clear C a2 r;have y1:Y3.cell? ⟨j,0,none⟩=some (.slice none 0 0):=q.cell 0 rfl 0;have y2:Y3.frozen? ⟨j,0,none⟩=false:=q.free 0 rfl 0;have y:Mem V (Y3.setCell ⟨j,0,none⟩ (.slice (some ⟨b,a,none⟩) i tp)) [(j,.cells #[.slice (some ⟨b,a,none⟩) i tp] 37),(l,.cells x.toArray 46)]:=q.set 0 rfl 0 (.slice (some ⟨b,a,none⟩) i tp);refine wpAnyH_ready (rs:=[12]) (by kernel_rfl) (by simp) ?_;refine aO rfl (fun F m=>?_) aP;go_simp;refine m.out _ _ (J.out _ y.below) (fun f=>?_);clear m F
   try simp only [sqx,ac]
   refine wpAnyH_done (by kernel_rfl) ?_ _;have HF:Hid (Mem V (Y3.setCell ⟨j,0,none⟩ (.slice (some ⟨b,a,none⟩) i tp)) [(j,.cells #[.slice (some ⟨b,a,none⟩) i tp] 37),(l,.cells x.toArray 46)]):=y;clear y q y1 y2 J;go_wp2_with fail;go_meet
   case rel=>exact ⟨l,j,rfl,rfl,HF⟩
  ·go_simp;have E:Mem V (V.drew.alloc (.cells #[.slice none 0 0] 37)) [(l,.cells #[.slice none 0 0] 37)]:=(Mem.nil V).drew.front _ HG.out.symm;refine m.out _ _ (J.out _ E.below) (fun f=>?_);clear m F
   try simp only [sqx,ac]
   refine qx (fun X=>Mem V X [(l,.cells #[.slice none 0 0] 37)]) (by exact E) ?_;intro Y1 O
   try simp only [HG.out]
   clear E;obtain ⟨j,M⟩:∃ j,Y1.heap.size=j:=⟨_,rfl⟩;have G:Hid (Y1.heap.size=j):=M;clear M;have D:Mem V (Y1.alloc (.cells tz14 46)) [(j,.cells tz14 46),(l,.cells #[.slice none 0 0] 37)]:=O.front _ G.out.symm;refine wpAnyH_ready (rs:=[9]) (by kernel_rfl) (by simp) ?_;refine aO rfl (fun F m=>?_) aP;go_simp;refine m.out _ _ (J.out _ D.below) (fun f=>?_);clear m F
   try simp only [sqx,ac]
   refine qx (fun X=>Mem V X [(j,.cells tz14 46),(l,.cells #[.slice none 0 0] 37)]) (by exact D) ?_;intro Y2 r
   try simp only [G.out]
   clear D G O;have a2:=zz Y2 j tz14 x.toArray 46 (r.get 0 rfl) (by rw [show x.toArray.size=33 by rw [af];exact Q];rfl) K;have C:Mem V (Y2.setRow j x.toArray) [(j,.cells x.toArray 46),(l,.cells #[.slice none 0 0] 37)]:=r.wrote 0 rfl (j8 Y2 j tz14 _ _ (r.get 0 rfl));refine wpAnyH_ready (rs:=[11]) (by kernel_rfl) (by simp) ?_;refine aO rfl (fun F m=>?_) aP;go_simp;refine m.out _ _ (J.out _ C.below) (fun f=>?_);clear m F
   try simp only [sqx,ac]
   refine qx (fun X=>Mem V X [(j,.cells x.toArray 46),(l,.cells #[.slice none 0 0] 37)]) (by exact C) ?_;intro Y3 q;clear C a2 r;have y1:Y3.cell? ⟨l,0,none⟩=some (.slice none 0 0):=q.cell 1 rfl 0;have y2:Y3.frozen? ⟨l,0,none⟩=false:=q.free 1 rfl 0;have y:Mem V (Y3.setCell ⟨l,0,none⟩ (.slice (some ⟨b,a,none⟩) i tp)) [(j,.cells x.toArray 46),(l,.cells #[.slice (some ⟨b,a,none⟩) i tp] 37)]:=q.set 1 rfl 0 (.slice (some ⟨b,a,none⟩) i tp);refine wpAnyH_ready (rs:=[12]) (by kernel_rfl) (by simp) ?_;refine aO rfl (fun F m=>?_) aP;go_simp;refine m.out _ _ (J.out _ y.below) (fun f=>?_);clear m F
   try simp only [sqx,ac]
   refine wpAnyH_done (by kernel_rfl) ?_ _;have HF:Hid (Mem V (Y3.setCell ⟨l,0,none⟩ (.slice (some ⟨b,a,none⟩) i tp)) [(l,.cells #[.slice (some ⟨b,a,none⟩) i tp] 37),(j,.cells x.toArray 46)]):=y.perm (List.Perm.swap _ _ _);clear y q y1 y2 J;go_wp2_with fail;go_meet
   case rel=>exact ⟨j,l,rfl,rfl,HF⟩
 case rest =>
  obtain ⟨gt,ga,rfl,rfl,HM⟩:=hcut;have H0:Hid (PR W wc p H gt ga i c t (some ⟨b,a,none⟩) tp):=a9.out wc gt ga HM.out;clear a9 HM J a0 Q K b3 b2;obtain ⟨gs,a3⟩:∃ g,wc.heap.size=g:=⟨_,rfl⟩;have hA:Mem wc (wc.alloc (.cells #[.func (.func 109) #[] #[.pointer (some ⟨gt,0,none⟩)]] 83)) [(gs,.cells #[.func (.func 109) #[] #[.pointer (some ⟨gt,0,none⟩)]] 83)]:=(Mem.nil wc).push1 a3.symm;go_upto_region 3 with fail;refine j5 (fun X=>Mem wc X [(gs,.cells #[.func (.func 109) #[] #[.pointer (some ⟨gt,0,none⟩)]] 83)]) (by exact hA) ?_;intro V1 a8
  try simp only [a3]
  clear hA a3;have H1:Hid (PR W V1 p H gt ga i c t (some ⟨b,a,none⟩) tp/\V1.cell? ⟨gs,0,none⟩=some (.func (.func 109) #[] #[.pointer (some ⟨gt,0,none⟩)])):=⟨H0.out.later a8.below,a8.cell 0 rfl 0⟩;clear H0 a8;obtain ⟨gk,a4⟩:∃ g,V1.heap.size=g:=⟨_,rfl⟩;have hA:Mem V1 (V1.alloc (.cells #[.func (.func 110) #[] #[.pointer (some ⟨p,0,none⟩),.pointer (some ⟨ga,0,none⟩)]] 176)) [(gk,.cells #[.func (.func 110) #[] #[.pointer (some ⟨p,0,none⟩),.pointer (some ⟨ga,0,none⟩)]] 176)]:=(Mem.nil V1).push1 a4.symm;go_upto_region 4 with fail;refine j5 (fun X=>Mem V1 X [(gk,.cells #[.func (.func 110) #[] #[.pointer (some ⟨p,0,none⟩),.pointer (some ⟨ga,0,none⟩)]] 176)]) (by exact hA) ?_;intro V2 R
  try simp only [a4]
  clear hA a4;have P:Hid (PR W V2 p H gt ga i c t (some ⟨b,a,none⟩) tp/\V2.cell? ⟨gs,0,none⟩=some (.func (.func 109) #[] #[.pointer (some ⟨gt,0,none⟩)])/\V2.cell? ⟨gk,0,none⟩=some (.func (.func 110) #[] #[.pointer (some ⟨p,0,none⟩),.pointer (some ⟨ga,0,none⟩)])):=⟨H1.out.1.later R.below,cell_later R.below H1.out.2,R.cell 0 rfl 0⟩;clear H1 R;go_wp2_with fail;refine (jh (pq4 P.out.1.tb P.out.1.ci I.out.1 I.out.2.1 P.out.1.ca P.out.1.ts) 90).mono ?_;rintro _ X1 ⟨k1,Z,rfl,hr,hb⟩;have H3:Hid (PR W X1 p H gt ga i c t (some ⟨b,a,none⟩) tp/\X1.cell? ⟨gs,0,none⟩=some (.func (.func 109) #[] #[.pointer (some ⟨gt,0,none⟩)])/\X1.cell? ⟨gk,0,none⟩=some (.func (.func 110) #[] #[.pointer (some ⟨p,0,none⟩),.pointer (some ⟨ga,0,none⟩)])/\RlsL X1 _ _):=⟨P.out.1.later hb,cell_later hb P.out.2.1,cell_later hb P.out.2.2,.cons ((pr3 P.out.1.vs P.out.1.tb I.out.2.2.2).later hb) (.cons hr .nil)⟩;clear P hr hb;go_wp2_with fail;refine (j2u (pq5 (pp1 H3.out.1.tb) H3.out.2.1 H3.out.1.ca H3.out.1.ts (by rw [I.out.1];exact I.out.2.1) I.out.2.2.1) 91).mono ?_;rintro _ X2 ⟨k2,Y,rfl,hr,hb⟩;have H4:Hid (PR W X2 p H gt ga i c t (some ⟨b,a,none⟩) tp/\X2.cell? ⟨gk,0,none⟩=some (.func (.func 110) #[] #[.pointer (some ⟨p,0,none⟩),.pointer (some ⟨ga,0,none⟩)])/\RlsL X2 _ _):=⟨H3.out.1.later hb,cell_later hb H3.out.2.2.1,(H3.out.2.2.2.later hb).snoc hr⟩;clear H3 hr hb;go_wp2_with fail;refine (j2u (pq6 H4.out.1.tb I.out.2.2.2 (pp2 H4.out.1.cb H4.out.1.ca H4.out.1.ts (by rw [I.out.1];exact I.out.2.1) I.out.2.2.1) H4.out.2.1) 92).mono ?_;rintro _ X3 ⟨k3,U,rfl,hr,hb⟩;have H5:Hid (Below W.heap.size W X3/\RlsL X3 _ _):=⟨(H4.out.1.later hb).below,(H4.out.2.2.later hb).snoc hr⟩;clear H4 hr hb;obtain ⟨gl,b0⟩:∃ gl,X3.heap.size=gl:=⟨_,rfl⟩;have hF:=jff (cs:=#[.func (.func 114) #[] #[.pointer (some ⟨gt,0,none⟩)],.func (.func k1) #[] Z,.func (.func k2) #[] Y,.func (.func k3) #[] U]) H5.out.2 H5.out.1 b0 rfl;have HF:Hid ((∀ i,i<ES.length->∃ k c,(X3.alloc (.cells #[.func (.func 114) #[] #[.pointer (some ⟨gt,0,none⟩)],.func (.func k1) #[] Z,.func (.func k2) #[] Y,.func (.func k3) #[] U] 173)).cell? ⟨gl,i,none⟩=some (.func (.func k) #[] c)/\Rul (X3.alloc (.cells #[.func (.func 114) #[] #[.pointer (some ⟨gt,0,none⟩)],.func (.func k1) #[] Z,.func (.func k2) #[] Y,.func (.func k3) #[] U] 173)) k c (ES.getD i 0))/\Below W.heap.size W (X3.alloc (.cells #[.func (.func 114) #[] #[.pointer (some ⟨gt,0,none⟩)],.func (.func k1) #[] Z,.func (.func k2) #[] Y,.func (.func k3) #[] U] 173))/\ES.length=4):=by
   rw [HE.out];exact ⟨hF.1,hF.2,rfl⟩
  clear H5 HE hF I;go_wp2_with fail;go_ret;refine ⟨gl,?_,HF.out.1,HF.out.2.1⟩;rw [HF.out.2.2,<-b0];rfl
end
section
open Go.RowKit La
def TAt (g:Nat) (pre post:List Value) (T:TypeId) (t:Ten) (L:List (Nat×Obj)):Prop:=TLen t/\∃ p s q B1 B2 B3,OwB 33 1 p t.pool.length (ux t.pool).flatten B1/\OwB 122 2 s t.stat.length (px t.stat).flatten B2/\OwB 122 2 q t.twi.length (px t.twi).flatten B3 /\
 L=(g,.cells (pre++(tc t p s q++post)).toArray T (0,0))::(B1++(B2++B3))
theorem jmu {t t':Ten} (h:TAt g pre post T t L) (o:Nat) (j:o<33) (v:Value) (b:∀ p s q,(tc t p s q).set o v=tc t' p s q) (l:TLen t') (y:t'.pool=t.pool) (r:t'.stat=t.stat) (m:t'.twi=t.twi) :
  ∃ A R,L=(g,.cells A T (0,0))::R/\pre.length+o<A.size/\TAt g pre post T t' ((g,.cells (A.setIfInBounds (pre.length+o) v) T (0,0))::R):=by
 obtain ⟨a,p,s,q,E,D,C,f,e,d,rfl⟩:=h;refine ⟨_,_,rfl,?_,l,p,s,q,E,D,C,by rw [y];exact f,by rw [r];exact e,by rw [m];exact d,?_⟩
 ·rw [af,an,an,ji a];omega
 ·rw [set_mid _ _ _ o _ (by rw [ji a];exact j),b]
theorem j24 {t t':Ten} (h:TAt g pre post T t L) (o:Nat) (H:o<33) (v:Value) (e:∀ p s q n l a b c d f g x y j a1 b1 c1 Y S g1 a2 b2 Z U Q O E F hi P st m r D C bu,
  t=⟨n,l,[a,b,c,d,f,g,x,y],j,[a1,b1,c1,Y,S,g1],[a2,b2,Z,U,Q,O],E,F,hi,P,st,m,r,D,C,bu⟩->(tc t p s q).set o v=tc t' p s q) (I:t'.key=t.key) (G:t'.vmac=t.vmac) (J:t'.host=t.host) (N:t'.pool=t.pool) (M:t'.stat=t.stat) (K:t'.twi=t.twi) :
  ∃ A R,L=(g,.cells A T (0,0))::R/\pre.length+o<A.size/\TAt g pre post T t' ((g,.cells (A.setIfInBounds (pre.length+o) v) T (0,0))::R) :=
 jmu h o H v (fun p s q=>tset h.1 (e p s q)) ⟨by rw [I];exact h.1.key,by rw [G];exact h.1.vmac,by rw [J];exact h.1.host⟩ N M K
section
variable {g:Nat} {pre post:List Value} {T:TypeId} {t:Ten} {L:List (Nat×Obj)}
theorem jlg (h:TAt g pre post T t L) (x:Int):∃ A R,L=(g,.cells A T (0,0))::R/\pre.length+24<A.size/\TAt g pre post T { t with lo:=x } ((g,.cells (A.setIfInBounds (pre.length+24) (.int .u16 x)) T (0,0))::R) :=
 j24 h 24 (by omega) _ (by rintro p s q n vn a b c d f g x y vt a1 b1 c1 d1 f1 g1 a2 b2 c2 d2 f2 g2 po lo hi fi st tw se qu ra bu rfl;rfl) rfl rfl rfl rfl rfl rfl
theorem jlh (h:TAt g pre post T t L) (x:Int):∃ A R,L=(g,.cells A T (0,0))::R/\pre.length+25<A.size/\TAt g pre post T { t with hi:=x } ((g,.cells (A.setIfInBounds (pre.length+25) (.int .u16 x)) T (0,0))::R) :=
 j24 h 25 (by omega) _ (by rintro p s q n j a b c d f g x y e S P M J H g1 Q O K I G E C D hi F st l m r o N rfl;rfl) rfl rfl rfl rfl rfl rfl
theorem ji6 (h:TAt g pre post T t L) (x:Int):∃ A R,L=(g,.cells A T (0,0))::R/\pre.length+29<A.size/\TAt g pre post T { t with sess:=x } ((g,.cells (A.setIfInBounds (pre.length+29) (.int .i64 x)) T (0,0))::R) :=
 j24 h 29 (by omega) _ (by rintro p s q n j a b c d f g x y e S P M J H g1 Q O K I G E C D hi F st l m r o N rfl;rfl) rfl rfl rfl rfl rfl rfl
theorem jeq (h:TAt g pre post T t L) (x:Int):∃ A R,L=(g,.cells A T (0,0))::R/\pre.length+30<A.size/\TAt g pre post T { t with queue:=x } ((g,.cells (A.setIfInBounds (pre.length+30) (.int .i64 x)) T (0,0))::R) :=
 j24 h 30 (by omega) _ (by rintro p s q n j a b c d f g x y e S P M J H g1 Q O K I G E C D hi F st l m r o N rfl;rfl) rfl rfl rfl rfl rfl rfl
theorem ji7 (h:TAt g pre post T t L) (x:Int):∃ A R,L=(g,.cells A T (0,0))::R/\pre.length+31<A.size/\TAt g pre post T { t with rate:=x } ((g,.cells (A.setIfInBounds (pre.length+31) (.int .u32 x)) T (0,0))::R) :=
 j24 h 31 (by omega) _ (by rintro p s q n j a b c d f g x y e S P M J H g1 Q O K I G E C D hi F st l m r o N rfl;rfl) rfl rfl rfl rfl rfl rfl
theorem jer (h:TAt g pre post T t L) (x:Int):∃ A R,L=(g,.cells A T (0,0))::R/\pre.length+32<A.size/\TAt g pre post T { t with burst:=x } ((g,.cells (A.setIfInBounds (pre.length+32) (.int .u32 x)) T (0,0))::R) :=
 j24 h 32 (by omega) _ (by rintro p s q n j a b c d f g x y e S P M J H g1 Q O K I G E C D hi F st l m r o N rfl;rfl) rfl rfl rfl rfl rfl rfl
end
theorem mem_append {B K:List (Nat×Obj)} {t e ty:TypeId} {sz a:Nat} (r:prog.underlying t=some (.slice e)) (hi:(prog.info? e).map (fun i=>(i.zero,i.size,i.bytes))=some (some z,sz,a)) (m:z.cells.size=sz) (o:0<sz)
  (h:Mem w V (B++K)) (y:OwB e sz v n xs B) (ad:Addr) (news:List Value) (D:news.length=sz) (b:∀ j u,news[j]?=some u->V.cell? (ad.add j)=some u) (C:∀ u∈news,u.oneCell'=true) (A:n+1<=1000000) (hb:(n+1)*a<=140737488355328) :
  ∃ d f l,(aL #[t,t] ty #[v,.slice (some ad) 1 1]).run prog V=.ok d f/\Mem w f (l++K)/\OwB e sz d (n+1) (xs++news) l:=by
 obtain ⟨d,f,hr,s⟩:=yi (ty:=ty) r hi m o (y.ow h) ad 1 1 news (by omega) b C (by unfold maxLen;omega) hb;obtain ⟨l,q,p⟩:=s.owb;exact ⟨d,f,l,hr,p,q⟩
theorem ji8 {t:Ten} (h:TAt g pre post T t L) (w:World) (Q:List (Nat×Obj)) :
  (∃ A p B R,L.Perm (B++((g,.cells A T (0,0))::R))/\A[pre.length+23]?=some p/\OwB 33 1 p t.pool.length (ux t.pool).flatten B/\pre.length+23<A.size /\
   ∀ (x:Int) (a:Option Addr) (n c:Nat) (j:List (Nat×Obj)),OwB 33 1 (.slice a n c) (t.pool.length+1) ((ux t.pool).flatten++[.int .u32 x]) j->TAt g pre post T { t with pool:=t.pool++[x] } ((g,.cells (A.setIfInBounds (pre.length+23) (.slice a n c)) T (0,0))::(j++R))) /\
  (∃ A p B R,L.Perm (B++((g,.cells A T (0,0))::R))/\A[pre.length+27]?=some p/\OwB 122 2 p t.stat.length (px t.stat).flatten B/\pre.length+27<A.size /\
   ∀ (x y:Int) (a:Option Addr) (n c:Nat) (j:List (Nat×Obj)),OwB 122 2 (.slice a n c) (t.stat.length+1) ((px t.stat).flatten++[.int .u32 x,.int .u32 y]) j->∃ L',L'.Perm (j++((g,.cells (A.setIfInBounds (pre.length+27) (.slice a n c)) T (0,0))::R))/\TAt g pre post T { t with stat:=t.stat++[(x,y)] } L') /\
  (∃ A p B R,L.Perm (B++((g,.cells A T (0,0))::R))/\A[pre.length+28]?=some p/\OwB 122 2 p t.twi.length (px t.twi).flatten B/\pre.length+28<A.size /\
   ∀ (x y:Int) (a:Option Addr) (n c:Nat) (j:List (Nat×Obj)),OwB 122 2 (.slice a n c) (t.twi.length+1) ((px t.twi).flatten++[.int .u32 x,.int .u32 y]) j->∃ L',L'.Perm (j++((g,.cells (A.setIfInBounds (pre.length+28) (.slice a n c)) T (0,0))::R))/\TAt g pre post T { t with twi:=t.twi++[(x,y)] } L'):=by
 obtain ⟨e,p,s,q,m,C,l,k1,k2,k3,rfl⟩:=h;have r:∀ o,o<33->pre.length+o<(pre++(tc t p s q++post)).toArray.size:=by
  intro o ho;rw [af,an,an,ji e];omega
 have pc:∀ (B R S:List (Nat×Obj)) (o:Nat×Obj),(o::(S++(B++R))).Perm (B++(o::(S++R))):=by
  intro B R S o
  classical
  rw [aq];intro z;simp only [ar,au];omega
 refine ⟨⟨_,p,m,C++l,pc m (C++l) [] _,jy _ _ _ 23 _ (tget e (by rintro n E a b c d f g x y D a1 b1 c1 Z U g1 a2 b2 c2 Y P N J K hi O st F G I H bu rfl;rfl)),k1,r 23 (by omega),fun x a n c j M=>⟨⟨e.key,e.vmac,e.host⟩,.slice a n c,s,q,j,C,l,?_,k2,k3,?_⟩⟩,
  ⟨_,s,C,m++l,pc C l m _,jy _ _ _ 27 _ (tget e (by rintro n E a b c d f g x y D a1 b1 c1 Z U g1 a2 b2 c2 Y P N J K hi O st F G I H bu rfl;rfl)),k2,r 27 (by omega),fun x y a n c j M=>⟨_,?_,⟨e.key,e.vmac,e.host⟩,p,.slice a n c,q,m,j,l,k1,?_,k3,rfl⟩⟩,
  ⟨_,q,l,m++C,?_,jy _ _ _ 28 _ (tget e (by rintro n E a b c d f g x y D a1 b1 c1 Z U g1 a2 b2 c2 Y P N J K hi O st F G I H bu rfl;rfl)),k3,r 28 (by omega),fun x y a n c j M=>⟨_,?_,⟨e.key,e.vmac,e.host⟩,p,s,.slice a n c,m,C,j,k1,k2,?_,rfl⟩⟩⟩
 ·rw [jmb,an];exact M
 ·rw [set_mid _ _ _ 23 _ (by rw [ji e];omega)];rw [tset (t':={ t with pool:=t.pool++[x] }) (p':=.slice a n c) (s':=s) (q':=q) e (by rintro n E a b c d f g x y D a1 b1 c1 Z U g1 a2 b2 c2 Y P N J K hi O st F G I H bu rfl;rfl)]
 ·rw [set_mid _ _ _ 27 _ (by rw [ji e];omega)];rw [tset (t':={ t with stat:=t.stat++[(x,y)] }) (p':=p) (s':=.slice a n c) (q':=q) e (by rintro n E a b c d f g x y D a1 b1 c1 Z U g1 a2 b2 c2 Y P N J K hi O st F G I H bu rfl;rfl)];exact pc j l m _
 ·rw [jfj,an];exact M
 ·classical
  rw [aq];intro z;simp only [ar,au];omega
 ·rw [set_mid _ _ _ 28 _ (by rw [ji e];omega)];rw [tset (t':={ t with twi:=t.twi++[(x,y)] }) (p':=p) (s':=s) (q':=.slice a n c) e (by rintro n E a b c d f g x y D a1 b1 c1 Z U g1 a2 b2 c2 Y P N J K hi O st F G I H bu rfl;rfl)]
  classical
  rw [aq];intro z;simp only [ar,au];omega
 ·rw [jfj,an];exact M
end
section
open Go.RowKit Sm Cf Df
namespace Df
def Dl (w W:World) (v:Value) (zs:List Tv):Prop:=(v=.slice none 0 0/\zs=[]/\Mem w W []) \/
 ∃ g cap cur,v=.slice (some ⟨g,0,none⟩) zs.length cap/\Mem w W [(g,.cells cur 46)]/\zs.length<=cap/\cap<=maxLen/\cur.toList.take (zs.length*33)=(zs.map zc).flatten
theorem Dl.below {a:List Tv} (h:Dl w W v a):Below w.heap.size w W:=by
 rcases h with ⟨-,-,h⟩|⟨g,cap,cur,-,h,-⟩
 ·exact h.below
 ·exact h.below
theorem Dl.after {b:World} {a:List Tv} (h:Dl w W v a) (hb:Below W.heap.size W b):Dl w b v a:=by
 rcases h with ⟨h1,h2,h⟩|⟨g,cap,cur,h1,h,h2⟩
 ·exact aM ⟨h1,h2,h.after hb⟩
 ·exact aN ⟨g,cap,cur,h1,h.after hb,h2⟩
theorem Dl.nil (h:Below w.heap.size w W):Dl w W (.slice none 0 0) []:=aM ⟨rfl,rfl,h,by simp,by simp,by simp⟩
theorem Dl.slice {b:List Tv} (h:Dl w W v b):∃ a c,v=.slice a b.length c/\b.length<=c/\c<=9223372036854775807/\(a=none->c=0):=by
 rcases h with ⟨h1,h2,-⟩|⟨g,cap,cur,h1,-,h2,h3,-⟩
 ·subst h2;exact ⟨none,0,h1,aG _,by omega,fun _=>rfl⟩
 ·exact ⟨_,cap,h1,h2,by simpa [maxLen] using h3,nofun⟩
theorem zc33 {z:Tv} (h:TLen z.1):(zc z).length=33:=ji h _ _ _
theorem zs33 {a:List Tv} (h:∀ z∈a,TLen z.1):∀ x∈a.map zc,x.length=33:=by
 intro x hx;obtain ⟨z,b,rfl⟩:=aw.1 hx;exact zc33 (h z b)
theorem Dl.rw {a:List Tv} (h:Dl w W v a) (d:∀ z∈a,TLen z.1):Rw W 33 v (a.map zc):=by
 rcases h with ⟨rfl,rfl,-⟩|⟨g,cap,cur,rfl,hM,h1,h2,h3⟩
 ·exact ⟨none,0,rfl,aG _,by omega,fun _=>rfl,aM rfl⟩
 ·refine ⟨some ⟨g,0,none⟩,cap,by rw [ax],by rw [ax];exact h1,by simpa [maxLen] using h2,nofun,aN ⟨g,0,rfl,fun i hi j u e=>?_⟩⟩;have b:=j2h (a.map zc) i j u (zs33 d) e;rw [<-h3,ay] at b;rw [hM.cell 0 rfl,aH];split at b
  ·rw [<-aF];exact b
  ·cases b
theorem jh3 {b:List Tv} (hb:Below w.heap.size w W) (f:w.heap.size<=B) (d:W.ownsRow B 46 33 v n (b.map zc).flatten) (e:n=b.length):Dl w W v b:=by
 subst e;rcases d.2 with ⟨rfl,h0⟩|⟨g,cap,cur,rfl,hg,hbk,h1,h2,h3,h4⟩
 ·have:b=[]:=al h0;subst this;exact Dl.nil hb
 ·exact aN ⟨g,cap,cur,rfl,⟨hb,fun p a=>by rw [ap] at a;subst a;show w.heap.size<=g;omega,fun p a=>by rw [ap] at a;subst a;exact hbk,by simp⟩,h1,h2,h4⟩
theorem jj7 {z:Tv} {again:Bool} {a:List Tv} (A:k<=a.length) (s:∀ j (C:j<a.length),j<k->fk a[j]<fk z) (r:∀ h:k<a.length,¬fk a[k]<fk z) :
  ((∃ h:k<a.length,fk a[k]=fk z)->put fk z again a=if again then a.set k z else a)/\((∀ h:k<a.length,fk a[k]≠fk z)->put fk z again a=a.take k++z::a.drop k):=by
 obtain ⟨m,y,q,l⟩:=jlm (f:=fk) (t:=z) (again:=again) a;have o:m=k:=by
  rcases Nat.lt_trichotomy m k with h|h|h
  ·have p:=s m (by omega) h;rcases l with ⟨hm,d,-⟩|⟨d,-⟩
   ·exact absurd d (j6f p)
   ·exact absurd p (d (by omega)).1
  ·exact h
  ·exact absurd (q k (by omega) h) (r (by omega))
 subst o;constructor
 ·rintro ⟨h,d⟩;rcases l with ⟨-,-,e⟩|⟨b,-⟩
  ·exact e
  ·exact absurd d (b h).2
 ·intro b;rcases l with ⟨hm,d,-⟩|⟨-,e⟩
  ·exact absurd d (b hm)
  ·exact e
theorem jkc (a:List Tv) (d:∀ z∈a,TLen z.1) (k:Nat) (f:k<a.length) (z:Tv) (b:TLen z.1):((a.set k z).map zc).flatten=(a.map zc).flatten.take (k*33)++(zc z++(a.map zc).flatten.drop (k*33+33)):=by
 have e:a=a.take k++a[k]::a.drop (k+1):=by rw [List.getElem_cons_drop,List.take_append_drop]
 have j:((a.take k).map zc).flatten.length=k*33:=by
  rw [j4e fun z b=>d z (av b),az,aI (by omega)]
 have h:=zc33 (d _ (List.getElem_mem f));have m:(a.map zc).flatten=((a.take k).map zc).flatten++(zc a[k]++((a.drop (k+1)).map zc).flatten):=by
  conv=>lhs;rw [e]
  rw [aA,aB,aD,am]
 have l:a.set k z=a.take k++z::a.drop (k+1):=List.set_eq_take_append_cons_drop .. |>.trans (if_pos f);rw [l,aA,aB,aD,am,m];generalize ((a.take k).map zc).flatten=P at *;generalize zc a[k]=M at *;generalize ((a.drop (k+1)).map zc).flatten=R at *;have p:(P++(M++R)).drop (k*33+33)=R:=by
  rw [<-List.append_assoc];exact List.drop_left' (by rw [an];omega)
 have o:(P++(M++R)).take (k*33)=P:=List.take_left' j;rw [p,o]
theorem jn5 {v:Value} {d:List Tv} {z:Tv} {Z s2:Value} (hk:k<=d.length) (Y:∀ y∈d,TLen y.1) (ho:∀ y∈d,(zc y).toArray.all (·.oneCell')=true) (U:TLen z.1) (a2:(zc z).toArray.all (·.oneCell')=true) (hn:d.length<=1000)
  (hW:Below w.heap.size w W) (r1:Rw W 33 Z ((d.take k).map zc)) (c1:∃ a,Z=.slice a k k) (r2:Rw W 33 s2 ((d.drop k).map zc)) :
  ∃ S J I o,(aL #[37,37] 37 #[.slice (some ⟨W.heap.size,0,none⟩) 1 1,s2]).run prog (W.alloc (.cells (zc z).toArray 46))=.ok (.slice S J I) o/\Below W.heap.size W o /\
   ∃ H s,(aL #[37,37] 37 #[Z,.slice S J I]).run prog o=.ok H s/\Below W.heap.size W s/\Dl w s H (d.take k++z::d.drop k):=by
 have b3:Below W.heap.size W (W.alloc (.cells (zc z).toArray 46)):=(aJ _ _).alloc (aG _) _;have one:∀ y:Tv,(zc y).toArray.all (·.oneCell')=true->∀ u∈zc y,u.oneCell'=true:=fun y h u q=>by
  rw [Array.all_eq_true_iff_forall_mem] at h;exact h u (by simpa using q)
 have A:∀ ys:List Tv,(∀ y∈ys,y∈d)->∀ x∈ys.map zc,∀ u∈x,u.oneCell'=true:=by
  intro ys a3 x hx u q;obtain ⟨y,l,rfl⟩:=aw.1 hx;exact one y (ho y (a3 y l)) u q
 have hO:Ow W (W.alloc (.cells (zc z).toArray 46)) 46 33 (.slice (some ⟨W.heap.size,0,none⟩) 1 1) 1 (zc z) []:=by
  refine ⟨by rw [zc33 U],aN ⟨W.heap.size,1,(zc z).toArray,rfl,(Mem.nil W).push1 rfl,aG _,by unfold maxLen;omega,by rw [j1f U],?_⟩⟩;rw [List.take_of_length_le (by show (zc z).length<=_;rw [zc33 U];omega)]
 have hd:∀ y∈d.drop k,y∈d:=fun y l=>List.mem_of_mem_drop l;have ht:∀ y∈d.take k,y∈d:=fun y l=>av l;have r:(d.drop k).length=d.length-k:=List.length_drop;have a5:(d.take k).length=k:=by rw [az,aI hk]
 obtain ⟨v1,o,a6,f⟩:=j8s (ty:=37) underlying37 j87 (by kernel_rfl) (by decide) hO (r2.below j8u b3 (aG _)) (zs33 fun y l=>Y y (hd y l)) (A _ hd) (by rw [ax,r];unfold maxLen;omega) (by rw [ax,r];omega);rw [ax,r] at f;obtain ⟨B,hB,R⟩:=f.owb;obtain ⟨S,J,I,rfl⟩:=js hB;refine ⟨S,J,I,o,a6,f.mem.below,?_⟩;have m:Below w.heap.size w o:=hW.trans (f.mem.below.mono hW.size);have M:=r1.below j8u f.mem.below (aG _);obtain ⟨i,hi,b0,b1,b2⟩:=info_parts j87;have K:∃ ad,S=some ad/\J=1+(d.length-k)/\∀ j u,(zc z++((d.drop k).map zc).flatten)[j]?=some u->o.cell? (ad.add j)=some u:=by
  rcases hB.2 with ⟨h0,h1,-⟩|⟨g,cap,cur,e,e2,h1,h2,h3,h4⟩
  ·omega
  ·simp only [aK.injEq] at e;obtain ⟨rfl,rfl,-⟩:=e;refine ⟨⟨g,0,none⟩,rfl,rfl,fun j u C=>?_⟩;rw [e2] at R;rw [Addr.add_mid,R.cell 0 rfl,aH];rw [<-h4,ay] at C;split at C
   ·rw [<-aF];exact C
   ·cases C
 obtain ⟨ad,rfl,rfl,p⟩:=K;have Q:(zc z++((d.drop k).map zc).flatten).length=(1+(d.length-k))*33:=by
  rw [an,zc33 U,j4e fun y l=>Y y (hd y l),r];omega
 have D:((d.take k).map zc).flatten++(zc z++((d.drop k).map zc).flatten)=((d.take k++z::d.drop k).map zc).flatten:=by
  rw [aA,aB,aD,am]
 obtain ⟨a0,rfl⟩:=c1;cases a0 with
 | none =>
  have a9:k=0:=by
   obtain ⟨a',c',e,-,-,h3,-⟩:=r1;simp only [aK.injEq] at e;obtain ⟨rfl,-,e⟩:=e;have:=h3 rfl;omega
  subst a9;have a8:Ow o o 46 33 (.slice none 0 0) 0 [] []:=Ow.nil (Mem.nil o);obtain ⟨H,s,E,G⟩:=yi (ty:=37) underlying37 j87 (by kernel_rfl) (by decide) a8 ad (1+(d.length-0)) I _ Q p (by
   intro u q;rcases List.mem_append.1 q with q|q
   ·exact one z a2 u q
   ·obtain ⟨x,hx,a4⟩:=ao.1 q;exact A _ hd x hx u a4) (by unfold maxLen;omega) (by omega)
  refine ⟨H,s,E,f.mem.below.trans (G.mem.below.mono f.mem.below.size),?_⟩;have F:Below w.heap.size w s:=m.trans (G.mem.below.mono m.size);refine jh3 F m.size (n:=0+(1+(d.length-0))) ?_ (by simp;omega);rw [<-D];simpa using G.owns
 | some b =>
  have N:∀ j u,((d.take k).map zc).flatten[j]?=some u->o.cell? (b.add j)=some u:=j3v (by decide) M (zs33 fun y l=>Y y (ht y l)) rfl;obtain ⟨H,s,E,a7,O⟩:=run_append_arg_grows (P:=prog) (w:=o) 37 37 46 i _ 33 160 underlying37 hi b0 b1 b2 (by kernel_rfl) (by decide) b k k ((d.take k).map zc).flatten (by rw [j4e fun y l=>Y y (ht y l),a5]) N ad (1+(d.length-k)) I _ Q p (by omega) (by unfold maxLen;omega) (by omega);refine ⟨H,s,E,f.mem.below.grown O f.mem.below.size (fun j C=>by cases C),?_⟩;have F:Below w.heap.size w s:=m.grown O m.size (fun j C=>by cases C);refine jh3 F m.size (n:=k+(1+(d.length-k))) ?_ (by simp;omega);rw [<-D];exact a7
end Df
end
end Go.Proofs.YtdigofgjhaakmaaGreatDoor
