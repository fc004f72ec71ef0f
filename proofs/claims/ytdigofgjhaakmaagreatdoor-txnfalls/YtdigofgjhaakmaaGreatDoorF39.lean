/- Parts of the proof. -/
import Derived.Test.YtdigofgjhaakmaaGreatDoorF38
set_option linter.all false
set_option maxHeartbeats 40000000
set_option maxRecDepth 20000
open Go.Proofs.Tryz
open Go.Value renaming int->aa,pointer->ab
open Or renaming inl->ac,inr->ad
open List renaming mem_cons_of_mem->ae,mem_cons->af,not_mem_nil->ag,mem_append_left->ah,size_toArray->ai,getElem?_toArray->aj,cons_append->ak,append_assoc->al,perm_append_comm->am,set_cons_zero->an,set_cons_succ->ao
open Nat renaming le_refl->ap,zero_add->aq
open Go.Act renaming eval->ar,put->au
open Go.AllReadyH renaming cons->av,nil->aw
open List.Perm renaming cons->ax,swap->ay
namespace Go.Proofs.YtdigofgjhaakmaaGreatDoor
open Go.RowKit Sm Cf Df Va
theorem jn8:s0A=#[.int .u64 0,.int .u32 0,.int .u8 0,.int .u8 0,.int .u8 0,.int .u8 0,.int .u8 0,.int .u8 0,.int .u8 0,.int .u8 0,.int .u8 0,.int .u8 0,.int .u8 0,.int .u8 0,.int .u8 0,.int .u8 0,.int .u8 0,.int .u8 0,.int .u8 0,.int .u8 0,.int .u8 0,.int .u8 0,.int .u8 0,.int .u8 0,.int .u8 0,.int .u8 0,.int .u8 0,.int .u8 0,.int .u32 0,.slice none 0 0]:=by kernel_rfl
theorem jrj {c:Cgf} (e:CLen c) (u:Value) (x:Int):Array.foldl (fun cs (y:Value×Nat)=>cs.setIfInBounds (1+y.snd) y.fst) #[.int .u64 x,.int .u32 0,.int .u8 0,.int .u8 0,.int .u8 0,.int .u8 0,.int .u8 0,.int .u8 0,.int .u8 0,.int .u8 0,.int .u8 0,.int .u8 0,.int .u8 0,.int .u8 0,.int .u8 0,.int .u8 0,.int .u8 0,.int .u8 0,.int .u8 0,.int .u8 0,.int .u8 0,.int .u8 0,.int .u8 0,.int .u8 0,.int .u8 0,.int .u8 0,.int .u8 0,.int .u8 0,.int .u32 0,.slice none 0 0] (cc c u).toArray.zipIdx 0 29=(aa .u64 x::cc c u).toArray:=by
 obtain ⟨v,s,r,q,t,H,o⟩:=c;obtain ⟨l,k,j,i⟩:=e;obtain ⟨a,b,c,d,f,g,x,y,rfl⟩:=kt i;obtain ⟨V,S,P,K,G,C,rfl⟩:=six6 l;obtain ⟨U,R,O,J,F,A,rfl⟩:=six6 k;obtain ⟨T,Q,M,I,E,z,rfl⟩:=six6 j;kernel_rfl
section
variable {w W:World} {ps pl:Nat} {ver:Int} {c:Cgf} {u:Value} {sp:Option Addr} {dn:Bool} {L:List (Nat×Obj)}
theorem jhd (a:Mem w W (bxS ps pl ver c u sp dn::L)) (d:CLen c) (f:bgn dn sp≠0) :
 Calls prog 31 #[.pointer (some ⟨ps,0,none⟩)] W fun e j=>e=.returned (.tuple #[.int .u64 0,.int .i64 (bgn dn sp)])/\W=j:=by
 have i:=kx (bx31 a d) (bx32 a d);have b:=jk (bgn dn sp) W;have g:(bgn dn sp != 0)=true:=by simp [f]
 rw [g] at b;generalize bgn dn sp=k at i b;clear f g a;go_enter func31,ntmps31;go_wp2_with fail;refine i.mono ?_;rintro e _ ⟨rfl,rfl⟩;go_wp2_with fail;refine b.mono ?_;rintro e _ ⟨rfl,rfl⟩;go_wp2_with fail;go_ret2;exact ⟨rfl,rfl⟩
theorem jby {l:List Int} (h:∀ x∈l,x=0\/(90<=x/\x<=96)):fnz l=0\/(90<=fnz l/\fnz l<=96):=by
 induction l with
 | nil=>exact ac rfl
 | cons x r ih =>
  rw [j3a];by_cases h0:x=0
  ·rw [if_pos h0];exact ih fun y a=>h y (ae _ a)
  ·rw [if_neg h0];rcases h x (by simp) with e|e
   ·exact absurd e h0
   ·exact ad e
theorem jmj (e:Int) (h:90<=e/\e<=96) (b:Bool):ul e b=0\/(90<=ul e b/\ul e b<=96):=by cases b<;>simp [ul]<;>omega
theorem jmp (t:Ten):tchk t=0\/(90<=tchk t/\tchk t<=96):=by
 apply jby;intro x hx;simp only [Va.trs,af,ag,or_false] at hx;rcases hx with rfl|rfl|rfl|rfl|rfl|rfl|rfl|rfl|rfl|rfl|rfl|rfl|rfl|rfl|rfl|rfl|rfl<;>first|exact jmj _ (by decide) _|exact wn_in _ (by decide) _
theorem js0 (c:Cgf):chk c=0\/(90<=chk c/\chk c<=96):=by
 unfold chk;by_cases h0:fnz (grs c)=0
 ·rw [if_pos h0];unfold q9;apply jby;intro x hx;obtain ⟨i,-,rfl⟩:=List.mem_map.1 hx;apply jby;intro y a;simp only [Va.prs,af,ag,or_false] at a;rcases a with rfl|rfl|rfl|rfl<;>first|exact jmp _|exact jmj _ (by decide) _|exact wn_in _ (by decide) _
 ·rw [if_neg h0];apply jby;intro x hx;simp only [grs,af,ag,or_false] at hx;rcases hx with rfl|rfl|rfl<;>exact jmj _ (by decide) _
theorem jhx {c:Cgf} (h:Lig c):∀ t∈c.ten,TSm t:=fun t e=>by
 obtain ⟨a,b,c,d⟩:=(h.ten t e).2.2;exact ⟨by omega,by omega,by omega,by omega⟩
def CmQ (w W:World) (p h m N:Nat) (D:Dk) (B:Int) (all:List (List Int)) (ps pl:Nat) (ver:Int) (c:Cgf) (u:Value) (c1:Cgf) (u1:Value) (L:List (Nat×Obj)) (n er:Int) (W':World):Prop :=
 (n=0/\er≠0/\er≠42/\er=(if chk c1=0 then if room N m<(jt (ver+1) c1).length then 51 else 0 else chk c1)/\Below W.heap.size W W') \/
 (chk c1=0/\(jt (ver+1) c1).length<=room N m/\n=ver+1/\er=0/\∃ D',D'.dead=false/\(D.set=false->D'=D)/\Sy w W' p h m N D' pl (B+1) (all++[jt (ver+1) c1]) (bxS ps pl (ver+1) c1 u1 none false::L)) \/
 (chk c1=0/\(jt (ver+1) c1).length<=room N m/\n=0/\er=42/\D.set=true/\So w W' p h m N gone pl (bxS ps pl ver c u none true::L)/\(Sd w W' p h m N gone (B+1) all (bxS ps pl ver c u none true::L)\/Sd w W' p h m N gone (B+1) (all++[jt (ver+1) c1]) (bxS ps pl ver c u none true::L)))
theorem Lig.tlen {c:Cgf} (h:Lig c):∀ t∈c.ten,TLen t:=fun t a=>(h.ten t a).1.len
section
variable {p h m N:Nat} {D:Dk} {B:Int} {all:List (List Int)}
theorem So.mem (H:So w W p h m N D pl L):Mem w W L:=by
 obtain ⟨R,a,-⟩:=H.frame;exact ⟨a.below,fun x hx=>a.low x (ah _ hx),fun x hx=>a.at_ x (ah _ hx),(List.nodup_append.mp (by rw [<-List.map_append];exact a.apart)).1⟩
theorem mem0 {V:World} (h:Below W.heap.size W V):Mem W V []:=⟨h,by simp,by simp,by simp⟩
theorem jdw (hv:Vs W) {ga:Addr} (hG:Gl w ga) {g:Nat} {f:Cgf} {u1:Value} (H:Sy w W p h m N D pl B all (bxS ps pl ver c u (some ⟨g,0,none⟩) false::L)) (hg:bxC g f u1∈L) (hl:CLen c) (z:Lig f) (hT:TSV W u1 f.ten) (a7:f.ten.length<=900)
 (hd:D.dead=false) (hn:4<=N) (hm:256<=m) (hB:B<=800000) (f4:0<=B) (f0:all.length<=800000) (g2:0<=ver) (g1:ver<900000) :
 Calls prog 31 #[.pointer (some ⟨ps,0,none⟩)] W fun e W'=>∃ n er,e=.returned (.tuple #[.int .u64 n,.int .i64 er])/\CmQ w W p h m N D B all ps pl ver c u f u1 L n er W':=by
 have a9:=H.mem;have s:=z.cin.len;have U:CV W (.agg (cc f u1).toArray) f:=⟨s,u1,rfl,hT⟩;have C1:=kx (bx31 a9 hl) (bx32 a9 hl);have C2:=jk 0 W;have CK:=jhe hv U (by omega) (jhx z);have hz0:((0:Int) != 0)=false:=rfl;have h3:=bx31 a9 hl;have kg:W.heap[g]?=some (.cells (cc f u1).toArray 39):=a9.at_ _ (ae _ hg);obtain ⟨b6,Q⟩:∃ A,(cc f u1).toArray=A:=⟨_,rfl⟩;have b9:b6.size=29:=by rw [<-Q,ai];exact je s _
 have e4:(prog.info? 39).map (·.size)=some b6.size:=by rw [b9];kernel_rfl
 have g0:(prog.info? 39).map (·.size)=some (cc f u1).length:=by rw [je s];kernel_rfl
 have HH:Hid (∀ V,Below W.heap.size W V->Sy w V p h m N D pl B all (bxS ps pl ver c u (some ⟨g,0,none⟩) false::L)/\CV V (.agg (cc f u1).toArray) f):=fun V hV=>⟨H.join (mem0 hV),U.at_ hV (ap _)⟩;have HN:Hid (Vs W/\Gl w ga/\CLen c/\Lig f/\bxC g f u1∈L/\f.ten.length<=900/\D.dead=false/\4<=N/\256<=m/\B<=800000/\0<=B/\all.length<=800000/\0<=ver/\ver<900000/\u1.oneCell'=true):=⟨hv,hG,hl,z,hg,a7,hd,hn,hm,hB,f4,f0,g2,g1,hT.one⟩;have c2:chk f≠42:=by rcases js0 f with h|h<;>omega
 obtain ⟨kk,T⟩:∃ k,chk f=k:=⟨_,rfl⟩;rw [T] at CK;rw [Q] at kg CK;clear H a9 U hg z hT a7 hd hn hm hB f0 hG hv;go_enter func31,ntmps31;go_wp2_with fail;refine C1.mono ?_;rintro e _ ⟨rfl,rfl⟩;go_wp2_with fail;refine C2.mono ?_;rintro e _ ⟨rfl,rfl⟩;go_wp2_with (refine wpList_load_row rfl 39 (.tmp 18) (by with_reducible rfl) g (by first|rfl|simp [ar]) 39 b6 (0,0) _ kg underlying39 rfl e4 ?_)
 refine CK.mono ?_;rintro e o ⟨rfl,e9⟩;have C3:=jk kk o;have b0:Hid (Below W.heap.size W o):=e9;clear CK C1 C2 h3 kg e9;by_cases h0:kk=0
 ·subst h0;go_wp2_with fail;refine C3.mono ?_;rintro e _ ⟨rfl,rfl⟩;clear C3;obtain ⟨y,b8⟩:=HH.out o b0.out;have f3:=y.mem;obtain ⟨r,hr⟩:∃ r,jt (ver+1) f=r:=⟨_,rfl⟩;have e1:IntKind.u64.wrap (ver+1)=ver+1:=by rw [qj];have:=HN.out;omega
  have e2:(ver+1) % 18446744073709551616=ver+1:=by have:=HN.out;omega
  obtain ⟨b,q⟩:∃ A,(aa .u64 (ver+1)::cc f u1).toArray=A:=⟨_,rfl⟩;have g7:∀ V,(Instr.build stS #[(0,.int .u64 (ver+1)),(1,.agg b6)]).run prog V=.ok (.agg b) V:=fun V=>by rw [<-Q,<-q];exact jp8 s u1 _ V
  have J:=jrj s u1 (ver+1);rw [Q,q] at J;have a6:b.size=30:=by rw [<-q];simp [je s]
  have d9:b.all (·.oneCell')=true:=by rw [<-q];exact j53 _ HN.out.2.2.2.2.2.2.2.2.2.2.2.2.2.2
  have f9:(prog.info? stS).map (·.size)=some (aa .u64 (ver+1)::cc f u1).length:=by simp only [List.length_cons,je s];kernel_rfl
  have e3:(prog.info? stS).map (·.size)=some b.size:=by rw [a6];kernel_rfl
  have HS:Hid (∀ X,Below o.heap.size o X->X.cell? ⟨ps,1,none⟩=some (.int .u64 ver)/\X.cell? ⟨ps,31,none⟩=some (.pointer (some ⟨g,0,none⟩))/\X.rangeAt g 0 (cc f u1)):=by
   intro X O;have G:=f3.after O;refine ⟨bx1 G,bx31 G HN.out.2.2.1,fun j x hj=>?_⟩;rw [cell_of (G.at_ _ (ae _ HN.out.2.2.2.2.1)),aj,aq];exact hj
  obtain ⟨i,b1⟩:∃ g,o.heap.size=g:=⟨_,rfl⟩;have c0:((o.alloc (.cells s0A stS)).drew).heap[i]?=some (.cells s0A stS (0,0)):=by rw [<-b1];exact heap_alloc_new o _
  have e6:=zz ((o.alloc (.cells s0A stS)).drew) i s0A b stS c0 (by rw [a6];rfl) d9;have c4:Below o.heap.size o ((o.alloc (.cells s0A stS)).drew):=((Below.refl o.heap.size o).alloc (ap _) _).drew;have b2:Below o.heap.size o (((o.alloc (.cells s0A stS)).drew).setRow i b):=below_setRow c4 (by omega) _;have f2:Mem o (((o.alloc (.cells s0A stS)).drew).setRow i b) [(i,.cells b stS (0,0))]:=by
   have C:Mem o ((o.alloc (.cells s0A stS)).drew) [(i,.cells s0A stS (0,0))]:=((Mem.nil o).push1 b1.symm).drew;exact C.wrote 0 rfl (j8 _ i _ b _ c0)
  have d8:Hid (Sy w (((o.alloc (.cells s0A stS)).drew).setRow i b) p h m N D pl B all ((i,.cells b stS (0,0))::bxS ps pl ver c u (some ⟨g,0,none⟩) false::L)/\CV (((o.alloc (.cells s0A stS)).drew).setRow i b) (.agg (cc f u1).toArray) f/\Below W.heap.size W (((o.alloc (.cells s0A stS)).drew).setRow i b)) :=
   ⟨y.push f2,b8.at_ b2 (ap _),b0.out.trans (b2.mono b0.out.size)⟩
  have b5:Hid (Below o.heap.size o ((o.alloc (.cells s0A stS)).drew)/\Below o.heap.size o (((o.alloc (.cells s0A stS)).drew).setRow i b)):=⟨c4,b2⟩;rw [jn8] at e6 b5 d8
  skip
  clear y b8 f3 c0 c4 b2 f2 HH;go_upto_region 7 with fail;refine wp_region_held_drew (S:=fun X=>X.cell? ⟨ps,1,none⟩=some (.int .u64 ver)/\X.cell? ⟨ps,31,none⟩=some (.pointer (some ⟨g,0,none⟩))/\X.rangeAt g 0 (cc f u1)) (by kernel_rfl) (HS.out _ (Below.refl _ _).drew) (fun l=>?_);refine tkq 0 rfl (v:=?_) (ac ⟨by rfl,?qy0⟩) ?_
  case qy0=>intro w d;(try dsimp only at d);go_simp;all_goals with_reducible rfl
  try simp only [sqx,au]
  refine tkq 1 rfl (v:=?_) (ac ⟨by rfl,?qy1⟩) ?_
  case qy1=>intro w d;(try dsimp only at d);go_simp;all_goals with_reducible rfl
  try simp only [sqx,au]
  refine tkq 2 rfl (v:=?_) (ac ⟨by rfl,?qy2⟩) ?_
  case qy2=>intro w d;(try dsimp only at d);go_simp;all_goals with_reducible rfl
  try simp only [sqx,au]
  refine tkq 3 rfl (v:=?_) (ac ⟨by rfl,?qy3⟩) ?_
  case qy3=>intro w d;(try dsimp only at d);go_simp;all_goals with_reducible rfl
  try simp only [sqx,au]
  refine tkq 4 rfl (v:=?_) (ac ⟨by rfl,?qy4⟩) ?_
  case qy4=>intro w d;(try dsimp only at d);go_simp;all_goals with_reducible rfl
  try simp only [sqx,au]
  refine tkq 5 rfl (v:=?_) (ac ⟨by rfl,?qy5⟩) ?_
  case qy5=>intro w d;(try dsimp only at d);go_simp;all_goals with_reducible rfl
  try simp only [sqx,au]
  refine tkq 6 rfl (v:=?_) (ac ⟨by rfl,?qy6⟩) ?_
  case qy6=>intro w d;(try dsimp only at d);go_simp;all_goals with_reducible rfl
  try simp only [sqx,au]
  refine tkq 7 rfl (v:=?_) (ac ⟨by rfl,?qy7⟩) ?_
  case qy7=>intro w d;(try dsimp only at d);go_simp;all_goals with_reducible rfl
  try simp only [sqx,au]
  refine tkq 8 rfl (v:=?_) (ac ⟨by rfl,?qy8⟩) ?_
  case qy8=>intro w d;(try dsimp only at d);go_simp;all_goals with_reducible rfl
  try simp only [sqx,au]
  refine tkq 9 rfl (v:=?_) (ac ⟨by rfl,?qy9⟩) ?_
  case qy9=>intro w d;(try dsimp only at d);go_simp;all_goals with_reducible rfl
  try simp only [sqx,au]
  refine tkq 10 rfl (v:=?_) (ac ⟨by rfl,?qy10⟩) ?_
  case qy10=>intro w d;(try dsimp only at d);go_simp;all_goals with_reducible rfl
  try simp only [sqx,au]
  refine tkq 11 rfl (v:=_) (yieldsIf_load_mid (by rfl) _ _ rfl _ _ rfl _ _ ?qs11 underlying39 rfl g0) ?_
  case qs11 =>
   intro w d
   (try dsimp only at d)
   go_split_ands
   assumption
  try simp only [sqx,au]
  refine tkq 12 rfl (v:=.agg b) (ac ⟨by rfl,?qy12⟩) ?_
  case qy12 =>
   intro w d
   (try dsimp only at d)
   go_simp
   all_goals first|with_reducible rfl|exact J
  try simp only [sqx,au]
  refine wpAnyH_ready (rs:=[13]) (by kernel_rfl) (by simp) ?_;refine av rfl (fun K hK=>?_) aw;go_simp;refine hK.out _ _ (HS.out _ b5.out.1) (fun l=>?_);clear hK K
  try simp only [sqx,au]
  refine wpAnyH_ready (rs:=[14]) (by kernel_rfl) (by simp) ?_;refine av rfl (fun K hK=>?_) aw;go_simp;refine hK.out _ _ (HS.out _ b5.out.2) (fun l=>?_);clear hK K
  try simp only [sqx,au]
  refine wpAnyH_done (by kernel_rfl) ?_ _;go_upto_region 8 with fail;refine j5 (fun X=>Sy w X p h m N D pl B all ((i,.cells b stS (0,0))::bxS ps pl ver c u (some ⟨g,0,none⟩) false::L)/\CV X (.agg (cc f u1).toArray) f/\Below W.heap.size W X) (by exact d8.out) ?_;rintro V2 ⟨y,U,hb2⟩
  try simp only [b1]
  clear d8 b5 HS e6 b1 J g7 b0;have d2:=y.mem;have d7:Hid (∀ X,Below V2.heap.size V2 X->X.cell? ⟨ps,0,none⟩=some (.pointer (some ⟨pl,0,none⟩))/\X.rangeAt i 0 (aa .u64 (ver+1)::cc f u1)):=by
   intro X O;have G:=d2.after O;refine ⟨bx0 G.sub,fun j x hj=>?_⟩;rw [G.cell 0 rfl,<-q,aj,aq];exact hj
  obtain ⟨i0,g9,-,z,i4,a7,g5,g3,g4,i6,-,h9,-,-,i1⟩:=HN.out;have f6:Hid (∀ X,Below V2.heap.size V2 X->Calls prog 61 #[.agg b] X fun e w'=>∃ v,e=.returned v/\Out X w' v r []):=by
   intro X O;rw [<-q,<-hr];exact jcx (U.at_ O (ap _)) z.cin (fun t ht=>(z.ten t ht).1) (by omega) (by have:=j4k f s z.tlen;omega)
  have i2:r.length=8+(cenc f).length:=by rw [<-hr];exact j9o _ _
  have i5:=j4k f s z.tlen;have f8:Hid (∀ X v,Out V2.drew X v r []->Calls prog 60 #[.pointer (some ⟨pl,0,none⟩),v] X fun e I=>∃ a0,e=.returned (.int .i64 a0)/\(I.cell? ⟨ps,0,none⟩=some (.pointer (some ⟨pl,0,none⟩))/\I.rangeAt i 0 (aa .u64 (ver+1)::cc f u1)) /\
   ((a0=51/\room N m<r.length/\Below W.heap.size W I)\/(a0=0/\r.length<=room N m/\∃ D',D'.dead=false/\(D.set=false->D'=D)/\Sy w I p h m N D' pl (B+1) (all++[r]) ((i,.cells b stS (0,0))::bxS ps pl ver c u (some ⟨g,0,none⟩) false::L)) \/
    (a0=42/\r.length<=room N m/\D.set=true/\So w I p h m N gone pl ((i,.cells b stS (0,0))::bxS ps pl ver c u (some ⟨g,0,none⟩) false::L)/\(Sd w I p h m N gone (B+1) all ((i,.cells b stS (0,0))::bxS ps pl ver c u (some ⟨g,0,none⟩) false::L)\/Sd w I p h m N gone (B+1) (all++[r]) ((i,.cells b stS (0,0))::bxS ps pl ver c u (some ⟨g,0,none⟩) false::L))))):=by
   intro X v hO;have c7:∀ I,Mem w I ((i,.cells b stS (0,0))::bxS ps pl ver c u (some ⟨g,0,none⟩) false::L)->I.cell? ⟨ps,0,none⟩=some (.pointer (some ⟨pl,0,none⟩))/\I.rangeAt i 0 (aa .u64 (ver+1)::cc f u1):=by
    intro I G;refine ⟨bx0 G.sub,fun j x hj=>?_⟩;rw [G.cell 0 rfl,<-q,aj,aq];exact hj
   have e8:Below V2.heap.size V2 X:=jo hO.mem.below;obtain ⟨e7,i3,c3⟩:=hO;rcases c3 with ⟨rfl,e0,-⟩|⟨gr,cap,cur,rfl,hMr,hnc,hcm,hcs,htake⟩
   ·omega
   ·have f1:Mem V2 X [(gr,.cells cur 5)]:=⟨e8,hMr.low,hMr.at_,hMr.apart⟩;have c5:=y.push f1;by_cases hroom:r.length<=room N m
    ·have hk:cur.toList.take r.length=r.map (aa .u8):=by rw [Nat.mul_one] at htake;exact htake
     refine (jmw c5 g9 g5 g3 g4 (by omega) f4 (by omega) rfl hnc hroom (je0 (cap:=cap) (by simp) hk e7 (by omega)) e7).mono ?_;rintro e I ⟨a0,rfl,D',hc⟩;rcases hc with ⟨rfl,a1,a2,a3⟩|⟨rfl,rfl,a2,a3,a4⟩
     ·have a4:Sy w I p h m N D' pl (B+1) (all++[r]) ((i,.cells b stS (0,0))::bxS ps pl ver c u (some ⟨g,0,none⟩) false::L):=a3.sub (Y:=[(gr,.cells cur 5)]);exact ⟨0,rfl,c7 _ a4.mem,ad (ac ⟨rfl,hroom,D',a1,a2,a4⟩)⟩
     ·have a5:So w I p h m N gone pl ((i,.cells b stS (0,0))::bxS ps pl ver c u (some ⟨g,0,none⟩) false::L):=by
       obtain ⟨R,G,hb⟩:=a3.frame;obtain ⟨hc,ks,t,c',v',K,C,h2⟩:=a3.at_;refine ⟨hc,ks,t,c',v',K++[(gr,.cells cur 5)],C.on (C.st.perm ?_),h2⟩;refine ax _ ?_;rw [ak,List.nil_append,<-al];exact (am (l₁:=[(gr,Obj.cells cur 5)]))
      refine ⟨42,rfl,c7 _ a5.mem,ad (ad ⟨rfl,hroom,a2,a5,?_⟩)⟩;rcases a4 with a|a
      ·exact ac (a.sub (Y:=[(gr,.cells cur 5)]))
      ·exact ad (a.sub (Y:=[(gr,.cells cur 5)]))
    ·refine (jq0 c5 _ _ _ (by omega)).mono ?_;rintro e I ⟨rfl,rfl⟩;exact ⟨51,rfl,c7 _ (c5.sub (Y:=[(gr,.cells cur 5)])).mem,ac ⟨rfl,by omega,hb2.trans (e8.mono hb2.size)⟩⟩
  clear y U hb2 d2;refine wp_region_held_drew (S:=fun X=>X.cell? ⟨ps,0,none⟩=some (.pointer (some ⟨pl,0,none⟩))/\X.rangeAt i 0 (aa .u64 (ver+1)::cc f u1)) (by kernel_rfl) (d7.out _ (Below.refl _ _).drew) (fun l=>?_);refine tkq 0 rfl (v:=?_) (ac ⟨by rfl,?ry0⟩) ?_
  case ry0=>intro w d;(try dsimp only at d);go_simp;all_goals with_reducible rfl
  try simp only [sqx,au]
  refine tkq 1 rfl (v:=?_) (ac ⟨by rfl,?ry1⟩) ?_
  case ry1=>intro w d;(try dsimp only at d);go_simp;all_goals with_reducible rfl
  try simp only [sqx,au]
  refine tkq 2 rfl (v:=?_) (ac ⟨by rfl,?ry2⟩) ?_
  case ry2=>intro w d;(try dsimp only at d);go_simp;all_goals with_reducible rfl
  try simp only [sqx,au]
  refine tkq 3 rfl (v:=?_) (ac ⟨by rfl,?ry3⟩) ?_
  case ry3=>intro w d;(try dsimp only at d);go_simp;all_goals with_reducible rfl
  try simp only [sqx,au]
  refine tkq 4 rfl (v:=_) (yieldsIf_load_mid (by rfl) _ _ rfl _ _ rfl _ _ ?rs4 underlying96 rfl f9) ?_
  case rs4 =>
   intro w d
   (try dsimp only at d)
   go_split_ands
   assumption
  try simp only [sqx,au]
  refine wpAnyH_ready (rs:=[5]) (by kernel_rfl) (by simp) ?_;refine av rfl (fun K hK=>?_) aw;go_simp
  with_reducible refine (f6.out _ (Below.refl _ _).drew).mono ?_
  rintro e V3 ⟨v3,rfl,a8⟩
  try go_wp2_with fail
  refine hK.out _ _ (d7.out _ (jo a8.mem.below)) (fun l=>?_);clear hK K
  try simp only [sqx,au]
  refine wpAnyH_ready (rs:=[6]) (by kernel_rfl) (by simp) ?_;refine av rfl (fun K hK=>?_) aw;go_simp
  with_reducible refine (f8.out _ _ a8).mono ?_
  rintro e E ⟨a0,rfl,b3,g8⟩
  try go_wp2_with fail
  refine hK.out _ _ b3 (fun l=>?_);clear hK K
  try simp only [sqx,au]
  refine tkq 7 rfl (v:=?_) (ac ⟨by rfl,?ry7⟩) ?_
  case ry7=>intro w d;(try dsimp only at d);go_simp;all_goals with_reducible rfl
  try simp only [sqx,au]
  refine wpAnyH_done (by kernel_rfl) ?_ _;clear d7 f6 f8;rcases g8 with ⟨rfl,hrm,hbW⟩|⟨rfl,hrm,D',hD1,hD2,y⟩|⟨rfl,hrm,hset,hSo,hSd⟩
  ·have C9:=j4a 51 42 E;have F:=jk 51 E;have d5:((51:Int)==42)=false:=rfl;have d3:((51:Int) != 0)=true:=rfl;rw [d5] at C9;rw [d3] at F;have HF:Hid (CmQ w W p h m N D B all ps pl ver c u f u1 L 0 51 E):=ac ⟨rfl,by decide,by decide,by rw [T,if_pos rfl,hr,if_pos hrm],hbW⟩;clear hbW b3 l a8;go_wp2_with fail;refine C9.mono ?_;rintro e _ ⟨rfl,rfl⟩;go_wp2_with fail;refine F.mono ?_;rintro e _ ⟨rfl,rfl⟩;go_wp2_with fail;go_ret2;exact ⟨_,_,rfl,HF.out⟩
  ·have C9:=j4a 0 42 E;have F:=jk 0 E;have d5:((0:Int)==42)=false:=rfl;have d3:((0:Int) != 0)=false:=rfl;rw [d5] at C9;rw [d3] at F;obtain ⟨R,d1,M⟩:=y.frame;have k6:E.heap[i]?=some (.cells b stS (0,0)):=d1.get 0 rfl;have d0:Mem w E ((ps,.cells ([ab (some ⟨pl,0,none⟩)]++((aa .u64 ver::cc c u)++[ab (some ⟨g,0,none⟩),Value.bool false])).toArray stT (0,0))::(i,.cells b stS (0,0))::(L++R)):=d1.perm (ay _ _ _);have e5:E.there ps 1 b.size:=j44 d0 (by rw [a6,ai];simp [je hl]);have c9:=j45 (aa .u64 (ver+1)::cc f u1) (aa .u64 ver::cc c u) [ab (some ⟨pl,0,none⟩)] E (by simp [je hl,je s]) d0;have eL:b.toList=aa .u64 (ver+1)::cc f u1:=by rw [<-q]
   rw [<-eL,List.length_singleton,eL] at c9;have P:Mem w (E.setCells ps 1 b.toList) (bxS ps pl (ver+1) f u1 (some ⟨g,0,none⟩) false::(i,.cells b stS (0,0))::(L++R)):=by rw [eL];exact c9
   have d6:=bx31 P s;have d4:=P.free 0 rfl 31;have b4:=P.set 0 rfl 31 (.pointer none);simp only [an] at b4;rw [j0s s] at b4;have f5:Hid (Mem w ((E.setCells ps 1 b.toList).setCell ⟨ps,31,none⟩ (.pointer none)) (bxS ps pl (ver+1) f u1 none false::(i,.cells b stS (0,0))::(L++R))):=b4;have f7:Hid (∀ X,Mem w X (bxS ps pl (ver+1) f u1 none false::(i,.cells b stS (0,0))::(L++R))->X.cell? ⟨i,0,none⟩=some (.int .u64 (ver+1))/\CmQ w W p h m N D B all ps pl ver c u f u1 L (ver+1) 0 X):=by
    intro X O;refine ⟨by rw [O.cell 1 rfl,<-q];rfl,ad (ac ⟨T,by rw [hr];exact hrm,rfl,rfl,D',hD1,hD2,?_⟩)⟩;rw [hr];have C:=M X (bxS ps pl (ver+1) f u1 none false::(i,.cells b stS (0,0))::L) O;obtain ⟨R2,d2,hb2⟩:=C.frame;have h2:=(M X ((i,.cells b stS (0,0))::bxS ps pl (ver+1) f u1 none false::L) (O.perm (ay _ _ _)));exact h2.sub (Y:=[(i,.cells b stS (0,0))])
   clear y d1 M d0 c9 P b4 b3 l a8 eL;go_wp2_with fail;refine C9.mono ?_;rintro e _ ⟨rfl,rfl⟩;go_wp2_with fail;refine F.mono ?_;rintro e _ ⟨rfl,rfl⟩;go_upto_region 14 with (first|(refine wpList_load_row rfl stS (.tmp 6) (by with_reducible rfl) i (by first|rfl|simp [ar]) stS b (0,0) _ k6 underlying96 rfl e3 ?_)|(refine wpList_store_mid rfl stS (.tmp 63) (.tmp 61) (by with_reducible rfl) ps 1 b (by first|rfl|simp [ar]) (by first|rfl|simp [ar]) e5 e3 d9 ?_)|fail)
   refine j5 (fun X=>Mem w X (bxS ps pl (ver+1) f u1 none false::(i,.cells b stS (0,0))::(L++R))) (by exact f5.out) ?_;intro X O;obtain ⟨i7,hq⟩:=f7.out X O;have HQ:Hid (CmQ w W p h m N D B all ps pl ver c u f u1 L (ver+1) 0 X):=hq;clear f5 f7 O hq e5 k6 d6 d4;go_wp2_with fail;go_ret2;exact ⟨_,_,rfl,HQ.out⟩
  ·have C9:=j4a 42 42 E;have h6:((42:Int)==42)=true:=rfl;have h4:((42:Int) != 0)=true:=rfl;rw [h6] at C9;have Z:=hSo.mem.sub;have d6:=bx31 Z hl;have h8:=bx32 Z hl;have d4:=Z.free 0 rfl 31;have h5:=Z.free 0 rfl 32;have key:∀ R,Mem w E (((i,.cells b stS (0,0))::bxS ps pl ver c u (some ⟨g,0,none⟩) false::L)++R)->Mem w ((E.setCell ⟨ps,32,none⟩ (.bool true)).setCell ⟨ps,31,none⟩ (.pointer none)) (([(i,Obj.cells b stS (0,0))]++(bxS ps pl ver c u none true::L))++R):=by
    intro R hR;have C:=hR.set 1 rfl 32 (.bool true);simp only [ak,ao,an] at C;rw [jas hl] at C;have h2:=C.set 1 rfl 31 (.pointer none);simp only [ao,an] at h2;rw [j0s hl] at h2;exact h2
   have h7:(E.setCell ⟨ps,32,none⟩ (.bool true)).cell? ⟨ps,31,none⟩=some (.pointer (some ⟨g,0,none⟩)):=by
    have C:=Z.set 0 rfl 32 (.bool true);simp only [an] at C;rw [jas hl] at C;exact bx31 C hl
   have b7:CmQ w W p h m N D B all ps pl ver c u f u1 L 0 42 ((E.setCell ⟨ps,32,none⟩ (.bool true)).setCell ⟨ps,31,none⟩ (.pointer none)):=by
    refine ad (ad ⟨T,by rw [hr];exact hrm,rfl,rfl,hset,?_,?_⟩)
    ·obtain ⟨R,G,hb⟩:=hSo.frame;have:=hb _ _ (key R G);obtain ⟨hc,ks,t,c',v',K,C,h2⟩:=this.at_;refine ⟨hc,ks,t,c',v',K++[(i,.cells b stS (0,0))],C.on (C.st.perm ?_),h2⟩;refine ax _ ?_;rw [al,<-al _ K];exact am
    ·rw [hr];rcases hSd with hs|hs
     ·obtain ⟨R,G,hb⟩:=hs.frame;exact ac ((hb _ _ (key R G)).sub)
     ·obtain ⟨R,G,hb⟩:=hs.frame;exact ad ((hb _ _ (key R G)).sub)
   have HF:Hid (CmQ w W p h m N D B all ps pl ver c u f u1 L 0 42 ((E.setCell ⟨ps,32,none⟩ (.bool true)).setCell ⟨ps,31,none⟩ (.pointer none))):=b7;clear hSo hSd Z key b7 b3 l a8;go_wp2_with fail;refine C9.mono ?_;rintro e _ ⟨rfl,rfl⟩;go_upto_region 11 with fail;refine j5 (fun X=>CmQ w W p h m N D B all ps pl ver c u f u1 L 0 42 X) (by exact HF.out) ?_;intro X O;have HX:Hid (CmQ w W p h m N D B all ps pl ver c u f u1 L 0 42 X):=O;have F:=jk 42 X;rw [h4] at F;clear HF O d6 h8 d4 h5 h7;go_wp2_with fail;refine F.mono ?_;rintro e _ ⟨rfl,rfl⟩;go_wp2_with fail;go_ret2;exact ⟨_,_,rfl,HX.out⟩
 ·have C:(kk != 0)=true:=by simp [h0]
  rw [C] at C3;go_wp2_with fail;refine C3.mono ?_;rintro e _ ⟨rfl,rfl⟩;go_wp2_with fail;go_ret2;exact ⟨_,_,rfl,ac ⟨rfl,h0,by rw [<-T];exact c2,by rw [T,if_neg h0],b0.out⟩⟩
end
end
end Go.Proofs.YtdigofgjhaakmaaGreatDoor
