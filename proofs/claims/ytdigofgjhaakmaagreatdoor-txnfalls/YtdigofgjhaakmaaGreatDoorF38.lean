/- Parts of the proof. -/
import Derived.Test.YtdigofgjhaakmaaGreatDoorF37
set_option linter.all false
set_option maxHeartbeats 40000000
set_option maxRecDepth 20000
open Go.Proofs.Tryz
open Or renaming inl->aa,inr->ab
open Nat renaming le_refl->ac,zero_add->ad
open List renaming length_map->ae,size_toArray->af,getElem?_eq_getElem->ag,mem_map->ah,map_map->ai
open Go.RowKit.Below renaming refl->aj
open Go.World renaming setRow_alloc_new->ak
open Go.Act renaming eval->al,put->am
open Go.AllReadyH renaming cons->an,nil->ao
open UInt8 renaming ofNat->ap
namespace Go.Proofs.YtdigofgjhaakmaaGreatDoor
variable {v u:Value} {i:Nat} {all:List (List Int)} {B C Y L:List (Nat×Obj)} {ver f x:Int} {w X V:World} {l:List Value} {ga:Addr}
section
open Go.RowKit Sm Cf Df Va Ad
def DlB (v:Value) (zs:List Tv) (B:List (Nat×Obj)):Prop:=(v=.slice none 0 0/\zs=[]/\B=[]) \/
 ∃ g cap cur,v=.slice (some ⟨g,0,none⟩) zs.length cap/\B=[(g,.cells cur 46)]/\zs.length<=cap/\cap<=maxLen/\cur.toList.take (zs.length*33)=(zs.map zc).flatten
theorem Df.Dl.dlb {W:World} {a:List Tv} (h:Dl w W v a):∃ B,DlB v a B/\Mem w W B:=by
 rcases h with ⟨rfl,rfl,h⟩|⟨g,cap,cur,rfl,h,h1,h2,h3⟩
 ·exact ⟨[],aa ⟨rfl,rfl,rfl⟩,h⟩
 ·exact ⟨_,ab ⟨g,cap,cur,rfl,rfl,h1,h2,h3⟩,h⟩
theorem DlB.zv {a:List Tv} (h:DlB v a B) (k:∀ x∈B,V.heap[x.1]?=some x.2) (d:∀ z∈a,TLen z.1/\Rws V z):ZV V v a:=by
 refine ⟨?_,d⟩;rcases h with ⟨rfl,rfl,rfl⟩|⟨g,cap,cur,rfl,rfl,h1,h2,h3⟩
 ·exact ⟨none,0,rfl,ac _,by omega,fun _=>rfl,aa rfl⟩
 ·refine ⟨some ⟨g,0,none⟩,cap,by rw [ae],by rw [ae];exact h1,by simpa [maxLen] using h2,nofun,ab ⟨g,0,rfl,fun i hi j u e=>?_⟩⟩;have b:=j2h (a.map zc) i j u (zs33 fun z h=>(d z h).1) e;rw [<-h3,List.getElem?_take] at b;rw [cell_of (k _ (List.mem_singleton.2 rfl)),ad];split at b
  ·rw [<-Array.getElem?_toList];exact b
  ·cases b
theorem pcS (B:List (Nat×Obj)) (p q:Nat×Obj) (L:List (Nat×Obj)):(B++(p::q::L)).Perm (p::q::(B++L)):=by classical rw [List.perm_iff_count];intro z;simp only [List.count_append,List.count_cons];omega
theorem jbh {g pm k:Nat} (h:X.rangeAt g 0 l) (a:g≠pm):(X.setCell ⟨pm,k,none⟩ v).rangeAt g 0 l:=fun j x b=>by
 rw [World.cell?_setCell_far _ _ _ _ (Ne.symm a)];exact h j x b
section
variable {ver:Int} {c t:Cgf} {u ut:Value} {op:Bool} {w W:World} {pm:Nat} {L:List (Nat×Obj)}
theorem j9g (a:Mem w W (bxM pm ver c u t ut false::L)) (d:CLen c) (b:CLen t) (cl:Array Value) :
 Calls prog 30 #[.pointer (some ⟨pm,0,none⟩),.agg cl] W fun e h=>e=.returned (.int .i64 111)/\Below W.heap.size W h:=by
 have hb:Below W.heap.size W (W.alloc (.cells cl 48)):=(aj _ _).alloc (ac _) _;have g:=rm59 (a.after hb) d b;have j:Hid (Below W.heap.size W (W.alloc (.cells cl 48))):=hb;clear a hb;go_enter func30,ntmps30;go_wp2_with fail;go_ret;exact ⟨rfl,j.out⟩
def RsP (w W:World) (pm:Nat) (ver:Int) (c:Cgf) (u:Value) (t:Cgf) (zs:List Tv) (y:Hv) (L:List (Nat×Obj)) (e:Ending) (W':World):Prop :=
 (ftsB t.ten y.1=false/\e=.returned (.int .i64 90)/\Below W.heap.size W W') \/
 (ftsB t.ten y.1=true/\e=.returned (.int .i64 0)/\∃ ut' B,(∃ a n m,ut'=.slice a n m)/\DlB ut' (apz zs [y]) B/\Mem w W' (bxM pm ver c u { t with ten:=app t.ten [y.1] } ut' true::(B++L)))
theorem jiv (hv:Vs W) (hM:Mem w W (bxM pm ver c u t ut true::L)) (hl:CLen c) (ht:CLen t) {zs:List Tv} (hz:ZV W ut zs) (d8:zs.map Prod.fst=t.ten) (hm:zs.length<=390) {y:Hv} (d7:TLen y.1.t) (d9:Rws W (yz y)) (e6:y.1.name.size<=1000000) (e5:y.1.t.name.size<=1000000) :
 Calls prog 30 #[.pointer (some ⟨pm,0,none⟩),.agg (yc y).toArray] W (RsP w W pm ver c u t zs y L):=by
 obtain ⟨g3,e8⟩:∃ g,W.heap.size=g:=⟨_,rfl⟩;obtain ⟨Y,hY⟩:∃ Y,(yc y).toArray=Y:=⟨_,rfl⟩;obtain ⟨sa,sm,rfl,-,-,-⟩:=hz.parts;have b2:Mem w (W.alloc (.cells Y 48)) ((g3,.cells Y 48)::bxM pm ver c u t (.slice sa zs.length sm) true::L):=hM.front _ e8.symm;have b6:Below W.heap.size W (W.alloc (.cells Y 48)):=(aj _ _).alloc (ac _) _;have c9:Hid (g3≠pm):=by
  have h1:=hM.lt (p:=bxM pm ver c u t (.slice sa zs.length sm) true) (by simp);show g3≠pm;have h2:pm<W.heap.size:=h1;omega
 have d4:Hid (∀ X,Below (W.alloc (.cells Y 48)).heap.size (W.alloc (.cells Y 48)) X->Mem w X ((g3,.cells Y 48)::bxM pm ver c u t (.slice sa zs.length sm) true::L)):=fun X hX=>b2.after hX;have a0:Hid (∀ X,Below (W.alloc (.cells Y 48)).heap.size (W.alloc (.cells Y 48)) X->X.cell? ⟨g3,0,none⟩=some (.bool y.1.put)/\X.cell? ⟨g3,1,none⟩=some (.string y.1.name)/\X.cell? ⟨g3,2,none⟩=some (.string y.1.t.name)):=by
  intro X hX;refine ⟨?_,?_,?_⟩<;>· rw [(b2.after hX).cell 0 rfl,<-hY];rfl
 have c4:Hid (∀ X,Below (W.alloc (.cells Y 48)).heap.size (W.alloc (.cells Y 48)) X->X.rangeAt g3 0 (yc y)):=fun X hX j x hj=>by
  rw [(b2.after hX).cell 0 rfl,<-hY,List.getElem?_toArray,ad];exact hj
 have b1:Hid (∀ X ga,Below W.heap.size W X->X.heap[ga]?=some (.cells Y 48)->Calls prog 58 #[.slice sa zs.length sm,.slice (some ⟨ga,0,none⟩) 1 1] X fun e V=>∃ a n m,e=.returned (.slice a n m)/\Dl X V (.slice a n m) (apz zs [y])):=fun X ga hX e2=>by
  rw [<-hY] at e2;exact jd3 (hz.at_ hX) (jft e2 d7 (Rws.at_ d9 hX)) (by omega) (by simp)
 have a4:Hid (∀ V,(Instr.buildSlice 109 1 #[(0,.agg Y)]).run prog V=.ok (.slice (some ⟨V.heap.size,0,none⟩) 1 1) (V.alloc (.cells Y 48))):=fun V=>by rw [<-hY];exact bslC y.1 d7 _ _ _ V
 have d6:(prog.info? 48).map (·.size)=some (yc y).length:=by rw [j03 d7];kernel_rfl
 have H:Hid (Below W.heap.size W (W.alloc (.cells Y 48))):=b6;have HY:Hid ((yc y).toArray=Y):=hY;have e3:=rm59 b2.sub hl ht;have e4:=rm58 b2.sub hl ht;have d5:Hid (∀ s:ByteArray,Calls prog 56 #[.slice sa zs.length sm,.string s] (W.alloc (.cells Y 48)) fun e V=>∃ A,e=.returned (.tuple #[.agg A,.bool (Df.look nk s.data.toList t.ten).isSome])/\TV V (.agg A) (fnd t.ten s.data.toList)/\Below (W.alloc (.cells Y 48)).heap.size (W.alloc (.cells Y 48)) V):=fun s=>by
  have:=jfg (hz.at_ b6) s (by omega);rw [d8] at this;exact this
 have d3:Hid (∀ s:ByteArray,s.size<=1000000->∀ X,Below (W.alloc (.cells Y 48)).heap.size (W.alloc (.cells Y 48)) X->Calls prog 57 #[.string s] X fun e V=>e=.returned (.bool (nam s.data.toList))/\Below X.heap.size X V):=fun s hs X hX=>jbi (hv.below (b6.trans (hX.mono b6.size))) s (by omega);obtain ⟨d0,d1,d2⟩:=a0.out _ (aj _ _);rw [hY];clear hM b2 hz d9 b6 hY d8 hv;generalize e1:yc y=yl at c4 HY d6;clear e1;generalize zs.length=zn at *;cases hp:y.1.put
 ·have CF:=d5.out y.1.name;have HN:Hid (∀ X,Below (W.alloc (.cells Y 48)).heap.size (W.alloc (.cells Y 48)) X->Calls prog 57 #[.string y.1.name] X fun e V=>e=.returned (.bool (nam y.1.name.data.toList))/\Below X.heap.size X V):=d3.out _ e6;have c5:Hid (nam y.1.name.data.toList=false\/(Df.look nk y.1.name.data.toList t.ten).isSome=false->ftsB t.ten y.1=false):=by
   intro h;unfold ftsB;rw [hp];rcases h with h|h<;>simp [h]
  have b8:Hid (nam y.1.name.data.toList=true->(Df.look nk y.1.name.data.toList t.ten).isSome=true->ftsB t.ten y.1=true):=by
   intro h1 h2;unfold ftsB;rw [hp];simp [h1,h2]
  rw [hp] at d0 a0;clear d5 d3;generalize nam y.1.name.data.toList=nr at *;generalize (Df.look nk y.1.name.data.toList t.ten).isSome=fr at *;go_enter func30,ntmps30;go_wp2_with fail;refine CF.mono ?_;rintro e X ⟨B0,rfl,hT,hb⟩;obtain ⟨b4,p0,s0,q0,e0,hq⟩:=hT;simp only [Value.agg.injEq] at e0;have a5:B0.size=33:=by rw [e0,af];exact ji b4 _ _ _
  have a3:B0.all (·.oneCell')=true:=by rw [e0];exact j23 _ (km hq.1) (km hq.2.1) (km hq.2.2)
  have b3:(prog.info? 46).map (·.size)=some B0.size:=by rw [a5];kernel_rfl
  obtain ⟨g6,M⟩:∃ g,X.heap.size=g:=⟨_,rfl⟩;have b5:(X.alloc (.cells tz 46)).heap[g6]?=some (.cells tz 46):=by rw [<-M];exact heap_alloc_new _ _
  have HE:Hid (Below (W.alloc (.cells Y 48)).heap.size (W.alloc (.cells Y 48)) ((X.alloc (.cells tz 46)).setRow g6 B0)):=by
   rw [<-M,ak];exact hb.alloc hb.size _
  have a2:(tz:Array Value).size=B0.size:=by rw [a5];rfl
  clear e0 hq hb CF;go_upto_region 7 with (refine wpList_store_row rfl 46 (.tmp 6) (.tmp 28) (by with_reducible rfl) g6 B0 (by simp [al];try exact M) (by first|rfl|simp [al]) 46 tz b5 b3 a2 a3 ?_)
  refine j5 (fun V=>Below (W.alloc (.cells Y 48)).heap.size (W.alloc (.cells Y 48)) V) (by exact HE.out) ?_;intro V1 T
  try simp only [M]
  clear HE b5 M a5 a3 b3 a2 b4 d0 d1 d2 e3 e4;have CN:=HN.out V1 T;obtain ⟨c0,c1,c2⟩:=a0.out V1 T;have a8:Hid (Below (W.alloc (.cells Y 48)).heap.size (W.alloc (.cells Y 48)) V1):=T;clear T HN;go_wp2_with fail;refine CN.mono ?_;rintro e V2 ⟨rfl,hb2⟩;have a6:=a8.out.trans (hb2.mono a8.out.size);obtain ⟨c0,c1,c2⟩:=a0.out V2 a6;have U:Hid (Below (W.alloc (.cells Y 48)).heap.size (W.alloc (.cells Y 48)) V2):=a6;clear CN a8 hb2 a6;cases nr
  ·go_wp2_with fail;go_ret;exact aa ⟨c5.out (aa (by trivial)),rfl,H.out.trans (U.out.mono H.out.size)⟩
  ·cases fr
   ·go_wp2_with fail;go_ret;exact aa ⟨c5.out (ab (by trivial)),rfl,H.out.trans (U.out.mono H.out.size)⟩
   ·have c3:Hid (ftsB t.ten y.1=true):=b8.out rfl rfl;go_upto_region 9 with fail;refine j5 (fun V=>Below (W.alloc (.cells Y 48)).heap.size (W.alloc (.cells Y 48)) V) (by exact U.out) ?_;intro r D;have G:Hid (∀ {X},Below r.heap.size r X->Mem w X ((g3,.cells Y 48)::bxM pm ver c u t (.slice sa zn sm) true::L)):=fun {X} hX=>d4.out X (D.trans (hX.mono D.size));have R:Hid (∀ X,Below r.heap.size r X->X.rangeAt g3 0 yl):=fun X hX=>c4.out X (D.trans (hX.mono D.size));have c7:Hid (Below r.heap.size r (r.drew.alloc (.cells Y 48))):=((aj _ _).drew).alloc (ac _) _;have Q:Hid (Below r.heap.size r (r.alloc (.cells Y 48)).drew):=((aj _ _).alloc (ac _) _).drew;have a1:Hid (∀ Z:Nat,Calls prog 58 #[.slice sa zn sm,.slice (some ⟨r.heap.size,0,none⟩) 1 1] (r.alloc (.cells Y 48)).drew fun e V=>∃ a n m,e=.returned (.slice a n m)/\Dl (r.alloc (.cells Y 48)).drew V (.slice a n m) (apz zs [y])):=fun _=>b1.out _ _ (H.out.trans ((D.trans (Q.out.mono D.size)).mono H.out.size)) (show (r.alloc (.cells Y 48)).heap[r.heap.size]?=_ from heap_alloc_new _ _);have b9:=R.out _ ((aj _ _).drew);clear U b1 d4 c4 a0 c0 c1 c2 D;refine wp_region_held_drew (S:=fun X=>X.rangeAt g3 0 yl) (by kernel_rfl) b9 (fun d=>?_);refine tkq 0 rfl (v:=?_) (aa ⟨by rfl,?sy0⟩) ?_
    case sy0=>intro w b;(try dsimp only at b);go_simp;all_goals with_reducible rfl
    try simp only [sqx,am]
    refine tkq 1 rfl (v:=?_) (aa ⟨by rfl,?sy1⟩) ?_
    case sy1=>intro w b;(try dsimp only at b);go_simp;all_goals with_reducible rfl
    try simp only [sqx,am]
    refine tkq 2 rfl (v:=?_) (aa ⟨by rfl,?sy2⟩) ?_
    case sy2=>intro w b;(try dsimp only at b);go_simp;all_goals with_reducible rfl
    try simp only [sqx,am]
    refine tkq 3 rfl (v:=?_) (aa ⟨by rfl,?sy3⟩) ?_
    case sy3=>intro w b;(try dsimp only at b);go_simp;all_goals with_reducible rfl
    try simp only [sqx,am]
    refine tkq 4 rfl (v:=?_) (aa ⟨by rfl,?sy4⟩) ?_
    case sy4=>intro w b;(try dsimp only at b);go_simp;all_goals with_reducible rfl
    try simp only [sqx,am]
    refine tkq 6 rfl (v:=.agg Y) (j7 (by rfl) _ _ rfl _ _ rfl Y yl _ (fun _ h=>h) HY underlying48 rfl d6) ?_
    try simp only [sqx,am]
    refine wpAnyH_ready (rs:=[5,7]) (by kernel_rfl) (by simp) ?_;refine an rfl (fun K o=>?_) (an rfl (fun K o=>?_) ao)
    ·have F:=rm58 (G.out (aj _ _).drew).sub hl ht;go_simp;refine o.out _ _ b9 (fun d=>?_);clear o K F
     try simp only [sqx,am]
     refine wpAnyH_ready (rs:=[7]) (by kernel_rfl) (by simp) ?_;refine an rfl (fun K o=>?_) ao;have N:=c7.out;refine ze rfl 109 1 #[(0,.tmp 60)] rfl (a4.out _) (by simp [al,am]) ?_;refine o.out _ _ (R.out _ N) (fun d=>?_);clear o K
     try simp only [sqx,am]
     refine wpAnyH_ready (rs:=[8]) (by kernel_rfl) (by simp) ?_;refine an rfl (fun K o=>?_) ao;go_simp
     with_reducible refine (a1.out 0).mono ?_
     rintro e V5 ⟨J,rn,I,rfl,hD⟩
     try go_wp2_with fail
     obtain ⟨B,P,E⟩:=hD.dlb;have k:=Q.out;have z:=k.trans (E.below.mono k.size);have O:=(G.out k).more E;refine o.out _ _ (R.out _ z) (fun d=>?_);clear o K
     try simp only [sqx,am]
     refine tkq 9 rfl (v:=?_) (aa ⟨by rfl,?sby9⟩) ?_
     case sby9=>intro w b;(try dsimp only at b);go_simp;all_goals with_reducible rfl
     try simp only [sqx,am]
     refine tkq 10 rfl (v:=?_) (aa ⟨by rfl,?sby10⟩) ?_
     case sby10=>intro w b;(try dsimp only at b);go_simp;all_goals with_reducible rfl
     try simp only [sqx,am]
     refine tkq 11 rfl (v:=?_) (aa ⟨by rfl,?sby11⟩) ?_
     case sby11=>intro w b;(try dsimp only at b);go_simp;all_goals with_reducible rfl
     try simp only [sqx,am]
     refine wpAnyH_ready (rs:=[12]) (by kernel_rfl) (by simp) ?_;refine an rfl (fun K o=>?_) ao;have q:Mem w V5 (bxM pm ver c u t (.slice sa zn sm) true::(B++L)):=Mem.sub (p:=(g3,.cells Y 48)) (O.perm (pcS B _ _ L));have F:=rm58 q hl ht;have a7:=q.free 0 rfl 58;have a9:Hid (Mem w (V5.setCell ⟨pm,58,none⟩ (.slice J rn I)) (bxM pm ver c u { t with ten:=app t.ten [y.1] } (.slice J rn I) true::(B++L))):=rmU q hl ht (.slice J rn I) _;go_simp;refine o.out _ _ (jbh (R.out _ z) c9.out) (fun d=>?_);clear o K F a7
     try simp only [sqx,am]
     refine wpAnyH_done (by kernel_rfl) ?_ _;have b0:Hid (DlB (.slice J rn I) (apz zs [y]) B):=P;clear G a1 a4 R P E O q z hD HY;go_wp2_with fail;go_ret;exact ab ⟨c3.out,rfl,_,B,⟨J,rn,I,rfl⟩,b0.out,a9.out⟩
    ·have N:=c7.out;refine ze rfl 109 1 #[(0,.tmp 60)] rfl (a4.out _) (by simp [al,am]) ?_;refine o.out _ _ (R.out _ N) (fun d=>?_);clear o K
     try simp only [sqx,am]
     refine wpAnyH_ready (rs:=[5]) (by kernel_rfl) (by simp) ?_;refine an rfl (fun K o=>?_) ao;have b7:=rm58 (G.out (show Below r.heap.size r (r.alloc (.cells Y 48)) from (aj _ _).alloc (ac _) _)).sub hl ht;have F:=rm58 (G.out N).sub hl ht;go_simp;refine o.out _ _ (R.out _ N) (fun d=>?_);clear o K F
     try simp only [sqx,am]
     clear b7;refine wpAnyH_ready (rs:=[8]) (by kernel_rfl) (by simp) ?_;refine an rfl (fun K o=>?_) ao;go_simp
     with_reducible refine (a1.out 0).mono ?_
     rintro e V5 ⟨J,rn,I,rfl,hD⟩
     try go_wp2_with fail
     obtain ⟨B,P,E⟩:=hD.dlb;have k:=Q.out;have z:=k.trans (E.below.mono k.size);have O:=(G.out k).more E;refine o.out _ _ (R.out _ z) (fun d=>?_);clear o K
     try simp only [sqx,am]
     refine tkq 9 rfl (v:=?_) (aa ⟨by rfl,?scy9⟩) ?_
     case scy9=>intro w b;(try dsimp only at b);go_simp;all_goals with_reducible rfl
     try simp only [sqx,am]
     refine tkq 10 rfl (v:=?_) (aa ⟨by rfl,?scy10⟩) ?_
     case scy10=>intro w b;(try dsimp only at b);go_simp;all_goals with_reducible rfl
     try simp only [sqx,am]
     refine tkq 11 rfl (v:=?_) (aa ⟨by rfl,?scy11⟩) ?_
     case scy11=>intro w b;(try dsimp only at b);go_simp;all_goals with_reducible rfl
     try simp only [sqx,am]
     refine wpAnyH_ready (rs:=[12]) (by kernel_rfl) (by simp) ?_;refine an rfl (fun K o=>?_) ao;have q:Mem w V5 (bxM pm ver c u t (.slice sa zn sm) true::(B++L)):=Mem.sub (p:=(g3,.cells Y 48)) (O.perm (pcS B _ _ L));have F:=rm58 q hl ht;have a7:=q.free 0 rfl 58;have a9:Hid (Mem w (V5.setCell ⟨pm,58,none⟩ (.slice J rn I)) (bxM pm ver c u { t with ten:=app t.ten [y.1] } (.slice J rn I) true::(B++L))):=rmU q hl ht (.slice J rn I) _;go_simp;refine o.out _ _ (jbh (R.out _ z) c9.out) (fun d=>?_);clear o K F a7
     try simp only [sqx,am]
     refine wpAnyH_done (by kernel_rfl) ?_ _;have b0:Hid (DlB (.slice J rn I) (apz zs [y]) B):=P;clear G a1 a4 R P E O q z hD HY;go_wp2_with fail;go_ret;exact ab ⟨c3.out,rfl,_,B,⟨J,rn,I,rfl⟩,b0.out,a9.out⟩
 ·have CF:=d5.out y.1.t.name;have HN:Hid (∀ X,Below (W.alloc (.cells Y 48)).heap.size (W.alloc (.cells Y 48)) X->Calls prog 57 #[.string y.1.t.name] X fun e V=>e=.returned (.bool (nam y.1.t.name.data.toList))/\Below X.heap.size X V):=d3.out _ e5;have c5:Hid (nam y.1.t.name.data.toList=false\/(y.1.name.toList==y.1.t.name.toList)=false->ftsB t.ten y.1=false):=by
   intro h;unfold ftsB;rw [hp,if_pos rfl];rcases h with h|h
   ·cases he:(y.1.name.toList==y.1.t.name.toList)
    ·simp
    ·rw [j6a] at he;rw [of_decide_eq_true he,h];rfl
   ·rw [h];simp
  have b8:Hid (nam y.1.t.name.data.toList=true->(y.1.name.toList==y.1.t.name.toList)=true->ftsB t.ten y.1=true):=by
   intro h1 h2;unfold ftsB;rw [hp,if_pos rfl,h2];rw [j6a] at h2;rw [of_decide_eq_true h2,h1];rfl
  rw [hp] at d0 a0;clear d5 d3;generalize nam y.1.t.name.data.toList=nr at *;generalize (Df.look nk y.1.t.name.data.toList t.ten).isSome=fr at *;go_enter func30,ntmps30;go_wp2_with fail;refine CF.mono ?_;rintro e X ⟨B0,rfl,hT,hb⟩;obtain ⟨b4,p0,s0,q0,e0,hq⟩:=hT;simp only [Value.agg.injEq] at e0;have a5:B0.size=33:=by rw [e0,af];exact ji b4 _ _ _
  have a3:B0.all (·.oneCell')=true:=by rw [e0];exact j23 _ (km hq.1) (km hq.2.1) (km hq.2.2)
  have b3:(prog.info? 46).map (·.size)=some B0.size:=by rw [a5];kernel_rfl
  obtain ⟨g6,M⟩:∃ g,X.heap.size=g:=⟨_,rfl⟩;have b5:(X.alloc (.cells tz 46)).heap[g6]?=some (.cells tz 46):=by rw [<-M];exact heap_alloc_new _ _
  have HE:Hid (Below (W.alloc (.cells Y 48)).heap.size (W.alloc (.cells Y 48)) ((X.alloc (.cells tz 46)).setRow g6 B0)):=by
   rw [<-M,ak];exact hb.alloc hb.size _
  have a2:(tz:Array Value).size=B0.size:=by rw [a5];rfl
  clear e0 hq hb CF;go_upto_region 7 with (refine wpList_store_row rfl 46 (.tmp 6) (.tmp 28) (by with_reducible rfl) g6 B0 (by simp [al];try exact M) (by first|rfl|simp [al]) 46 tz b5 b3 a2 a3 ?_)
  refine j5 (fun V=>Below (W.alloc (.cells Y 48)).heap.size (W.alloc (.cells Y 48)) V) (by exact HE.out) ?_;intro V1 T
  try simp only [M]
  clear HE b5 M a5 a3 b3 a2 b4 d0 d1 d2 e3 e4;have CN:=HN.out V1 T;obtain ⟨c0,c1,c2⟩:=a0.out V1 T;have a8:Hid (Below (W.alloc (.cells Y 48)).heap.size (W.alloc (.cells Y 48)) V1):=T;clear T HN;go_wp2_with fail;refine CN.mono ?_;rintro e V2 ⟨rfl,hb2⟩;have a6:=a8.out.trans (hb2.mono a8.out.size);obtain ⟨c0,c1,c2⟩:=a0.out V2 a6;have U:Hid (Below (W.alloc (.cells Y 48)).heap.size (W.alloc (.cells Y 48)) V2):=a6;clear CN a8 hb2 a6;cases nr
  ·go_wp2_with fail;go_ret;exact aa ⟨c5.out (aa (by trivial)),rfl,H.out.trans (U.out.mono H.out.size)⟩
  ·cases heq:(y.1.name.toList==y.1.t.name.toList)
   ·have e7:(y.1.name.toList != y.1.t.name.toList)=true:=by rw [bne,heq];rfl
    go_wp2_with fail;go_ret;exact aa ⟨c5.out (ab heq),rfl,H.out.trans (U.out.mono H.out.size)⟩
   ·have e7:(y.1.name.toList != y.1.t.name.toList)=false:=by rw [bne,heq];rfl
    have c3:Hid (ftsB t.ten y.1=true):=b8.out rfl heq;go_upto_region 9 with fail;refine j5 (fun V=>Below (W.alloc (.cells Y 48)).heap.size (W.alloc (.cells Y 48)) V) (by exact U.out) ?_;intro r D;have G:Hid (∀ {X},Below r.heap.size r X->Mem w X ((g3,.cells Y 48)::bxM pm ver c u t (.slice sa zn sm) true::L)):=fun {X} hX=>d4.out X (D.trans (hX.mono D.size));have R:Hid (∀ X,Below r.heap.size r X->X.rangeAt g3 0 yl):=fun X hX=>c4.out X (D.trans (hX.mono D.size));have c7:Hid (Below r.heap.size r (r.drew.alloc (.cells Y 48))):=((aj _ _).drew).alloc (ac _) _;have Q:Hid (Below r.heap.size r (r.alloc (.cells Y 48)).drew):=((aj _ _).alloc (ac _) _).drew;have a1:Hid (∀ Z:Nat,Calls prog 58 #[.slice sa zn sm,.slice (some ⟨r.heap.size,0,none⟩) 1 1] (r.alloc (.cells Y 48)).drew fun e V=>∃ a n m,e=.returned (.slice a n m)/\Dl (r.alloc (.cells Y 48)).drew V (.slice a n m) (apz zs [y])):=fun _=>b1.out _ _ (H.out.trans ((D.trans (Q.out.mono D.size)).mono H.out.size)) (show (r.alloc (.cells Y 48)).heap[r.heap.size]?=_ from heap_alloc_new _ _);have b9:=R.out _ ((aj _ _).drew);clear U b1 d4 c4 a0 c0 c1 c2 D;refine wp_region_held_drew (S:=fun X=>X.rangeAt g3 0 yl) (by kernel_rfl) b9 (fun d=>?_);refine tkq 0 rfl (v:=?_) (aa ⟨by rfl,?qy0⟩) ?_
    case qy0=>intro w b;(try dsimp only at b);go_simp;all_goals with_reducible rfl
    try simp only [sqx,am]
    refine tkq 1 rfl (v:=?_) (aa ⟨by rfl,?qy1⟩) ?_
    case qy1=>intro w b;(try dsimp only at b);go_simp;all_goals with_reducible rfl
    try simp only [sqx,am]
    refine tkq 2 rfl (v:=?_) (aa ⟨by rfl,?qy2⟩) ?_
    case qy2=>intro w b;(try dsimp only at b);go_simp;all_goals with_reducible rfl
    try simp only [sqx,am]
    refine tkq 3 rfl (v:=?_) (aa ⟨by rfl,?qy3⟩) ?_
    case qy3=>intro w b;(try dsimp only at b);go_simp;all_goals with_reducible rfl
    try simp only [sqx,am]
    refine tkq 4 rfl (v:=?_) (aa ⟨by rfl,?qy4⟩) ?_
    case qy4=>intro w b;(try dsimp only at b);go_simp;all_goals with_reducible rfl
    try simp only [sqx,am]
    refine tkq 6 rfl (v:=.agg Y) (j7 (by rfl) _ _ rfl _ _ rfl Y yl _ (fun _ h=>h) HY underlying48 rfl d6) ?_
    try simp only [sqx,am]
    refine wpAnyH_ready (rs:=[5,7]) (by kernel_rfl) (by simp) ?_;refine an rfl (fun K o=>?_) (an rfl (fun K o=>?_) ao)
    ·have F:=rm58 (G.out (aj _ _).drew).sub hl ht;go_simp;refine o.out _ _ b9 (fun d=>?_);clear o K F
     try simp only [sqx,am]
     refine wpAnyH_ready (rs:=[7]) (by kernel_rfl) (by simp) ?_;refine an rfl (fun K o=>?_) ao;have N:=c7.out;refine ze rfl 109 1 #[(0,.tmp 60)] rfl (a4.out _) (by simp [al,am]) ?_;refine o.out _ _ (R.out _ N) (fun d=>?_);clear o K
     try simp only [sqx,am]
     refine wpAnyH_ready (rs:=[8]) (by kernel_rfl) (by simp) ?_;refine an rfl (fun K o=>?_) ao;go_simp
     with_reducible refine (a1.out 0).mono ?_
     rintro e V5 ⟨J,rn,I,rfl,hD⟩
     try go_wp2_with fail
     obtain ⟨B,P,E⟩:=hD.dlb;have k:=Q.out;have z:=k.trans (E.below.mono k.size);have O:=(G.out k).more E;refine o.out _ _ (R.out _ z) (fun d=>?_);clear o K
     try simp only [sqx,am]
     refine tkq 9 rfl (v:=?_) (aa ⟨by rfl,?qby9⟩) ?_
     case qby9=>intro w b;(try dsimp only at b);go_simp;all_goals with_reducible rfl
     try simp only [sqx,am]
     refine tkq 10 rfl (v:=?_) (aa ⟨by rfl,?qby10⟩) ?_
     case qby10=>intro w b;(try dsimp only at b);go_simp;all_goals with_reducible rfl
     try simp only [sqx,am]
     refine tkq 11 rfl (v:=?_) (aa ⟨by rfl,?qby11⟩) ?_
     case qby11=>intro w b;(try dsimp only at b);go_simp;all_goals with_reducible rfl
     try simp only [sqx,am]
     refine wpAnyH_ready (rs:=[12]) (by kernel_rfl) (by simp) ?_;refine an rfl (fun K o=>?_) ao;have q:Mem w V5 (bxM pm ver c u t (.slice sa zn sm) true::(B++L)):=Mem.sub (p:=(g3,.cells Y 48)) (O.perm (pcS B _ _ L));have F:=rm58 q hl ht;have a7:=q.free 0 rfl 58;have a9:Hid (Mem w (V5.setCell ⟨pm,58,none⟩ (.slice J rn I)) (bxM pm ver c u { t with ten:=app t.ten [y.1] } (.slice J rn I) true::(B++L))):=rmU q hl ht (.slice J rn I) _;go_simp;refine o.out _ _ (jbh (R.out _ z) c9.out) (fun d=>?_);clear o K F a7
     try simp only [sqx,am]
     refine wpAnyH_done (by kernel_rfl) ?_ _;have b0:Hid (DlB (.slice J rn I) (apz zs [y]) B):=P;clear G a1 a4 R P E O q z hD HY;go_wp2_with fail;go_ret;exact ab ⟨c3.out,rfl,_,B,⟨J,rn,I,rfl⟩,b0.out,a9.out⟩
    ·have N:=c7.out;refine ze rfl 109 1 #[(0,.tmp 60)] rfl (a4.out _) (by simp [al,am]) ?_;refine o.out _ _ (R.out _ N) (fun d=>?_);clear o K
     try simp only [sqx,am]
     refine wpAnyH_ready (rs:=[5]) (by kernel_rfl) (by simp) ?_;refine an rfl (fun K o=>?_) ao;have b7:=rm58 (G.out (show Below r.heap.size r (r.alloc (.cells Y 48)) from (aj _ _).alloc (ac _) _)).sub hl ht;have F:=rm58 (G.out N).sub hl ht;go_simp;refine o.out _ _ (R.out _ N) (fun d=>?_);clear o K F
     try simp only [sqx,am]
     clear b7;refine wpAnyH_ready (rs:=[8]) (by kernel_rfl) (by simp) ?_;refine an rfl (fun K o=>?_) ao;go_simp
     with_reducible refine (a1.out 0).mono ?_
     rintro e V5 ⟨J,rn,I,rfl,hD⟩
     try go_wp2_with fail
     obtain ⟨B,P,E⟩:=hD.dlb;have k:=Q.out;have z:=k.trans (E.below.mono k.size);have O:=(G.out k).more E;refine o.out _ _ (R.out _ z) (fun d=>?_);clear o K
     try simp only [sqx,am]
     refine tkq 9 rfl (v:=?_) (aa ⟨by rfl,?qcy9⟩) ?_
     case qcy9=>intro w b;(try dsimp only at b);go_simp;all_goals with_reducible rfl
     try simp only [sqx,am]
     refine tkq 10 rfl (v:=?_) (aa ⟨by rfl,?qcy10⟩) ?_
     case qcy10=>intro w b;(try dsimp only at b);go_simp;all_goals with_reducible rfl
     try simp only [sqx,am]
     refine tkq 11 rfl (v:=?_) (aa ⟨by rfl,?qcy11⟩) ?_
     case qcy11=>intro w b;(try dsimp only at b);go_simp;all_goals with_reducible rfl
     try simp only [sqx,am]
     refine wpAnyH_ready (rs:=[12]) (by kernel_rfl) (by simp) ?_;refine an rfl (fun K o=>?_) ao;have q:Mem w V5 (bxM pm ver c u t (.slice sa zn sm) true::(B++L)):=Mem.sub (p:=(g3,.cells Y 48)) (O.perm (pcS B _ _ L));have F:=rm58 q hl ht;have a7:=q.free 0 rfl 58;have a9:Hid (Mem w (V5.setCell ⟨pm,58,none⟩ (.slice J rn I)) (bxM pm ver c u { t with ten:=app t.ten [y.1] } (.slice J rn I) true::(B++L))):=rmU q hl ht (.slice J rn I) _;go_simp;refine o.out _ _ (jbh (R.out _ z) c9.out) (fun d=>?_);clear o K F a7
     try simp only [sqx,am]
     refine wpAnyH_done (by kernel_rfl) ?_ _;have b0:Hid (DlB (.slice J rn I) (apz zs [y]) B):=P;clear G a1 a4 R P E O q z hD HY;go_wp2_with fail;go_ret;exact ab ⟨c3.out,rfl,_,B,⟨J,rn,I,rfl⟩,b0.out,a9.out⟩
end
end
section
open Go.RowKit Va
open La (adr j4p)
namespace Va
abbrev sc (f:Int) (ts:List Ten):Cgf:=⟨adr 10 9 0 200,[2,1,0,0,0,0],[2,2,0,0,0,0],[2,3,0,0,0,0],[200,0,0,0,0,0,0,0],f,ts⟩
theorem jq3 (f:Int) (ts:List Ten):CLen (sc f ts):=⟨rfl,rfl,rfl,rfl⟩
theorem jjr (a b:Nat):lss ⟨#[ap (97+a % 8)]⟩ ⟨#[ap (97+b % 8)]⟩=decide (a % 8<b % 8):=by
 have key:∀ m n:Fin 8,Op.bytesLess [ap (97+m.val)] [ap (97+n.val)]=decide (m.val<n.val):=by decide
 unfold lss;rw [Lib.toList_data,Lib.toList_data];exact key ⟨a % 8,by omega⟩ ⟨b % 8,by omega⟩
theorem getD_some {ts:List Ten} {t:Ten} (h:ts[i]?=some t):ts.getD i ten0=t:=by simp [List.getD,h]
theorem jbq {ts:List Ten} {o:Ten} (h:o∈ts.take i):∃ j,j<i/\ts[j]?=some o:=by
 obtain ⟨j,b,e⟩:=List.mem_iff_getElem.mp h;have a:j<i/\j<ts.length:=by simp at b;omega
 refine ⟨j,a.1,?_⟩;rw [ag a.2];simp at e;rw [e]
theorem SQ.own {t:Ten} (h:SQ i t) (hx:x∈t.pool++snd' t.stat):x=adr 5 5 i 1\/x=adr 5 5 i 2\/x=adr 5 6 i 9:=by
 rcases List.mem_append.mp hx with hx|hx
 ·rcases h.pool x hx with e|e
  ·exact aa e
  ·exact ab (aa e)
 ·obtain ⟨p,a,rfl⟩:=ah.mp hx;rw [h.stat p a];exact ab (ab rfl)
theorem SQ.place {ts:List Ten} {t:Ten} (hi:i<8) (d:ts[i]?=some t) (h:SQ i t) (g:∀ j o,j<i->ts[j]?=some o->SQ j o):POk (sc f ts) i:=by
 have e:=getD_some d;refine ⟨by show TOk (ts.getD i ten0);rw [e];exact h.ok,?_,fun o a=>?_⟩
 ·by_cases h0:i=0
  ·exact aa h0
  ·right;obtain ⟨o,a⟩:∃ o,ts[i-1]?=some o:=⟨_,ag (by have:=(List.getElem?_eq_some_iff.mp d).1;omega)⟩;show lss (ts.getD (i-1) ten0).name (ts.getD i ten0).name=true;rw [e,getD_some a,h.name,(g (i-1) o (by omega) a).name,jjr];exact decide_eq_true (by omega)
 ·obtain ⟨j,k,b⟩:=jbq a;show o.vni≠(ts.getD i ten0).vni;rw [e,h.vni,(g j o k b).vni];omega
theorem jku {ts:List Ten} (s:f<=1000) (z:ts.length<=8) (h:∀ j t,ts[j]?=some t->SQ j t):chk (sc f ts)=0:=by
 refine jrz ⟨by show adr 10 9 0 200≠0;decide,s,by show ts.length<=16;omega⟩ (fun i hi=>?_);have p:i<ts.length:=hi;obtain ⟨t,g⟩:∃ t,ts[i]?=some t:=⟨_,ag p⟩;have q:=h i t g;refine (q.place (by omega) g (fun j o _ k=>h j o k)).none hi (fun x hx=>?_);have d:x∈t.pool++snd' t.stat:=by have:=getD_some g;rw [<-this];exact hx
 have a:=q.own d;refine ⟨fun e=>?_,fun o k r=>?_⟩
 ·have y:x=adr 10 9 0 200:=e;simp only [adr] at a y;omega
 ·obtain ⟨j,A,m⟩:=jbq k;have b:=(h j o m).own r;simp only [adr] at a b;omega
end Va
theorem jt6 {c:Cgf} {a:List Ty} (e:CLen c) (o:a.map (fun y=>y.1.1)=c.ten) (m:OwB 46 33 u a.length (a.map (fun y=>zc y.1)).flatten B) (j:∀ y∈a,ZB y.1 C) (g:Mem w X (B++C)):CV X (.agg (cc c u).toArray) c:=by
 have h:=jou (u:=u) e (B:=B) (C:=C) ⟨a.map (·.1),by rw [ai];exact o,by rw [ae,ai];exact m,fun z d=>by obtain ⟨y,k,rfl⟩:=ah.mp d;exact j y k⟩ g;exact h w X (ac _) g.below (fun b _ _=>rfl)
theorem jsp {a:List Ty} (h:∀ y∈a,ZX y.1 y.2) (hs:∀ x∈a.flatMap (·.2),x∈C):∀ y∈a,ZB y.1 C:=fun y b=>(h y b).zb (fun x hx=>hs x (List.mem_flatMap.mpr ⟨y,b,hx⟩))
end
section
open Go.RowKit Sm Cf Df
theorem jp8 {c:Cgf} (e:CLen c) (u:Value) (ver:Int) (V:World):(Instr.build stS #[(0,.int .u64 ver),(1,.agg (cc c u).toArray)]).run prog V=.ok (.agg (Value.int .u64 ver::cc c u).toArray) V:=by
 obtain ⟨z,r,q,p,s,I,o⟩:=c;obtain ⟨m,k,j,h⟩:=e;obtain ⟨a,b,c,d,f,g,x,y,rfl⟩:=kt h;obtain ⟨Z,S,P,M,H,E,rfl⟩:=six6 m;obtain ⟨U,R,O,K,G,D,rfl⟩:=six6 k;obtain ⟨T,Q,N,J,F,A,rfl⟩:=six6 j;kernel_rfl
theorem jpb {c:Cgf} (e:CLen c) (u:Value) (ver:Int) (pl:Nat) (V:World):(Instr.build stT #[(0,.pointer (some ⟨pl,0,none⟩)),(1,.agg (Value.int .u64 ver::cc c u).toArray)]).run prog V=.ok (.agg (xA pl ver c u none false).toArray) V:=by
 obtain ⟨z,r,q,p,s,I,o⟩:=c;obtain ⟨m,k,j,h⟩:=e;obtain ⟨a,b,c,d,f,g,x,y,rfl⟩:=kt h;obtain ⟨Z,S,P,M,H,E,rfl⟩:=six6 m;obtain ⟨U,R,O,K,G,D,rfl⟩:=six6 k;obtain ⟨T,Q,N,J,F,A,rfl⟩:=six6 j;kernel_rfl
def Rst (all:List (List Int)) (ver:Int) (c:Cgf):Prop:=(all=[]/\ver=0/\c=cfg0)\/(all.getLast?=some (jt ver c)/\0<=ver/\ver<1000000/\Fine c/\(jt ver c).length<=16384)
theorem ja7 {a:List (List Int)} (h:Ends a all) (k:all≠[]):a.getLast?=all.getLast?:=by
 obtain ⟨m,j,d⟩:=h;have g:a≠[]:=fun e=>k (j e);rw [d,List.getLast?_drop,if_neg];intro b;apply g;rw [d];exact List.drop_eq_nil_of_le b
theorem jsz {a:List (List Int)} (h:RS v a Y) (d:Ends a all) (k:∀ x∈Y,w.heap[x.1]?=some x.2) (j:all.length<=900) {c:Cgf} (m:Rst all ver c) :
 Calls prog 42 #[v] w (RdP w ver c):=by
 rcases m with ⟨rfl,rfl,rfl⟩|⟨h1,h2,h3,h4,h5⟩
 ·have g:a=[]:=by have:=d.1;simp at this;exact this
  subst g;obtain ⟨rfl,rfl⟩:=jq8 h;refine (jjw w).mono ?_;rintro e V ⟨rfl,hb⟩;refine ⟨nilV,[],rfl,⟨hb,by simp,by simp,by simp⟩,fun o _ V _ _=>⟨yw,nilV,rfl,[],rfl,⟨none,0,rfl,ac _,by omega,fun _=>rfl,aa rfl⟩,by simp⟩⟩
 ·have b:all≠[]:=fun e=>by rw [e] at h1;simp at h1
  have:=jgg h k ((ja7 d b).trans h1) (by omega) (by have:=d.1;omega) (by rw [j9o];omega) (jj4 h4);rw [jj2,jnv h2 (by omega)] at this;exact this
theorem jqq {W:World} {p h m N:Nat} {D:Dk} {B:Int} (H:Sd w W p h m N D B all L) (hG:Gl w ga) (hd:D.dead=false) (hn:4<=N) (hm:256<=m) (hB:B<=1000000) (a9:0<=B) (a8:all.length<=900) {c:Cgf} (hR:Rst all ver c) :
 Calls prog 11 #[.pointer (some ⟨p,0,none⟩)] W fun e W'=>∃ ps,e=.returned (.tuple #[.pointer (some ⟨ps,0,none⟩),.int .i64 0])/\∃ pl u K,Sy w W' p h m N D pl B all (bxS ps pl ver c u none false::(K++L))/\On w K (fun X=>TSV X u c.ten)/\Below W.heap.size W W':=by
 have C:=jio H hG hd hn hm hB a9;have HR:Hid (Rst all ver c/\all.length<=900):=⟨hR,a8⟩;clear H hG hR;go_enter func11,ntmps11;go_wp2_with fail;refine C.mono ?_;rintro e V1 ⟨pl,v',rfl,b0,Y,G,hE,F,T⟩;have o:Hid (Below W.heap.size W V1):=T;obtain ⟨a0,c0,O⟩:=G.shape;have CL:=jsz G hE (fun x hx=>F.has (List.mem_append_left _ hx)) HR.out.2 HR.out.1;obtain ⟨R,a1,j⟩:=F.frame;have HB:Hid (∀ W' L',Mem w W' (L'++R)->Sy w W' p h m N D pl B all L'):=j;have HM:Hid (Mem w V1 ((Y++L)++R)):=a1;have C2:=jk 0 V1;have hz0:((0:Int) != 0)=false:=rfl;obtain ⟨gl,a6⟩:∃ n,b0.length=n:=⟨_,rfl⟩;rw [a6] at O;subst O;clear C G hE F a1 j HR T;go_wp2_with fail;refine C2.mono ?_;rintro e _ ⟨rfl,rfl⟩;go_wp2_with fail;refine CL.mono ?_;rintro e I ⟨u,K,rfl,b,s⟩;have a2:=HM.out.more b;have y:=s V1 (ac _) I b.below (fun x hx=>b.at_ x hx);have z:=y.1;have r:∀ X,CV X (.agg (cc c u).toArray) c->TSV X u c.ten:=by
  intro X Z;obtain ⟨u',e,h'⟩:=Z.2;have:u=u':=by
   have e2:=congrArg (fun v=>match v with | .agg a=>a[28]? | _=>none) e;simp only [j50 z,Option.some.injEq] at e2;exact e2
  rw [this];exact h'
 have hu:=(r _ y).one;have a5:w.heap.size<=V1.heap.size:=HM.out.below.size;have a3:Hid (On w K (fun X=>TSV X u c.ten)):=(s w a5).imp r;obtain ⟨A,hA⟩:∃ A,(Value.int .u64 ver::cc c u).toArray=A:=⟨_,rfl⟩;have M:A.size=30:=by rw [<-hA];simp [je z]
 have P:A.all (·.oneCell')=true:=by rw [<-hA];exact j53 ver hu
 have J:(prog.info? stS).map (·.size)=some A.size:=by rw [M];kernel_rfl
 have z30:s0A.size=A.size:=by rw [M];rfl
 have E:∀ V,(Instr.build stT #[(0,.pointer (some ⟨pl,0,none⟩)),(1,.agg A)]).run prog V=.ok (.agg (xA pl ver c u none false).toArray) V:=fun V=>by rw [<-hA];exact jpb z u ver pl V
 obtain ⟨X,Z⟩:∃ X,(xA pl ver c u none false).toArray=X:=⟨_,rfl⟩;simp only [Z] at E;obtain ⟨k,d⟩:∃ g,I.heap.size=g:=⟨_,rfl⟩;have Q:(I.alloc (.cells s0A stS)).heap[k]?=some (.cells s0A stS (0,0)):=by rw [<-d];exact heap_alloc_new _ _
 have a4:Hid (Mem w ((I.alloc (.cells s0A stS)).setRow k A) ((k,.cells A stS (0,0))::(K++((Y++L)++R)))/\Below W.heap.size W ((I.alloc (.cells s0A stS)).setRow k A)):=by
  have S:=o.out.trans (b.below.mono o.out.size);rw [<-d,ak];exact ⟨a2.front _ rfl,S.alloc S.size _⟩
 rw [hA];have b1:Hid (Below W.heap.size W I):=o.out.trans (b.below.mono o.out.size);clear b a2 s y r HM CL C2 hA o;go_upto_region 5 with (refine wpList_store_row rfl stS (.tmp 7) (.tmp 21) (by with_reducible rfl) k A (by simp [al];try exact d) (by first|rfl|simp [al]) stS s0A Q J z30 P ?_)
 refine j5 (fun X=>Mem w X ((k,.cells A stS (0,0))::(K++((Y++L)++R)))/\Below W.heap.size W X) (by exact a4.out) ?_;rintro q ⟨hM,U⟩
 try simp only [d]
 clear a4 Q d;have k7:=hM.get 0 rfl;have C3:=jk 0 q;have hS:Sy w (q.alloc (.cells X stT)) p h m N D pl B all (bxS q.heap.size pl ver c u none false::(((k,.cells A stS (0,0))::(K++Y))++L)):=by
  apply HB.out;refine (show Mem w (q.alloc (.cells X stT)) ((q.heap.size,.cells X stT (0,0))::(k,.cells A stS (0,0))::(K++((Y++L)++R))) from hM.front _ rfl).perm ?_;rw [bxS,Z];simp only [List.cons_append,List.append_assoc];exact List.Perm.refl _
 have HS:Hid (Sy w (q.alloc (.cells X stT)) p h m N D pl B all (bxS q.heap.size pl ver c u none false::(((k,.cells A stS (0,0))::(K++Y))++L))/\On w ((k,.cells A stS (0,0))::(K++Y)) (fun X=>TSV X u c.ten)/\Below W.heap.size W (q.alloc (.cells X stT))):=⟨hS,a3.out.more fun x hx=>by simp [hx],U.alloc U.size _⟩;have a7:=E q;clear hM hS HB a3 Z E;go_wp2_with fail;refine C3.mono ?_;rintro e _ ⟨rfl,rfl⟩;go_wp2_with (first|(refine wpList_load_row rfl stS (.tmp 7) (by with_reducible rfl) k (by first|rfl|simp [al]) stS A (0,0) _ k7 underlying96 rfl J ?_)|(refine yy rfl stT _ (by with_reducible rfl) a7 (by simp [al,am]) ?_)|fail)
 go_ret2;exact ⟨_,rfl,pl,u,_,HS.out.1,HS.out.2.1,HS.out.2.2⟩
end
end Go.Proofs.YtdigofgjhaakmaaGreatDoor
