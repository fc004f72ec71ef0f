/- Parts of the proof. -/
import Derived.Test.YtdigofgjhaakmaaGreatDoorF14
set_option linter.all false
set_option maxHeartbeats 40000000
set_option maxRecDepth 20000
open Go.Proofs.Tryz
open Go.Value renaming int->aa
open Or renaming inr->ab,inl->ac
open Nat renaming zero_add->ad,le_refl->ae,le_trans->af
open Go.Obj renaming cells->ag
open List renaming append_nil->ah,mem_cons_of_mem->ai,getElem?_eq_getElem->aj,getD->ak,append_assoc->al,mem_append_right->am,replicate->an,length_map->ao,length_replicate->ap
open Go.Act renaming eval->aq,put->ar
open Go.IntKind renaming u8->au,u16->av,i64->aw,wrap_i64->ax
open Go.AllReadyH renaming cons->ay,nil->az
namespace Go.Proofs.YtdigofgjhaakmaaGreatDoor
variable {L:List (Nat×Obj)} {v:Value} {w W V:World} {xs:List Value} {l k:List Int} {T t:TypeId} {n g:Nat} {a:Option Addr} {o:Obj}
section
open Go.RowKit Sm Cf
theorem Ob.add (h:Ob w W v l L n) (b:g=W.heap.size):Ob w (W.alloc o) v l ((g,o)::L) n:=⟨h.1.add b,h.2⟩
theorem Ob.drop {p:Nat×Obj} (h:Ob w W v l (p::L) n):Ob w W v l L n:=⟨h.1.drop,h.2⟩
theorem j9f (d:Mem w V ((g,.cells (k.map (aa .u8)).toArray t (0,0))::L)) (c:j6 k) (b:k.length<=140737488351232):Row V (some ⟨g,0,none⟩) k :=
 ⟨c,b,ab ⟨g,0,rfl,fun i hi=>by rw [ad,d.cell 0 rfl];simp [hi]⟩⟩
def j2s (t:Ten):List Int:=cat (fun i=>(tsp.getD i sp0).enc t) 13
theorem j5o (t:Ten):j2s t=(((((((((((([]++nm t.name)++be 4 t.vni)++t.key)++be 4 t.vtep)++t.vmac)++t.host)++be 2 t.lo)++be 2 t.hi)++be 1 t.filter)++be 2 t.sess)++be 2 t.queue)++be 4 t.rate)++be 4 t.burst:=rfl
theorem j5p (t:Ten):tenc t=(((j2s t++[((min t.pool.length 255:Nat):Int),((min t.stat.length 255:Nat):Int),((min t.twi.length 255:Nat):Int)])++cat (fun i=>be 4 (t.pool.getD i 0)) (min t.pool.length 255))++cat (fun i=>spP.enc (t.stat.getD i (0,0))) (min t.stat.length 255))++cat (fun i=>spP.enc (t.twi.getD i (0,0))) (min t.twi.length 255):=by
 have:j2s t++[((min t.pool.length 255:Nat):Int),((min t.stat.length 255:Nat):Int),((min t.twi.length 255:Nat):Int)]=((j2s t++[((min t.pool.length 255:Nat):Int)])++[((min t.stat.length 255:Nat):Int)])++[((min t.twi.length 255:Nat):Int)]:=by simp
 rw [this];rfl
theorem j99 {t:Ten} (h:TV w v t) (hi:TIn t) :
  Calls prog 100 #[v] w fun e w'=>∃ u,e=.returned u/\Ob w w' u (tenc t) [] 5500:=by
 obtain ⟨z,p,s,q,rfl,h1,h2,h3⟩:=h;obtain ⟨g,hg⟩:∃ g,w.heap.size=g:=⟨_,rfl⟩;have f6:Mem w (w.alloc (.cells (tc t p s q).toArray 46)) [(g,.cells (tc t p s q).toArray 46)]:=(Mem.nil w).push1 hg.symm;have HI:=fun K (G:(g,ag ([]++(tc t p s q++[])).toArray 46)∈K)=>jso (w:=w) hi h1 h2 h3 G;simp only [List.nil_append,ah,List.length_nil] at HI;have o7:Hid (∀ K,(g,ag (tc t p s q).toArray 46)∈K->∀ V,Mem w V K->IT t (p,s,q) V g 0):=HI;have g7:∀ o v,(tc t p s q)[o]?=some v->∀ K,(g,ag (tc t p s q).toArray 46)∈K->∀ V,Mem w V K->V.cell? ⟨g,o,none⟩=some v:=by
  intro o v hv K G V E;have:=(HI K G V E).cell o hv;rwa [ad] at this
 have gt:∀ o v,(∀ n vn a b c d f g x y vt Z b1 c1 d1 P g1 Y b2 c2 d2 f2 g2 po lo hi fi st tw se qu ra bu,t=⟨n,vn,[a,b,c,d,f,g,x,y],vt,[Z,b1,c1,d1,P,g1],[Y,b2,c2,d2,f2,g2],po,lo,hi,fi,st,tw,se,qu,ra,bu⟩->(tc t p s q)[o]?=some v)->∀ K,(g,ag (tc t p s q).toArray 46)∈K->∀ V,Mem w V K->V.cell? ⟨g,o,none⟩=some v:=fun o v hv=>g7 o v (tget z hv);have D0:Hid _:=gt 0 (.string t.name) (by rintro n vn a b c d f g x y vt Z b1 c1 d1 P g1 Y b2 c2 d2 f2 g2 po lo hi fi st tw se qu ra bu rfl;rfl);have D1:Hid _:=gt 1 (.int .u32 t.vni) (by rintro n vn a b c d f g x y vt Z b1 c1 d1 P g1 Y b2 c2 d2 f2 g2 po lo hi fi st tw se qu ra bu rfl;rfl);have i6:Hid _:=gt 10 (.int .u32 t.vtep) (by rintro n vn a b c d f g x y vt Z b1 c1 d1 P g1 Y b2 c2 d2 f2 g2 po lo hi fi st tw se qu ra bu rfl;rfl);have i5:Hid _:=gt 23 p (by rintro n vn a b c d f g x y vt Z b1 c1 d1 P g1 Y b2 c2 d2 f2 g2 po lo hi fi st tw se qu ra bu rfl;rfl);have i4:Hid _:=gt 24 (.int .u16 t.lo) (by rintro n vn a b c d f g x y vt Z b1 c1 d1 P g1 Y b2 c2 d2 f2 g2 po lo hi fi st tw se qu ra bu rfl;rfl);have i3:Hid _:=gt 25 (.int .u16 t.hi) (by rintro n vn a b c d f g x y vt Z b1 c1 d1 P g1 Y b2 c2 d2 f2 g2 po lo hi fi st tw se qu ra bu rfl;rfl);have i2:Hid _:=gt 26 (.int .i64 t.filter) (by rintro n vn a b c d f g x y vt Z b1 c1 d1 P g1 Y b2 c2 d2 f2 g2 po lo hi fi st tw se qu ra bu rfl;rfl);have i1:Hid _:=gt 27 s (by rintro n vn a b c d f g x y vt Z b1 c1 d1 P g1 Y b2 c2 d2 f2 g2 po lo hi fi st tw se qu ra bu rfl;rfl);have i0:Hid _:=gt 28 q (by rintro n vn a b c d f g x y vt Z b1 c1 d1 P g1 Y b2 c2 d2 f2 g2 po lo hi fi st tw se qu ra bu rfl;rfl);have h9:Hid _:=gt 29 (.int .i64 t.sess) (by rintro n vn a b c d f g x y vt Z b1 c1 d1 P g1 Y b2 c2 d2 f2 g2 po lo hi fi st tw se qu ra bu rfl;rfl);have h8:Hid _:=gt 30 (.int .i64 t.queue) (by rintro n vn a b c d f g x y vt Z b1 c1 d1 P g1 Y b2 c2 d2 f2 g2 po lo hi fi st tw se qu ra bu rfl;rfl);have h7:Hid _:=gt 31 (.int .u32 t.rate) (by rintro n vn a b c d f g x y vt Z b1 c1 d1 P g1 Y b2 c2 d2 f2 g2 po lo hi fi st tw se qu ra bu rfl;rfl);have h6:Hid _:=gt 32 (.int .u32 t.burst) (by rintro n vn a b c d f g x y vt Z b1 c1 d1 P g1 Y b2 c2 d2 f2 g2 po lo hi fi st tw se qu ra bu rfl;rfl);have RK:Hid (∀ K,(g,ag (tc t p s q).toArray 46)∈K->∀ V,Mem w V K->Row V (some ⟨g,2,none⟩) t.key/\Row V (some ⟨g,11,none⟩) t.vmac/\Row V (some ⟨g,17,none⟩) t.host):=by
  intro K G V E;have h:=HI K G V E;have Z:=h.row 2 t.key hi.key (by rw [z.key];omega) [.string t.name,.int .u32 t.vni] _ rfl rfl;have Y:=h.row 11 t.vmac hi.vmac (by rw [z.vmac];omega) (.string t.name::.int .u32 t.vni::(t.key.map (aa .u8)++[.int .u32 t.vtep])) (t.host.map (aa .u8)++ttl t p s q) (by simp [z.key]) (by simp [tc,ttl]);have a3:=h.row 17 t.host hi.host (by rw [z.host];omega) (.string t.name::.int .u32 t.vni::(t.key.map (aa .u8)++.int .u32 t.vtep::t.vmac.map (aa .u8))) (ttl t p s q) (by simp [z.key,z.vmac]) (by simp [tc,ttl]);rw [ad] at Z Y a3;exact ⟨Z,Y,a3⟩
 have HL:Hid (t.key.length=8/\t.vmac.length=6/\t.host.length=6):=⟨z.key,z.vmac,z.host⟩;have HT:Hid (tenc t=_):=j5p t;have HH:Hid (j2s t=_):=j5o t;have HR:Hid (Rw w 1 p (ux t.pool)/\Rw w 2 s (px t.stat)/\Rw w 2 q (px t.twi)):=⟨h1,h2,h3⟩;have HN:Hid (t.pool.length<=1000000/\t.stat.length<=1000000/\t.twi.length<=1000000):=⟨hi.pool,hi.stat,hi.twi⟩;clear HI g7 gt o7 h1 h2 h3 z hi;generalize (tc t p s q).toArray=tl at *;obtain ⟨A,f7⟩:∃ A:List (Nat×Obj),A=[(g,.cells tl 46)]:=⟨_,rfl⟩;rw [<-f7] at f6;have G:(g,ag tl 46)∈A:=by rw [f7];simp
 have g4:∀ x,(g,ag tl 46)∈x::A:=fun x=>ai _ G;have HM:Hid ((g,ag tl 46)∈A):=G;have J:Hid (∀ x,(g,ag tl 46)∈x::A):=g4;have d5:Hid (∀ V,Mem w V A->V.cell? ⟨g,0,none⟩=some (.string t.name)/\V.cell? ⟨g,1,none⟩=some (.int .u32 t.vni)):=fun V E=>⟨D0.out _ G V E,D1.out _ G V E⟩;have d4:Hid (∀ V,Mem w V A->V.cell? ⟨g,10,none⟩=some (.int .u32 t.vtep)):=fun V E=>i6.out _ G V E;have C:Hid (∀ K,(g,ag tl 46)∈K->∀ V,Mem w V K->V.cell? ⟨g,24,none⟩=some (.int .u16 t.lo)/\V.cell? ⟨g,25,none⟩=some (.int .u16 t.hi)/\V.cell? ⟨g,26,none⟩=some (.int .i64 t.filter)):=fun K G V E=>⟨i4.out _ G V E,i3.out _ G V E,i2.out _ G V E⟩;have d0:Hid (∀ V,Mem w V A->V.cell? ⟨g,29,none⟩=some (.int .i64 t.sess)/\V.cell? ⟨g,30,none⟩=some (.int .i64 t.queue)):=fun V E=>⟨h9.out _ G V E,h8.out _ G V E⟩;have c9:Hid (∀ V,Mem w V A->V.cell? ⟨g,31,none⟩=some (.int .u32 t.rate)/\V.cell? ⟨g,32,none⟩=some (.int .u32 t.burst)):=fun V E=>⟨h7.out _ G V E,h6.out _ G V E⟩;have a7:Hid (∀ V,Mem w V A->V.cell? ⟨g,23,none⟩=some p/\V.cell? ⟨g,27,none⟩=some s/\V.cell? ⟨g,28,none⟩=some q):=fun V E=>⟨i5.out _ G V E,i1.out _ G V E,i0.out _ G V E⟩;clear D0 D1 i6 i5 i4 i3 i2 i1 i0 h9 h8 h7 h6 G g4 f7;go_enter func100,ntmps100;go_upto_region 1 with fail;refine j5 (fun V=>Mem w V A) f6 ?_;intro V0 hM;clear f6;have g9:Hid (Ob w V0.drew (.slice none 0 0) [] A 0):=⟨Out.nil hM.drew,ae _⟩;obtain ⟨c0,c1⟩:=d5.out _ hM
 go_region_held3 (fun V=>V.cell? ⟨g,0,none⟩=some (.string t.name)/\V.cell? ⟨g,1,none⟩=some (.int .u32 t.vni)) (first|go_keep|exact d5.out _ a6.mem|exact d5.out _ e9.mem)
  (first
   | (go_at_call 131;with_reducible refine (jfe g9.out t.name (by omega)).mono ?_;rintro e W1 ⟨v1,rfl,a6⟩)
   | (go_at_call 99;with_reducible refine (ki a6 t.vni (by omega)).mono ?_;rintro e W2 ⟨v2,rfl,e9⟩)
   | fail)
 have d8:Hid (Ob w W2 v2 (([]++nm t.name)++be 4 t.vni) A 260):=e9;clear a6 e9 g9 c0 c1 hM d5;have o0:=d4.out _ d8.out.mem;go_upto_region 2 with fail
 go_region_held3 (fun V=>V.cell? ⟨g,10,none⟩=some (.int .u32 t.vtep)) (first|go_keep|exact d4.out _ e8.mem|exact d4.out _ e7.mem)
  (first
   | (refine q7 rfl (.tmp 11) (.tmp 13) rfl (by simp [aq]) ⟨g,2,none⟩ 8 8 (by simp [aq]) d8.out.drew t.key HL.out.1 (RK.out _ HM.out _ d8.out.drew.mem).1 (by omega) ?_;intro v3 W3 e8)
   | (go_at_call 99;with_reducible refine (ki e8 t.vtep (by omega)).mono ?_;rintro e W4 ⟨v4,rfl,e7⟩)
   | fail)
 have f9:Hid (Ob w W4 v4 (((([]++nm t.name)++be 4 t.vni)++t.key)++be 4 t.vtep) A 272):=e7;clear e8 e7 d8 o0 d4;go_upto_region 3 with fail
 go_region_held3 (fun V=>True) (trivial)
  (first
   | (refine q7 rfl (.tmp 18) (.tmp 20) rfl (by simp [aq]) ⟨g,11,none⟩ 6 6 (by simp [aq]) f9.out.drew t.vmac HL.out.2.1 (RK.out _ HM.out _ f9.out.drew.mem).2.1 (by omega) ?_;intro v5 W5 e6)
   | (refine q7 rfl (.tmp 21) (.tmp 23) rfl (by simp [aq]) ⟨g,17,none⟩ 6 6 (by simp [aq]) e6 t.host HL.out.2.2 (RK.out _ HM.out _ e6.mem).2.2 (by omega) ?_;intro v6 W6 g5)
   | fail)
 have a9:Hid (Ob w W6 v6 (((((([]++nm t.name)++be 4 t.vni)++t.key)++be 4 t.vtep)++t.vmac)++t.host) A 284):=g5;clear e6 g5 f9 RK;obtain ⟨l6,e5⟩:∃ l6,(((((([]++nm t.name)++be 4 t.vni)++t.key)++be 4 t.vtep)++t.vmac)++t.host)=l6:=⟨_,rfl⟩;have h4:Hid (j2s t=((((((l6++be 2 t.lo)++be 2 t.hi)++be 1 t.filter)++be 2 t.sess)++be 2 t.queue)++be 4 t.rate)++be 4 t.burst):=by rw [<-e5];exact HH.out
 rw [e5] at a9;clear e5 HH;obtain ⟨n9,n8,n7⟩:=C.out _ HM.out _ a9.out.mem;have P:au.wrap t.filter=t.filter % 256:=yo _;have HF:Hid (j6 [t.filter % 256]):=jq (ya _) ku;go_upto_region 4 with fail
 go_cut [3] from 25 (fun u3 w'=>Hid (Ob w w' u3 (((l6++be 2 t.lo)++be 2 t.hi)++be 1 t.filter) A 289))
 case first =>
  refine wp_region_held_drew (S:=fun V=>V.cell? ⟨g,24,none⟩=some (.int .u16 t.lo)/\V.cell? ⟨g,25,none⟩=some (.int .u16 t.hi)/\V.cell? ⟨g,26,none⟩=some (.int .i64 t.filter)) (by kernel_rfl) (C.out _ HM.out _ a9.out.drew.mem) (fun j=>?_);refine tkq 0 rfl (v:=?_) (ac ⟨by rfl,?ay0⟩) ?_
  case ay0=>intro w r;(try dsimp only at r);go_simp;all_goals with_reducible rfl
  try simp only [sqx,ar]
  refine tkq 1 rfl (v:=?_) (ac ⟨by rfl,?ay1⟩) ?_
  case ay1=>intro w r;(try dsimp only at r);go_simp;all_goals with_reducible rfl
  try simp only [sqx,ar]
  refine tkq 2 rfl (v:=?_) (ac ⟨by rfl,?ay2⟩) ?_
  case ay2=>intro w r;(try dsimp only at r);go_simp;all_goals with_reducible rfl
  try simp only [sqx,ar]
  refine tkq 4 rfl (v:=?_) (ac ⟨by rfl,?ay4⟩) ?_
  case ay4=>intro w r;(try dsimp only at r);go_simp;all_goals with_reducible rfl
  try simp only [sqx,ar]
  refine tkq 5 rfl (v:=?_) (ac ⟨by rfl,?ay5⟩) ?_
  case ay5=>intro w r;(try dsimp only at r);go_simp;all_goals with_reducible rfl
  try simp only [sqx,ar]
  refine tkq 7 rfl (v:=?_) (ac ⟨by rfl,?ay7⟩) ?_
  case ay7=>intro w r;(try dsimp only at r);go_simp;all_goals with_reducible rfl
  try simp only [sqx,ar]
  refine tkq 8 rfl (v:=?_) (ac ⟨by rfl,?ay8⟩) ?_
  case ay8=>intro w r;(try dsimp only at r);go_simp;all_goals with_reducible rfl
  try simp only [sqx,ar]
  refine tkq 9 rfl (v:=?_) (ac ⟨by rfl,?ay9⟩) ?_
  case ay9=>intro w r;(try dsimp only at r);go_simp;all_goals with_reducible rfl
  try simp only [sqx,ar]
  refine wpAnyH_ready (rs:=[3,10]) (by kernel_rfl) (by simp) ?_;refine ay rfl (fun K B=>?_) (ay rfl (fun K B=>?_) az)
  ·go_simp
   with_reducible refine (qp a9.out.drew t.lo (by omega)).mono ?_
   rintro e W7 ⟨v7,rfl,a5⟩
   try go_wp2_with fail
   refine B.out _ _ (C.out _ HM.out _ a5.mem) (fun j=>?_);clear B K
   try simp only [sqx,ar]
   refine wpAnyH_ready (rs:=[6,10]) (by kernel_rfl) (by simp) ?_;refine ay rfl (fun K B=>?_) (ay rfl (fun K B=>?_) az)
   ·go_simp
    with_reducible refine (qp a5 t.hi (by omega)).mono ?_
    rintro e W8 ⟨v8,rfl,F⟩
    try go_wp2_with fail
    refine B.out _ _ (C.out _ HM.out _ F.mem) (fun j=>?_);clear B K
    try simp only [sqx,ar]
    refine wpAnyH_ready (rs:=[10]) (by kernel_rfl) (by simp) ?_;refine ay rfl (fun K B=>?_) az;go_simp;refine B.out _ _ (C.out _ (J.out _) _ (F.add rfl).mem) (fun j=>?_);clear B K
    try simp only [sqx,ar]
    refine wpAnyH_ready (rs:=[11]) (by kernel_rfl) (by simp) ?_;refine ay rfl (fun K B=>?_) az;refine q7 rfl (.tmp 31) (.tmp 35) rfl (by simp [aq]) ⟨W8.heap.size,0,none⟩ 1 1 (by simp [aq]) (F.add rfl) [t.filter % 256] rfl (j9f (k:=[t.filter % 256]) (F.add rfl).mem HF.out (by simp)) (by omega) ?_;intro v9 W9 X;refine B.out _ _ (C.out _ (J.out _) _ X.mem) (fun j=>?_);clear B K
    try simp only [sqx,ar]
    refine tkq 12 rfl (v:=?_) (ac ⟨by rfl,?cy12⟩) ?_
    case cy12=>intro w r;(try dsimp only at r);go_simp;all_goals with_reducible rfl
    try simp only [sqx,ar]
    refine wpAnyH_done (by kernel_rfl) ?_ _;go_wp2_with fail;go_meet
    case rel=>exact (by rw [be1];exact X.drop:Ob w W9 v9 (((l6++be 2 t.lo)++be 2 t.hi)++be 1 t.filter) A 289)
   ·go_simp;refine B.out _ _ (C.out _ (J.out _) _ (a5.add rfl).mem) (fun j=>?_);clear B K
    try simp only [sqx,ar]
    refine wpAnyH_ready (rs:=[6]) (by kernel_rfl) (by simp) ?_;refine ay rfl (fun K B=>?_) az;go_simp
    with_reducible refine (qp (a5.add rfl) t.hi (by omega)).mono ?_
    rintro e W8 ⟨v8,rfl,F⟩
    try go_wp2_with fail
    refine B.out _ _ (C.out _ (J.out _) _ F.mem) (fun j=>?_);clear B K
    try simp only [sqx,ar]
    refine wpAnyH_ready (rs:=[11]) (by kernel_rfl) (by simp) ?_;refine ay rfl (fun K B=>?_) az;refine q7 rfl (.tmp 31) (.tmp 35) rfl (by simp [aq]) ⟨W7.heap.size,0,none⟩ 1 1 (by simp [aq]) (F) [t.filter % 256] rfl (j9f (k:=[t.filter % 256]) (F).mem HF.out (by simp)) (by omega) ?_;intro v9 W9 X;refine B.out _ _ (C.out _ (J.out _) _ X.mem) (fun j=>?_);clear B K
    try simp only [sqx,ar]
    refine tkq 12 rfl (v:=?_) (ac ⟨by rfl,?dy12⟩) ?_
    case dy12=>intro w r;(try dsimp only at r);go_simp;all_goals with_reducible rfl
    try simp only [sqx,ar]
    refine wpAnyH_done (by kernel_rfl) ?_ _;go_wp2_with fail;go_meet
    case rel=>exact (by rw [be1];exact X.drop:Ob w W9 v9 (((l6++be 2 t.lo)++be 2 t.hi)++be 1 t.filter) A 289)
  ·go_simp;refine B.out _ _ (C.out _ (J.out _) _ ((a9.out.add rfl).drew).mem) (fun j=>?_);clear B K
   try simp only [sqx,ar]
   refine wpAnyH_ready (rs:=[3]) (by kernel_rfl) (by simp) ?_;refine ay rfl (fun K B=>?_) az;go_simp
   with_reducible refine (qp (a9.out.add rfl).drew t.lo (by omega)).mono ?_
   rintro e W7 ⟨v7,rfl,a5⟩
   try go_wp2_with fail
   refine B.out _ _ (C.out _ (J.out _) _ a5.mem) (fun j=>?_);clear B K
   try simp only [sqx,ar]
   refine wpAnyH_ready (rs:=[6]) (by kernel_rfl) (by simp) ?_;refine ay rfl (fun K B=>?_) az;go_simp
   with_reducible refine (qp a5 t.hi (by omega)).mono ?_
   rintro e W8 ⟨v8,rfl,F⟩
   try go_wp2_with fail
   refine B.out _ _ (C.out _ (J.out _) _ F.mem) (fun j=>?_);clear B K
   try simp only [sqx,ar]
   refine wpAnyH_ready (rs:=[11]) (by kernel_rfl) (by simp) ?_;refine ay rfl (fun K B=>?_) az;refine q7 rfl (.tmp 31) (.tmp 35) rfl (by simp [aq]) ⟨W6.heap.size,0,none⟩ 1 1 (by simp [aq]) (F) [t.filter % 256] rfl (j9f (k:=[t.filter % 256]) (F).mem HF.out (by simp)) (by omega) ?_;intro v9 W9 X;refine B.out _ _ (C.out _ (J.out _) _ X.mem) (fun j=>?_);clear B K
   try simp only [sqx,ar]
   refine tkq 12 rfl (v:=?_) (ac ⟨by rfl,?ey12⟩) ?_
   case ey12=>intro w r;(try dsimp only at r);go_simp;all_goals with_reducible rfl
   try simp only [sqx,ar]
   refine wpAnyH_done (by kernel_rfl) ?_ _;go_wp2_with fail;go_meet
   case rel=>exact (by rw [be1];exact X.drop:Ob w W9 v9 (((l6++be 2 t.lo)++be 2 t.hi)++be 1 t.filter) A 289)
 case rest =>
  have d7:Hid (Ob w wc u3 (((l6++be 2 t.lo)++be 2 t.hi)++be 1 t.filter) A 289):=hcut;obtain ⟨l9,e4⟩:∃ l9,(((l6++be 2 t.lo)++be 2 t.hi)++be 1 t.filter)=l9:=⟨_,rfl⟩;have h0:Hid (j2s t=(((l9++be 2 t.sess)++be 2 t.queue)++be 4 t.rate)++be 4 t.burst):=by rw [<-e4];exact h4.out
  rw [e4] at d7;obtain ⟨S,hS⟩:∃ S,av.wrap t.sess=S:=⟨_,rfl⟩;obtain ⟨U,hU⟩:∃ U,av.wrap t.queue=U:=⟨_,rfl⟩;have HS:Hid (be 2 S=be 2 t.sess/\be 2 U=be 2 t.queue):=by rw [<-hS,<-hU];exact ⟨jcb _,jcb _⟩
  clear e4 h4 hcut a9 n9 n8 n7 C HF P;obtain ⟨n4,n0⟩:=d0.out _ d7.out.mem;go_upto_region 5 with fail
  go_region_held3 (fun V=>V.cell? ⟨g,29,none⟩=some (.int .i64 t.sess)/\V.cell? ⟨g,30,none⟩=some (.int .i64 t.queue)) (first|go_keep|exact d0.out _ b7.mem|exact d0.out _ b3.mem)
   (first
    | (go_at_call 132;with_reducible refine (qp d7.out.drew S (by omega)).mono ?_;rintro e p3 ⟨o9,rfl,b7⟩)
    | (go_at_call 132;with_reducible refine (qp b7 U (by omega)).mono ?_;rintro e o4 ⟨m0,rfl,b3⟩)
    | fail)
  rw [HS.out.1,HS.out.2] at b3;have b9:Hid (Ob w o4 m0 ((l9++be 2 t.sess)++be 2 t.queue) A 293):=b3;clear b7 b3 d7 n4 n0 d0 HS hS hU;obtain ⟨m9,m8⟩:=c9.out _ b9.out.mem;go_upto_region 6 with fail
  go_region_held3 (fun V=>V.cell? ⟨g,31,none⟩=some (.int .u32 t.rate)/\V.cell? ⟨g,32,none⟩=some (.int .u32 t.burst)) (first|go_keep|exact c9.out _ b6.mem|exact c9.out _ b0.mem)
   (first
    | (go_at_call 99;with_reducible refine (ki b9.out.drew t.rate (by omega)).mono ?_;rintro e p2 ⟨o8,rfl,b6⟩)
    | (go_at_call 99;with_reducible refine (ki b6 t.burst (by omega)).mono ?_;rintro e o3 ⟨i9,rfl,b0⟩)
    | fail)
  rw [<-h0.out] at b0;have M:Hid (Ob w o3 i9 (j2s t) A 301):=b0;clear b6 b0 b9 m9 m8 c9 h0;obtain ⟨pa,pc,rfl,m7⟩:=HR.out.1;obtain ⟨sa,sc,rfl,m4⟩:=HR.out.2.1;obtain ⟨qa,qc,rfl,m6⟩:=HR.out.2.2;have x1:(ux t.pool).length=t.pool.length:=by simp [ux]
  have x2:(px t.stat).length=t.stat.length:=by simp [px]
  have x3:(px t.twi).length=t.twi.length:=by simp [px]
  rw [x1,x2,x3] at HR a7;obtain ⟨Q,f5⟩:∃ N,t.pool.length=N:=⟨_,rfl⟩;obtain ⟨N2,f4⟩:∃ N,t.stat.length=N:=⟨_,rfl⟩;obtain ⟨N3,f0⟩:∃ N,t.twi.length=N:=⟨_,rfl⟩;rw [f5,f4,f0] at HR a7 HT HN;have O:Hid (t.pool.length=Q/\t.stat.length=N2/\t.twi.length=N3):=⟨f5,f4,f0⟩;clear m7 m4 m6 x1 x2 x3 f5 f4 f0;obtain ⟨R,c7⟩:∃ k,min Q 255=k:=⟨_,rfl⟩;obtain ⟨k2,c5⟩:∃ k,min N2 255=k:=⟨_,rfl⟩;obtain ⟨k3,c4⟩:∃ k,min N3 255=k:=⟨_,rfl⟩;rw [c7,c5,c4] at HT;go_upto_region 7 with fail
  go_cut [3] from 53 (fun u3 w'=>Hid (Ob w w' u3 (j2s t++[(R:Int),(k2:Int),(k3:Int)]) A 304))
  case first =>
   have d1:(((Q:Int)<=255/\¬((255:Int)<Q))/\R=Q)\/((¬((Q:Int)<=255)/\(255:Int)<Q)/\R=255):=by omega
   have d2:(((N2:Int)<=255/\¬((255:Int)<N2))/\k2=N2)\/((¬((N2:Int)<=255)/\(255:Int)<N2)/\k2=255):=by omega
   have d3:(((N3:Int)<=255/\¬((255:Int)<N3))/\k3=N3)\/((¬((N3:Int)<=255)/\(255:Int)<N3)/\k3=255):=by omega
   have e1:au.wrap (R:Int)=R:=by rw [yo];omega
   have e2:au.wrap (k2:Int)=k2:=by rw [yo];omega
   have e3:au.wrap (k3:Int)=k3:=by rw [yo];omega
   have P:(R:Int) % 256=R:=by omega
   have f2:(k2:Int) % 256=k2:=by omega
   have f3:(k3:Int) % 256=k3:=by omega
   obtain ⟨i8,o2,hr,hO⟩:=j31 M.out.1 [(R:Int),(k2:Int),(k3:Int)] (jq (by omega) (jq (by omega) (jq (by omega) ku))) 3 rfl (by have:=M.out.2;omega) 86;have a4:Hid (Ob w o2 i8 (j2s t++[(R:Int),(k2:Int),(k3:Int)]) A 304):=⟨hO,by have:=M.out.2;simp;omega⟩;simp only [List.map_cons,List.map_nil] at hr;obtain ⟨g8,n6,n5⟩:=a7.out _ M.out.mem;clear hO HT HN HR c7 c5 c4 a7 O M HL HM J;rcases d1 with ⟨⟨m1,n1⟩,rfl⟩|⟨⟨m1,n1⟩,rfl⟩
   all_goals rcases d2 with ⟨⟨m2,n2⟩,rfl⟩|⟨⟨m2,n2⟩,rfl⟩
   all_goals rcases d3 with ⟨⟨m3,n3⟩,rfl⟩|⟨⟨m3,n3⟩,rfl⟩
   all_goals (try simp only [Int.cast_ofNat_Int] at hr e1 e2 e3 P f2 f3)
   all_goals
    go_wp2_with (at_builtin;refine wpList_append_run (.tmp 53) (.tmp 69) 86 86 (by with_reducible rfl) hr rfl rfl (by simp [aq]) (by simp [aq]) ?_)
    go_meet
    case rel=>exact a4
  case rest =>
   have a4:Hid (Ob w wc u3 (j2s t++[(R:Int),(k2:Int),(k3:Int)]) A 304):=hcut;have HC:Hid (∀ i,i<Q->∀ V,Mem w V A->∃ b b4 x,pa=some ⟨b,b4,none⟩/\t.pool.getD i 0=x/\V.cell? ⟨b,b4+i,none⟩=some (.int .u32 x)):=by
    intro i hi V E;have m5:Rw V 1 (.slice pa Q pc) (ux t.pool):=E.rw' HR.out.1 j1g;have p0:(ux t.pool).length=Q:=by rw [<-O.out.1];simp [ux]
    obtain ⟨b,b4,rfl,hc⟩:=j5z m5 i (by omega);obtain ⟨x,hx⟩:∃ x,t.pool[i]?=some x:=⟨_,aj (by rw [O.out.1];exact hi)⟩;have ex:(ux t.pool).getD i []=[.int .u32 x]:=by simp [ux,ak,hx]
    rw [ex] at hc;refine ⟨b,b4,x,rfl,by simp [ak,hx],?_⟩;have:=hc 0 _ rfl;simpa using this
   have HK:Hid (R=min Q 255):=c7.symm;have p1:R<=255:=by omega
   have g0:Hid (k2=min N2 255/\k3=min N3 255):=⟨c5.symm,c4.symm⟩;obtain ⟨b5,d9⟩:∃ l,j2s t++[(R:Int),(k2:Int),(k3:Int)]=l:=⟨_,rfl⟩;rw [d9] at a4 HT;have HE:Hid (∀ i,cat (fun i=>be 4 (t.pool.getD i 0)) (i+1)=cat (fun i=>be 4 (t.pool.getD i 0)) i++be 4 (t.pool.getD i 0)):=fun i=>rfl;generalize (fun i=>be 4 (t.pool.getD i 0))=enc at *;have o5:Hid (∀ V,Mem w V A->V.cell? ⟨g,23,none⟩=some (.slice pa Q pc)):=fun V E=>(a7.out V E).1;have b8:Hid (∀ V,Mem w V A->V.cell? ⟨g,27,none⟩=some (.slice sa N2 sc)/\V.cell? ⟨g,28,none⟩=some (.slice qa N3 qc)):=fun V E=>(a7.out V E).2;have o6:Hid (Q<=1000000):=HN.out.1;clear hcut c7 c5 c4 d9 a7 M J;go_wp2_with fail
   go_loopw [3,4] (fun u3 u4 w'=>∃ i:Nat,i<=R/\u4=.int .i64 i/\Hid (Ob w w' u3 (b5++cat enc i) A (304+i*4))) (fun u3 u4 w'=>R-(intOf u4).toNat)
   case atStart=>exact ⟨0,Nat.zero_le _,rfl,by rw [cat,ah];exact a4⟩
   case round =>
    obtain ⟨i,hi,rfl,a8⟩:=hrel;clear a4;have g8:=o5.out _ a8.out.mem;by_cases hlt:i<R
    ·have c3:=HK.out;have hN:=o6.out;have h1:(i:Int)<Q:=by omega
     have h2:(i:Int)<255:=by omega
     have h3:i<Q:=by omega
     clear c3 hN;obtain ⟨b,b4,x,rfl,g6,cx⟩:=HC.out i h3 _ a8.out.mem;have EE:=HE.out i;rw [g6] at EE;have h5:Hid (cat enc (i+1)=cat enc i++be 4 x):=EE;have CP:=ki a8.out x (by omega);clear EE g6;go_wp2_with fail;refine CP.mono ?_;rintro e W1 ⟨v1,rfl,a6⟩;have HH:Hid (Ob w W1 v1 (b5++cat enc (i+1)) A (304+(i+1)*4)):=by
      rw [h5.out,<-al];exact ⟨a6.1,af a6.2 (by omega)⟩
     clear a6 a8 h5 cx CP g8;go_wp2_with fail;go_roundw
     case rel=>exact ⟨i+1,by omega,by go_num,HH⟩
     case measure=>simp [intOf];omega
    ·obtain rfl:i=R:=by omega
     have c3:=HK.out;have a0:Hid (Ob w wr u3 (b5++cat enc i) A 1324):=⟨a8.out.1,af a8.out.2 (by omega)⟩;obtain ⟨n6,n5⟩:=b8.out _ a0.out.mem;have key:∀ W u,Ob w W u (((b5++cat enc i)++cat (fun i=>spP.enc (t.stat.getD i (0,0))) (min t.stat.length 255))++cat (fun i=>spP.enc (t.twi.getD i (0,0))) (min t.twi.length 255)) A 5404->Ob w W u (tenc t) [] 5500:=by
      intro W u h;rw [HT.out];rw [O.out.2.1,O.out.2.2,<-g0.out.1,<-g0.out.2] at h;exact ⟨h.1.none,af h.2 (by omega)⟩
     have d6:Hid (∀ W u,Ob w W u (((b5++cat enc i)++cat (fun i=>spP.enc (t.stat.getD i (0,0))) (min t.stat.length 255))++cat (fun i=>spP.enc (t.twi.getD i (0,0))) (min t.twi.length 255)) A 5404->Ob w W u (tenc t) [] 5500):=key;clear key a8 HC HE HT g0;by_cases hN:i<Q
     ·have h1:(i:Int)<Q:=by omega
      have h2:¬((i:Int)<255):=by omega
      clear c3;go_upto_region 12 with fail
      go_region_held3 (fun V=>V.cell? ⟨g,27,none⟩=some (.slice sa N2 sc)/\V.cell? ⟨g,28,none⟩=some (.slice qa N3 qc)) (first|go_keep|exact b8.out _ I.mem|exact b8.out _ H.mem)
       (first
        | (go_at_call 133;with_reducible refine (j0u a0.out.drew (by omega) _ t.stat HR.out.2.1 (by rw [O.out.2.1];exact HN.out.2.1)).mono ?_;rintro e o1 ⟨i7,rfl,I⟩)
        | (go_at_call 133;with_reducible refine (j0u I (by omega) _ t.twi HR.out.2.2 (by rw [O.out.2.2];exact HN.out.2.2)).mono ?_;rintro e f8 ⟨e0,rfl,H⟩)
        | fail)
      have HF:=d6.out _ _ H;have g3:Hid (Ob w f8 e0 (tenc t) [] 5500):=HF;clear I H HF d6 a0;go_wp2_with fail;go_ret;exact ⟨_,rfl,g3.out⟩
     ·have h1:¬((i:Int)<Q):=by omega
      clear c3;go_upto_region 12 with fail
      go_region_held3 (fun V=>V.cell? ⟨g,27,none⟩=some (.slice sa N2 sc)/\V.cell? ⟨g,28,none⟩=some (.slice qa N3 qc)) (first|go_keep|exact b8.out _ I.mem|exact b8.out _ H.mem)
       (first
        | (go_at_call 133;with_reducible refine (j0u a0.out.drew (by omega) _ t.stat HR.out.2.1 (by rw [O.out.2.1];exact HN.out.2.1)).mono ?_;rintro e o1 ⟨i7,rfl,I⟩)
        | (go_at_call 133;with_reducible refine (j0u I (by omega) _ t.twi HR.out.2.2 (by rw [O.out.2.2];exact HN.out.2.2)).mono ?_;rintro e f8 ⟨e0,rfl,H⟩)
        | fail)
      have HF:=d6.out _ _ H;have g3:Hid (Ob w f8 e0 (tenc t) [] 5500):=HF;clear I H HF d6 a0;go_wp2_with fail;go_ret;exact ⟨_,rfl,g3.out⟩
end
section
open Go.RowKit Sm
def j16 (w:World) (p h m:Nat) (L:List (Nat×Obj)) (a:Option Addr) (r:List Int):Prop :=
 ∀ W' D' hc' ks' L',DkAt w W' p h m D' hc' ks' L'->(∀ x∈L,x∈L')->Row W' a r
def gone:Dk:=⟨true,false,0,0⟩
def went (D:Dk):Dk:=if D.set then ⟨false,true,D.left-1,D.pre⟩ else ⟨false,false,D.left,D.pre⟩
theorem j79 (D:Dk):(went D).dead=false:=by unfold went;split<;>rfl
theorem jau {D:Dk} (hd:D.dead=false) (h:D.set=false):went D=D:=by
 obtain ⟨d,s,l,q⟩:=D;simp only at h hd;subst h;subst hd;rfl
section
variable {w W:World} {p h m:Nat} {D:Dk} {hc:Array Value} {ks:List Bk} {L:List (Nat×Obj)}
theorem DkAt.has (H:DkAt w W p h m D hc ks L) {x:Nat×Obj} (hx:x∈L):W.heap[x.1]?=some x.2:=H.st.mem.at_ x (ai _ (ai _ (am _ hx)))
structure WrAt (w W:World) (p h m:Nat) (D0:Dk) (hc:Array Value) (bl:List (List Int)) (L:List (Nat×Obj)) (e:En) (k:Nat) (D:Dk) (ks:List Bk) (K:List (Nat×Obj)):Prop where
 at_:DkAt w W p h m D hc ks (K++L)
 live:D.dead=false
 off:D0.set=false->D=D0
 rows:ks.map Bk.b=yj m e bl k
structure WrEnd (w W:World) (p h m:Nat) (D0:Dk) (hc:Array Value) (bl:List (List Int)) (L:List (Nat×Obj)) (e:En) (err:Int) (D:Dk) (ks:List Bk) (K:List (Nat×Obj)):Prop where
 at_:DkAt w W p h m D hc ks (K++L)
 ok:(err=0/\D.dead=false/\(D0.set=false->D=D0)/\ks.map Bk.b=yj m e bl (npc (m-64) e.r.length))\/(err=42/\D=gone/\D0.set=true/\Left m e bl (ks.map Bk.b))
theorem jeb (H:DkAt w W p h m D hc ks L) (hd:D.dead=false) (e:En) (he:EnOk ks.length m e) {k cap:Nat} (hk:e.r.length=k) (d6:k<=cap) (f3:(a=none/\cap=0)\/∃ b f0,a=some ⟨b,f0,none⟩) (hB:j16 w p h m L a e.r) :
  Calls prog 86 #[.pointer (some ⟨p,0,none⟩),.agg (enA e.s e.t e.c (.slice a k cap))] W fun ev W'=>∃ d7,ev=.returned (.int .i64 d7)/\∃ E d K,WrEnd w W' p h m D hc (ks.map Bk.b) L e d7 E d K:=by
 have hA:Mem W (W.alloc (.cells (enA e.s e.t e.c (.slice a k cap)) enT)) [(W.heap.size,.cells (enA e.s e.t e.c (.slice a k cap)) enT (0,0))]:=(Mem.nil W).push1 rfl;have H1:=H.join hA;have hn:=j2p he;have f5:=he.m0;have g8:=he.m1;have g5:=he.s;have kE:∀ j,(W.alloc (.cells (enA e.s e.t e.c (.slice a k cap)) enT)).cell? ⟨W.heap.size,j,none⟩=(enA e.s e.t e.c (.slice a k cap))[j]?:=hA.cell 0 rfl;have k0:=kE 0;have k1:=kE 1;have k2:=kE 2;have k3:=kE 3;generalize g4:W.alloc (.cells (enA e.s e.t e.c (.slice a k cap)) enT)=w1 at *;simp at k0 k1 k2 k3;obtain ⟨M,hM⟩:∃ M,M=m-64:=⟨_,rfl⟩;have h1:(m:Int)-64=(M:Int):=by omega
 have g9:aw.wrap (M:Int)=M:=by rw [ax];omega
 have g7:e.r.length<=31*65536:=af he.len (Nat.mul_le_mul hn.2.2.1 (by omega));have b7:=jd7 (W:=w1.drew) e hk d6 f3 (most:=M) (by omega) (by omega) (by omega) (by rw [hM,<-hk];omega);have d4:=j6h (H1.on H1.st.drew);have d3:=yk (H1.on H1.st.drew);have hy:(e.s:Int)*(sbk ks.length:Int)=((e.s*sbk ks.length:Nat):Int):=by rw [Int.natCast_mul]
 have f2:e.s*sbk ks.length<ks.length:=by have:=j27 he.s he.n0 (show 0<sbk ks.length by omega);simpa using this
 have d2:=H.top;obtain ⟨n,hN⟩:∃ n,n=npc M k:=⟨_,rfl⟩;rw [<-hN] at b7;rw [hM,<-hk] at hN;have d9:Hid (Calls prog 121 #[.agg (enA e.s e.t e.c (.slice a k cap)),.int .i64 M] w1.drew _):=b7;have e2:Hid (Calls prog 49 #[.pointer (some ⟨p,0,none⟩)] w1.drew _):=d4;have a4:Hid (Calls prog 50 #[.pointer (some ⟨p,0,none⟩)] w1.drew _):=d3;generalize c7:e.s*sbk ks.length=y at *;generalize c9:sbk ks.length=x at *;have HH:Hid (DkAt w w1 p h m D hc ks ([(W.heap.size,.cells (enA e.s e.t e.c (.slice a k cap)) enT (0,0))]++L)):=H1;have HY:Hid (e.s*sbk ks.length=y):=by rw [c9];exact c7
 have b4:w1.drew.cell? ⟨W.heap.size,0,none⟩=some (.int .i64 e.s):=k0;have c5:w1.drew.cell? ⟨W.heap.size,1,none⟩=some (.int .u64 e.t):=k1;have c4:w1.drew.cell? ⟨W.heap.size,2,none⟩=some (.int .i64 e.c):=k2;have c3:w1.drew.cell? ⟨W.heap.size,3,none⟩=some (.slice a k cap):=k3;have a2:W.heap.size<w1.drew.heap.size:=j9 b4;have b1:Hid (M=m-64):=hM;have Q:Hid (n=npc (m-64) e.r.length):=hN;have g3:aw.wrap (y:Int)=y:=by rw [ax];omega
 clear b7 d4 d3 H1 hA kE c7 c9 hM hN;go_enter func86,ntmps86;go_upto_region 1 with fail
 go_region_held3 (fun w'=>w'.cell? ⟨W.heap.size,0,none⟩=some (.int .i64 e.s)/\w'.cell? ⟨W.heap.size,1,none⟩=some (.int .u64 e.t)/\w'.cell? ⟨W.heap.size,2,none⟩=some (.int .i64 e.c)/\w'.cell? ⟨W.heap.size,3,none⟩=some (.slice a k cap))
  (first|go_keep|assumption|exact ⟨(q5.old a2).trans b4,(q5.old a2).trans c5,(q5.old a2).trans c4,(q5.old a2).trans c3⟩)
  (first
   | (go_at_call 49;with_reducible refine e2.out.mono ?_;rintro J w3 ⟨rfl,rfl⟩)
   | (go_at_call 50;with_reducible refine a4.out.mono ?_;rintro J w3 ⟨rfl,rfl⟩)
   | (go_at_call 121;with_reducible refine d9.out.mono ?_;rintro J X ⟨C,rfl,xs,d1,d0,B,b2,K5,q5⟩))
 have H5:DkAt w X p h m D hc ks (((C,.cells B pcT (0,0))::K5)++([(W.heap.size,.cells (enA e.s e.t e.c (.slice a k cap)) enT (0,0))]++L)):=(HH.out.on HH.out.st.drew).join q5;have a1:=yk H5;have b8:=j07 m (by omega) X;have b0:Mem X (X.alloc (.cells (madeCells #[.int .u8 0] m) 5)) [(X.heap.size,.cells (bs (an m 0)) 5)]:=by rw [<-jaf];exact (Mem.nil X).push1 rfl
 have H6:=H5.join b0;have a6:Row (X.alloc (.cells (madeCells #[.int .u8 0] m) 5)) (some ⟨X.heap.size,0,none⟩) (an m 0):=b0.own 0 rfl (j09 m 0 (by omega)) (by simp;omega);obtain ⟨kk,F⟩:∃ kk,ks[y]?=some kk:=⟨_,aj f2⟩;have N:(ks.map Bk.b).getD y []=kk.b:=by simp [ak,F]
 have c1:Hid (xs.length=n/\(∀ j x,xs[j]?=some x->Part a e.r x.1 (lspc e M j).b/\(lspc e M j).b.length<=x.2)/\B.toList=pcL e M 0 xs):=⟨d1,d0,b2⟩;have e5:Hid (0<=D.pre/\D.pre<=m):=H.pre;have HE:Hid (EnOk ks.length m e):=he;clear d1 d0 b2 H5 HH q5 d9 e2 a4 b4 c5 c4 c3 a2 k0 k1 k2 k3;by_cases hcut:D.set=true/\D.left=0
 ·have hW:=j5d H6 a6 (ae m) (by simp) y F hd hcut.1 hcut.2;have e1:Hid (D.set=true):=hcut.1;have f8:Hid ((ks.map Bk.b).getD y []=kk.b):=N;clear N;clear H6 a6 b0 F hcut hd hB he H;generalize X.alloc (.cells (madeCells #[.int .u8 0] m) 5)=w6 at b8 hW;go_wp2_with fail;refine a1.mono ?_;rintro J w3 ⟨rfl,rfl⟩;go_wp2_with fail;refine hW.mono ?_;rintro J w7 ⟨rfl,d,H7,O⟩;have a5:Hid (∃ E d K,WrEnd w w7 p h m D hc (ks.map Bk.b) L e 42 E d K):=by
   refine ⟨gone,d,[(X.heap.size,.cells (bs (an m 0)) 5)]++(((C,.cells B pcT (0,0))::K5)++[(W.heap.size,.cells (enA e.s e.t e.c (.slice a k cap)) enT (0,0))]),⟨?_,ab ⟨rfl,rfl,e1.out,?_⟩⟩⟩
   ·have e9:([(X.heap.size,ag (bs (an m 0)) 5)]++(((C,.cells B pcT (0,0))::K5)++([(W.heap.size,.cells (enA e.s e.t e.c (.slice a k cap)) enT (0,0))]++L)))=([(X.heap.size,.cells (bs (an m 0)) 5)]++(((C,.cells B pcT (0,0))::K5)++[(W.heap.size,.cells (enA e.s e.t e.c (.slice a k cap)) enT (0,0))]))++L:=by simp
    rw [<-e9];exact H7
   ·rw [O,<-f8.out,<-HY.out];have h9:=Left.blank (m:=m) (e:=e) (bl:=ks.map Bk.b) D.pre.toNat (by have:=e5.out;omega);rw [ao] at h9;exact h9
  clear H7 O hW
  go_wp2
  go_ret;exact ⟨42,rfl,a5.out⟩
 ·have a3:D.set=false\/D.left≠0:=by
   cases hD:D.set
   ·exact ac rfl
   ·exact ab fun e0=>hcut ⟨hD,e0⟩
  have hW:=j8g (cap:=m) H6 a6 (by simp) y F hd a3;clear H6 a6 b0 F hcut a3 N;generalize X.alloc (.cells (madeCells #[.int .u8 0] m) 5)=w6 at b8 hW;go_wp2_with fail;refine a1.mono ?_;rintro J w3 ⟨rfl,rfl⟩;go_wp2_with fail;refine hW.mono ?_;rintro J w7 ⟨rfl,f1,H7,O⟩;have H0:∃ E d K,WrAt w w7 p h m D hc (ks.map Bk.b) ((C,.cells B pcT (0,0))::L) e 0 E d K:=by
   refine ⟨went D,f1,[(X.heap.size,.cells (bs (an m 0)) 5)]++(K5++[(W.heap.size,.cells (enA e.s e.t e.c (.slice a k cap)) enT (0,0))]),⟨?_,j79 D,fun h0=>jau hd h0,?_⟩⟩
   ·refine H7.on (H7.st.perm ?_);have e9:∀ (A K5 R L:List (Nat×Obj)) (P:Nat×Obj),(A++((P::K5)++(R++L))).Perm ((A++(K5++R))++(P::L)):=by
     intro A K5 R L P;rw [al];refine List.Perm.append_left A ?_;rw [List.cons_append];have:(K5++R)++P::L=(K5++R)++P::L:=rfl;refine List.Perm.trans ?_ List.perm_middle.symm;rw [al]
    exact e9 _ _ _ _ _
   ·rw [O,yj,ao,HY.out]
  have d8:Hid (∃ E d K,WrAt w w7 p h m D hc (ks.map Bk.b) ((C,.cells B pcT (0,0))::L) e 0 E d K):=H0;have e7:Hid (j16 w p h m L a e.r):=hB;have g0:Hid (ks.length<=64):=d2;have f4:0<n:=by rw [Q.out];exact hn.1
  have f9:n<=31:=by rw [Q.out];omega
  have f6:Hid (∀ j,j<n->y+j<ks.length):=fun j hj=>by
   have:=j27 HE.out.s HE.out.n0 (show j<sbk ks.length by have:=Q.out;have:=(j2p HE.out).2.1;omega);rw [HY.out] at this;exact this
  clear H7 O hW H0 hB a1 b8 H he hd;go_wp2_with fail
  go_loopw [8] (fun u wr=>∃ j:Nat,u=.int .i64 ((j:Int)-1)/\j<=n/\∃ E d K,WrAt w wr p h m D hc (ks.map Bk.b) ((C,.cells B pcT (0,0))::L) e (n-j) E d K) (fun u _=>(intOf u+1).toNat)
  case atStart=>exact ⟨n,rfl,ae _,by rw [Nat.sub_self];exact d8.out⟩
  case round =>
   obtain ⟨j,rfl,hj,E,d,K,G⟩:=hrel;clear d8;by_cases hj0:j=0
   ·subst hj0;have a5:Hid (∃ E d K,WrEnd w wr p h m D hc (ks.map Bk.b) L e 0 E d K):=by
     refine ⟨E,d,K++[(C,.cells B pcT (0,0))],⟨?_,ac ⟨rfl,G.live,G.off,?_⟩⟩⟩
     ·rw [al];exact G.at_
     ·have:=G.rows;rw [Nat.sub_zero,Q.out] at this;exact this
    clear G
    go_wp2
    go_ret;exact ⟨0,rfl,a5.out⟩
   ·obtain ⟨i,rfl⟩:∃ i,j=i+1:=⟨j-1,by omega⟩;rw [show (((i+1:Nat):Int)-1)=(i:Int) by omega];have b9:i<n:=by omega
    obtain ⟨⟨xa,xc⟩,hx⟩:∃ x,xs[i]?=some x:=⟨_,aj (by rw [c1.out.1];exact b9)⟩;obtain ⟨U,b6⟩:=c1.out.2.1 i _ hx;have a7:npc M e.r.length=n:=by rw [b1.out,Q.out]
    obtain ⟨kb,N⟩:∃ kb,(lspc e M i).b.length=kb:=⟨_,rfl⟩;have HS:Hid (∀ V:World,V.heap[C]?=some (.cells B pcT (0,0))->V.cell? ⟨C,i*5,none⟩=some (.int .u64 e.t)/\V.cell? ⟨C,i*5+1,none⟩=some (.int .i64 e.c)/\V.cell? ⟨C,i*5+2,none⟩=some (.int .i64 i)/\V.cell? ⟨C,i*5+3,none⟩=some (.int .i64 n)/\V.cell? ⟨C,i*5+4,none⟩=some (.slice xa kb xc)):=by
     intro V hV;have hq:∀ f,f<5->V.cell? ⟨C,i*5+f,none⟩=(pcQ e M i (xa,xc))[f]?:=by
      intro f hf;rw [cell_of hV,<-Array.getElem?_toList,c1.out.2.2,jno e M xs i f _ hx hf 0,ad]
     refine ⟨?_,?_,?_,?_,?_⟩
     ·have:=hq 0 (by omega);simpa [pcQ] using this
     ·have:=hq 1 (by omega);simpa [pcQ] using this
     ·have:=hq 2 (by omega);simpa [pcQ] using this
     ·have:=hq 3 (by omega);rw [this];simp [pcQ,a7]
     ·have:=hq 4 (by omega);rw [this];simp [pcQ,N]
    have a8:wr.heap[C]?=some (.cells B pcT (0,0)):=G.at_.has (x:=(C,.cells B pcT (0,0))) (by simp);have a9:wr.drew.heap[C]?=some (.cells B pcT (0,0)):=a8;have d5:C<wr.drew.heap.size:=(Array.getElem?_eq_some_iff.mp a9).1;have e4:Hid (∀ V K,Mem wr.drew V K->V.cell? ⟨C,i*5,none⟩=some (.int .u64 e.t)/\V.cell? ⟨C,i*5+1,none⟩=some (.int .i64 e.c)/\V.cell? ⟨C,i*5+2,none⟩=some (.int .i64 i)/\V.cell? ⟨C,i*5+3,none⟩=some (.int .i64 n)/\V.cell? ⟨C,i*5+4,none⟩=some (.slice xa kb xc)):=fun V K hV=>HS.out V (by rw [hV.below.block C d5];exact a9);obtain ⟨j0,j1,j2,j3,j4⟩:=HS.out wr a8;have a0:DkAt w wr.drew p h m E hc d (K++((C,.cells B pcT (0,0))::L)):=G.at_.on G.at_.st.drew;have a4:Hid (Calls prog 50 #[.pointer (some ⟨p,0,none⟩)] wr.drew fun e W'=>e=.returned (.int .i64 m)/\wr.drew=W'):=yk a0;have I:PcOk m (lspc e M i):=by rw [b1.out];exact jf3 HE.out i (by rw [<-Q.out];exact b9)
    have e6:Hid (Calls prog 123 #[.agg (pcA e.t e.c i n (.slice xa kb xc)),.int .i64 m] wr.drew fun J W'=>∃ g,J=.returned (.slice (some ⟨g,0,none⟩) m m)/\∃ K,Mem wr.drew W' ((g,.cells (bs (frm m (lspc e M i))) 5)::K)):=by
     have h9:=jdk I f5 (a:=xa) (cap:=xc) N (by rw [<-N];exact b6) (U _ (e7.out _ _ _ _ _ a0 (fun q hq=>by simp [hq])));have e9:pcA (lspc e M i).t (lspc e M i).c (lspc e M i).i (lspc e M i).n (.slice xa kb xc)=pcA e.t e.c i n (.slice xa kb xc):=by simp only [lspc,a7]
     rw [e9] at h9;exact h9
    obtain ⟨z,hz⟩:∃ z,z=y+i:=⟨_,rfl⟩;have b5:z<d.length:=by
     have h9:=f6.out i b9;have h8:d.length=ks.length:=by have:=congrArg List.length G.rows;rw [jm,ao,ao] at this;exact this
     omega
    have g2:(y:Int)+i=(z:Int):=by omega
    have g1:aw.wrap (z:Int)=z:=by have:=G.at_.top;rw [ax];omega
    obtain ⟨kk,F⟩:∃ kk,d[z]?=some kk:=⟨_,aj b5⟩;have Y:(frm m (lspc e M i)).length=m:=j11 I.len;have f7:Hid (yj m e (ks.map Bk.b) (n-i)=(d.map Bk.b).set z (frm m (lspc e M i))):=by
     show _=_;rw [show n-i=(n-(i+1))+1 by omega,yj,<-G.rows,ao,HY.out,<-Q.out,show n-1-(n-(i+1))=i by omega,<-b1.out,hz]
    have q0:(0:Int)<=(i:Int):=by omega
    have qn:(i:Int)<(n:Int):=by omega
    by_cases hcut:E.set=true/\E.left=0
    ·have c2:Hid (∀ w6 K6 Z,Mem wr.drew w6 ((Z,.cells (bs (frm m (lspc e M i))) 5)::K6)->Calls prog 122 #[.pointer (some ⟨p,0,none⟩),.int .i64 z,.slice (some ⟨Z,0,none⟩) m m] w6 fun J W'=>J=.returned (.int .i64 42)/\W'.heap[C]?=some (.cells B pcT (0,0))/\∃ E d K,WrEnd w W' p h m D hc (ks.map Bk.b) L e 42 E d K):=by
      intro w6 K6 Z h6;have H6:=a0.join h6;refine (j5d H6 (h6.own 0 rfl (j89 I.bytes) (by rw [Y];omega)) (ae m) Y z F G.live hcut.1 hcut.2).mono ?_;rintro J W' ⟨rfl,b3,H7,O⟩;refine ⟨rfl,H7.has (x:=(C,.cells B pcT (0,0))) (by simp),gone,b3,((Z,.cells (bs (frm m (lspc e M i))) 5)::K6)++(K++[(C,.cells B pcT (0,0))]),⟨?_,ab ⟨rfl,rfl,?_,?_⟩⟩⟩
      ·have e9:((Z,ag (bs (frm m (lspc e M i))) 5)::K6)++(K++((C,.cells B pcT (0,0))::L))=(((Z,.cells (bs (frm m (lspc e M i))) 5)::K6)++(K++[(C,.cells B pcT (0,0))]))++L:=by simp
       rw [<-e9];exact H7
      ·cases hD:D.set
       ·have:=G.off hD;rw [this,hD] at hcut;simp at hcut
       ·rfl
      ·have h9:=Left.mid (m:=m) (e:=e) (bl:=ks.map Bk.b) (n-(i+1)) E.pre.toNat (by rw [<-Q.out];omega) (by have:=G.at_.pre;omega);rw [ao,HY.out,<-Q.out,show n-1-(n-(i+1))=i by omega,<-b1.out,<-hz,<-G.rows] at h9;rw [O];have e8:(d.map Bk.b).getD z []=kk.b:=by simp [ak,F]
       rw [e8] at h9;exact h9
     clear G a0 U b6 hx I a8 a9 hcut F b5 hz Y a7 N e7;go_upto_region 8 with fail
     go_region_held3 (fun w'=>w'.cell? ⟨C,i*5,none⟩=some (.int .u64 e.t)/\w'.cell? ⟨C,i*5+1,none⟩=some (.int .i64 e.c)/\w'.cell? ⟨C,i*5+2,none⟩=some (.int .i64 i)/\w'.cell? ⟨C,i*5+3,none⟩=some (.int .i64 n)/\w'.cell? ⟨C,i*5+4,none⟩=some (.slice xa kb xc))
      (first|go_keep|assumption|exact e4.out _ _ q6|exact HS.out _ c0)
      (first
       | (go_at_call 50;with_reducible refine a4.out.mono ?_;rintro J w3 ⟨rfl,rfl⟩)
       | (go_at_call 123;with_reducible refine e6.out.mono ?_;rintro J w6 ⟨Z,rfl,K6,q6⟩)
       | (go_at_call 122;with_reducible refine (c2.out _ _ _ q6).mono ?_;rintro J w7 ⟨rfl,c0,S⟩))
     go_wp2
     go_ret;exact ⟨42,rfl,S⟩
    ·have a3:E.set=false\/E.left≠0:=by
      cases hD:E.set
      ·exact ac rfl
      ·exact ab fun e0=>hcut ⟨hD,e0⟩
     have c2:Hid (∀ w6 K6 Z,Mem wr.drew w6 ((Z,.cells (bs (frm m (lspc e M i))) 5)::K6)->Calls prog 122 #[.pointer (some ⟨p,0,none⟩),.int .i64 z,.slice (some ⟨Z,0,none⟩) m m] w6 fun J W'=>J=.returned (.int .i64 0)/\W'.heap[C]?=some (.cells B pcT (0,0))/\∃ E d K,WrAt w W' p h m D hc (ks.map Bk.b) ((C,.cells B pcT (0,0))::L) e (n-i) E d K):=by
      intro w6 K6 Z h6;have H6:=a0.join h6;refine (j8g (cap:=m) H6 (h6.own 0 rfl (j89 I.bytes) (by rw [Y];omega)) Y z F G.live a3).mono ?_;rintro J W' ⟨rfl,b3,H7,O⟩;refine ⟨rfl,H7.has (x:=(C,.cells B pcT (0,0))) (by simp),went E,b3,((Z,.cells (bs (frm m (lspc e M i))) 5)::K6)++K,⟨?_,j79 E,fun h0=>?_,?_⟩⟩
      ·rw [al];exact H7
      ·have:=G.off h0;rw [this] at G ⊢;exact jau G.live h0
      ·rw [O,f7.out]
     clear G a0 U b6 hx I a8 a9 hcut F b5 hz Y a7 N a3;go_upto_region 8 with fail
     go_region_held3 (fun w'=>w'.cell? ⟨C,i*5,none⟩=some (.int .u64 e.t)/\w'.cell? ⟨C,i*5+1,none⟩=some (.int .i64 e.c)/\w'.cell? ⟨C,i*5+2,none⟩=some (.int .i64 i)/\w'.cell? ⟨C,i*5+3,none⟩=some (.int .i64 n)/\w'.cell? ⟨C,i*5+4,none⟩=some (.slice xa kb xc))
      (first|go_keep|assumption|exact e4.out _ _ q6|exact HS.out _ c0)
      (first
       | (go_at_call 50;with_reducible refine a4.out.mono ?_;rintro J w3 ⟨rfl,rfl⟩)
       | (go_at_call 123;with_reducible refine e6.out.mono ?_;rintro J w6 ⟨Z,rfl,K6,q6⟩)
       | (go_at_call 122;with_reducible refine (c2.out _ _ _ q6).mono ?_;rintro J w7 ⟨rfl,c0,S⟩))
     go_wp2_with fail;go_roundw
     case rel=>exact ⟨i,rfl,by omega,S⟩
     case measure=>simp [intOf]
end
end
section
open Go.RowKit Sm Cf
def j6r (bo bi:Nat):Fv:=⟨222,223,224,#[.pointer (some ⟨bo,0,none⟩),.pointer (some ⟨bi,0,none⟩)],#[.pointer (some ⟨bo,0,none⟩),.pointer (some ⟨bi,0,none⟩)],#[.pointer (some ⟨bo,0,none⟩),.pointer (some ⟨bi,0,none⟩)]⟩
def qf:Sp Cgf:=⟨fun c=>cat (fun i=>tenc (c.ten.getD i ten0)) (min c.ten.length 255),fun l c=>(sq (itd ten0 spT) 0 c.ten.length l c.ten).map (fun q=>({ c with ten:=q.1 },q.2)),fun _ _=>false⟩
theorem pick {α:Type}:∀ (l:List α) (i:Nat),i<l.length->∃ A z B,l=A++z::B/\A.length=i
 | z::l,0,_=>⟨[],z,l,rfl,rfl⟩
 | y::l,i+1,h=>by
  obtain ⟨A,z,B,e,b⟩:=pick l i (by simpa using h);exact ⟨y::A,z,B,by rw [e];rfl,by simp [b]⟩
theorem jgp (bo X Z:Nat) (r:Fv) (P:Fd w L IT JT r spT)
  (mo:(bo,.cells #[.func (.func Z) #[] #[]] 233)∈L) (mi:(X,.cells r.cells.toArray 246)∈L)
  (eo:Ent Z) (ho:∀ V g C,Calls prog Z #[.pointer (some ⟨g,C,none⟩)] V fun e Y=>e=.returned (.pointer (some ⟨g,C+28,none⟩))/\V=Y) :
  Fw w L IC JC (j6r bo X) qf:=by
 have ci:∀ K,Sub L K->∀ V,Mem w V K->V.cell? ⟨X,0,none⟩=some (.func (.func r.kw) #[] r.cw)/\V.cell? ⟨X,1,none⟩=some (.func (.func r.kr) #[] r.cr)/\V.cell? ⟨X,2,none⟩=some (.func (.func r.ks) #[] r.cs) :=
  fun K G V s=>⟨by rw [ja s (G _ mi)];rfl,by rw [ja s (G _ mi)];rfl,by rw [ja s (G _ mi)];rfl⟩
 refine ⟨enters_of func222 (by kernel_rfl) rfl,enters_of func223 (by kernel_rfl) rfl,?_,?_⟩
 ·rintro K G x ⟨sv,E⟩ g C hx v l V hO hb;have h0:=hx V hO.mem;have y:(E.map zc).length=x.ten.length:=by rw [ao,<-h0.2.2.1,ao]
  have:=jr8 hO bo X Z r.kw r.kr r.ks r.cw r.cr r.cs ⟨g,C,none⟩ ⟨g,C+28,none⟩ sv (E.map zc) ?hx (fun V s=>by rw [ja s (G _ mo)];rfl) (ci K G) eo (fun V=>ho V g C) P.ew
   (fun V s=>(hx V s).cell 28 (cget (hx V s).1.len (by rintro ip a b c d f g a1 b1 c1 d1 f1 g1 a2 b2 c2 d2 f2 g2 k1 k2 k3 k4 k5 k6 k7 k8 dr te rfl;rfl))) (fun V s=>(hx V s).2.2.2.1) (fun i=>tenc (x.ten.getD i ten0)) ?hw (by rw [y];exact hb)
  case hx =>
   intro q hq;obtain ⟨z,I,rfl⟩:=List.mem_map.mp hq;have H:=h0.2.2.2.2 z I;exact ⟨ji H.1.len _ _ _,jlf H.2⟩
  case hw =>
   intro i hi ge v l V s a4;rw [y] at hi;have a9:i<E.length:=by rw [ao] at y;omega
   obtain ⟨z,I⟩:∃ z,E[i]?=some z:=⟨_,aj a9⟩;have a5:z∈E:=List.mem_of_getElem? I;have ez:(E.map zc).getD i []=zc z:=by simp [ak,I]
   have ed:x.ten.getD i ten0=z.1:=by rw [<-h0.2.2.1];simp [ak,I]
   rw [ez] at s;simp only [ed] at a4 ⊢;refine (P.wr _ (G.cons _) z.1 z.2 ge 0 (fun V s=>?_) v l V s a4).mono ?_
   ·obtain ⟨H,h2⟩:=(hx V s.sub).2.2.2.2 z a5;refine ⟨H,fun j u hj=>?_,h2⟩;rw [ad,s.cell 0 rfl,List.getElem?_toArray];exact hj
   ·rintro e Y ⟨v',H,h2⟩;exact ⟨v',H,h2.drop⟩
  rw [y] at this;exact this
 ·intro K G x g T O post a l c V hj hS;obtain ⟨a8,hb,M,sa,sc,a6,F,U,S,b0,a0⟩:=jgd x g T O post V K hj;have:=jrc (σ:=List Ten) (w:=w) (L:=M) (J:=fun N V=>N.length=x.ten.length/\IMT w hb M V N) ?st (fun N V h=>by obtain ⟨-,E,-,-,h⟩:=h;exact h.dropA) bo X Z r.kw r.kr r.ks r.cw r.cr r.cs ⟨g,O.length,none⟩ ⟨g,O.length+28,none⟩ sa x.ten.length sc a8 hb a6
   (fun V s=>by rw [ja s (F _ (G _ mo))];rfl) (ci M (G.trans F)) eo (fun V=>ho V g O.length) P.er (itd ten0 spT) ?hr x.ten l a c V ⟨rfl,b0⟩ hS S
  case st =>
   rintro N V Y ⟨H,E,h2,h3,h4⟩ hB;exact ⟨H,E,h2,h3,h4.after hB⟩
  case hr =>
   rintro i hi N l a c V ⟨H,E,rfl,h3,h4⟩ hS;rw [ao] at H;obtain ⟨A,z,B,rfl,hA⟩:=pick E i (by omega);have ed:((A++z::B).map Prod.fst).getD i ten0=z.1:=by
    subst hA;simp [ak]
   have es:∀ q:Ten,∀ n:Nat×Nat×Nat,((A++z::B).map Prod.fst).set i q=(A++(q,n)::B).map Prod.fst:=by
    intro q n;subst hA;simp [List.set_append_right]
   have Q:∀ z∈A,tok z:=fun z I=>h3 z (List.mem_append_left _ I);have a7:(A.flatMap tcs).length=i*33:=by rw [jeo Q,hA]
   have ft:∀ u:Tz,(A++u::B).flatMap tcs=A.flatMap tcs++(tcs u++B.flatMap tcs):=fun u=>by simp
   have fb:∀ u:Tz,((A++u::B).flatMap tbs++M).Perm (lb u.2.1 33 (ux u.1.pool)++(lb u.2.2.1 122 (px u.1.stat)++(lb u.2.2.2 122 (px u.1.twi)++(A.flatMap tbs++(B.flatMap tbs++M))))):=by
    intro u
    classical
    rw [List.perm_iff_count];intro q;simp only [List.flatMap_append,List.flatMap_cons,tbs,List.count_append];omega
   rw [j7c (by simp),ft] at h4;have I:=h3 z (by simp);have hJ:JT w z.1 hb 46 (A.flatMap tcs) (B.flatMap tcs) V (A.flatMap tbs++(B.flatMap tbs++M)):=⟨I.1,I.2,z.2.1,z.2.2.1,z.2.2.2,h4.perm ((fb z).cons _)⟩;have:=P.rd (A.flatMap tbs++(B.flatMap tbs++M)) (((G.trans F).app _).app _) z.1 hb 46 (A.flatMap tcs) (B.flatMap tcs) a l c V hJ hS;rw [a7] at this;refine this.mono ?_;intro e Y hR;refine hR.mono (fun q=>((A++z::B).map Prod.fst).set i q) (by simp only [itd,ed]) (fun h=>h.dropA.dropA) (fun q hq=>⟨by rw [List.length_set,ao];exact H,?_⟩);obtain ⟨j1,j2,hp,hs,a3,j3⟩:=hq;refine ⟨A++(q,hp,hs,a3)::B,(es q _).symm,fun u R=>?_,?_⟩
   ·rcases List.mem_append.mp R with R|R
    ·exact Q u R
    ·rcases List.mem_cons.mp R with rfl|R
     ·exact ⟨j1,j2⟩
     ·exact h3 u (am _ (ai _ R))
   ·rw [j7c (by simp),ft];exact j3.perm ((fb (q,hp,hs,a3)).symm.cons _)
  refine this.mono ?_;intro e Y hR;exact hR.mono (fun N=>{ x with ten:=N }) rfl (U Y) (fun N hy=>a0 N Y hy.1 hy.2)
theorem jfx (h:Mem w W L) (b:Nat) (r:Fv) :
  Calls prog 159 #[.func (.func b) #[] #[],r.val] W fun e B=>∃ x y,e=.returned (j6r x y).val/\Mem w B ((x,.cells #[.func (.func b) #[] #[]] 233)::(y,.cells r.cells.toArray 246)::L):=by
 obtain ⟨f,d,c,q,j,i⟩:=r;have s:Mem w ((W.alloc (.cells #[.func (.func b) #[] #[]] 233)).alloc (.cells #[.func (.func f) #[] q,.func (.func d) #[] j,.func (.func c) #[] i] 246)) ((W.heap.size,.cells #[.func (.func b) #[] #[]] 233)::(W.heap.size+1,.cells #[.func (.func f) #[] q,.func (.func d) #[] j,.func (.func c) #[] i] 246)::L):=by
  have A:=(h.push W.heap.size (.cells #[.func (.func b) #[] #[]] 233) rfl).push (W.heap.size+1) (.cells #[.func (.func f) #[] q,.func (.func d) #[] j,.func (.func c) #[] i] 246) (by simp);refine A.perm ?_;rw [al];exact List.perm_append_comm
 have z:∀ (u:Fn) (first cap:Array Value) (w:World),(Instr.makeFunc u first cap).run prog w=.ok (.func u first cap) w:=fun _ _ _ _=>rfl;have C:Hid (Mem w ((W.alloc (.cells #[.func (.func b) #[] #[]] 233)).alloc (.cells #[.func (.func f) #[] q,.func (.func d) #[] j,.func (.func c) #[] i] 246)) ((W.heap.size,.cells #[.func (.func b) #[] #[]] 233)::(W.heap.size+1,.cells #[.func (.func f) #[] q,.func (.func d) #[] j,.func (.func c) #[] i] 246)::L)):=s;clear s h;simp only [Fv.val];go_enter func159,ntmps159;go_wp2_with fail;refine bodyPost_ret (v:=(j6r W.heap.size (W.heap.size+1)).val) ?_ rfl ⟨_,_,rfl,C.out.after ((Below.refl _ _).alloc (ae _) _)⟩;exact results_cell_row (p:=4) (ty:=189) rfl _ _ (W.heap.size+1+1) 189 _ (0,0) _ rfl (jn _ _ _ _) underlying189 rfl (by kernel_rfl)
theorem jfh (y z:Int×Int):RB spP.dec (spP.enc y) z (num (be 4 y.1),num (be 4 y.2)):=by
 obtain ⟨c,h,e⟩:=jcs (dec:=fun i=>([spA,spB].getD i sp0).dec) (enc:=fun i=>([spA,spB].getD i sp0).enc y)
  (Inv:=fun k x=>x=(if 0<k then num (be 4 y.1) else z.1,if 1<k then num (be 4 y.2) else z.2)) 2 0 z (fun k _ b x hx=>by
   subst hx
   match k,b with
   | 0,_=>exact ⟨_,(zw 4 _ _ y _:RB spA.dec (spA.enc y) _ _),rfl⟩
   | 1,_=>exact ⟨_,(zw 4 _ _ y _:RB spB.dec (spB.enc y) _ _),rfl⟩) rfl
 subst e;rw [<-j2r] at h;exact h
theorem rb_u (y z:Int):RB spU.dec (spU.enc y) z (num (be 4 y)):=zw 4 id (fun _ y=>y) y z
def tcut (t:Ten):Ten:=⟨strOfNums ((sb t.name).take 255),num (be 4 t.vni),t.key,num (be 4 t.vtep),t.vmac,t.host,(t.pool.take 255).map (fun v=>num (be 4 v)),num (be 2 t.lo),num (be 2 t.hi),num (be 1 t.filter),
 (t.stat.take 255).map (fun v=>(num (be 4 v.1),num (be 4 v.2))),(t.twi.take 255).map (fun v=>(num (be 4 v.1),num (be 4 v.2))),num (be 2 t.sess),num (be 2 t.queue),num (be 4 t.rate),num (be 4 t.burst)⟩
def stt (t:Ten) (k:Nat):Ten:=⟨if 0<k then (tcut t).name else ten0.name,if 1<k then (tcut t).vni else ten0.vni,if 2<k then t.key else ten0.key,if 3<k then (tcut t).vtep else ten0.vtep,if 4<k then t.vmac else ten0.vmac,if 5<k then t.host else ten0.host,
 if 16<k then (tcut t).pool else if 13<k then an (min t.pool.length 255) 0 else [],if 6<k then (tcut t).lo else ten0.lo,if 7<k then (tcut t).hi else ten0.hi,if 8<k then (tcut t).filter else ten0.filter,
 if 17<k then (tcut t).stat else if 14<k then an (min t.stat.length 255) (0,0) else [],if 18<k then (tcut t).twi else if 15<k then an (min t.twi.length 255) (0,0) else [],
 if 9<k then (tcut t).sess else ten0.sess,if 10<k then (tcut t).queue else ten0.queue,if 11<k then (tcut t).rate else ten0.rate,if 12<k then (tcut t).burst else ten0.burst⟩
theorem j96 (x:Ten) (m:Nat) (h:x.pool=[]):j1o x m={ x with pool:=an m 0 }:=by
 unfold j1o;split
 ·rename_i e;subst e;cases x;simp only at h;subst h;rfl
 ·rfl
theorem j95 (x:Ten) (m:Nat) (h:x.stat=[]):j1n x m={ x with stat:=an m (0,0) }:=by
 unfold j1n;split
 ·rename_i e;subst e;cases x;simp only at h;subst h;rfl
 ·rfl
theorem jcv (x:Ten) (m:Nat) (h:x.twi=[]):j3s x m={ x with twi:=an m (0,0) }:=by
 unfold j3s;split
 ·rename_i e;subst e;cases x;simp only at h;subst h;rfl
 ·rfl
theorem jmm (t:Ten) (b:TLen t):RB spT.dec (spT.enc t) ten0 (tcut t):=by
 obtain ⟨d,h,e⟩:=jcs (dec:=fun i=>(tsp.getD i sp0).dec) (enc:=fun i=>(tsp.getD i sp0).enc t) (Inv:=fun k x=>x=stt t k) 19 0 ten0 (fun k _ c x hx=>by
   subst hx
   match k,c with
   | 0,_=>exact ⟨_,(jqk _ _ t _ (j54 _):RB jb7.dec (jb7.enc t) _ _),rfl⟩
   | 1,_=>exact ⟨_,(zw 4 _ _ t _:RB jig.dec (jig.enc t) _ _),rfl⟩
   | 2,_=>exact ⟨_,(j3x 8 _ _ t _ b.key:RB jih.dec (jih.enc t) _ _),rfl⟩
   | 3,_=>exact ⟨_,(zw 4 _ _ t _:RB jb3.dec (jb3.enc t) _ _),rfl⟩
   | 4,_=>exact ⟨_,(j3x 6 _ _ t _ b.vmac:RB j1i.dec (j1i.enc t) _ _),rfl⟩
   | 5,_=>exact ⟨_,(j3x 6 _ _ t _ b.host:RB jb8.dec (jb8.enc t) _ _),rfl⟩
   | 6,_=>exact ⟨_,(zw 2 _ _ t _:RB spLo.dec (spLo.enc t) _ _),rfl⟩
   | 7,_=>exact ⟨_,(zw 2 _ _ t _:RB spHi.dec (spHi.enc t) _ _),rfl⟩
   | 8,_=>exact ⟨_,(zw 1 _ _ t _:RB j2w.dec (j2w.enc t) _ _),rfl⟩
   | 9,_=>exact ⟨_,(zw 2 _ _ t _:RB jb4.dec (jb4.enc t) _ _),rfl⟩
   | 10,_=>exact ⟨_,(zw 2 _ _ t _:RB j5u.dec (j5u.enc t) _ _),rfl⟩
   | 11,_=>exact ⟨_,(zw 4 _ _ t _:RB jb5.dec (jb5.enc t) _ _),rfl⟩
   | 12,_=>exact ⟨_,(zw 4 _ _ t _:RB j5y.dec (j5y.enc t) _ _),rfl⟩
   | 13,_=>exact ⟨_,(jbk _ _ t _:RB jb6.dec (jb6.enc t) _ _),j96 _ _ rfl⟩
   | 14,_=>exact ⟨_,(jbk _ _ t _:RB j1k.dec (j1k.enc t) _ _),j95 _ _ rfl⟩
   | 15,_=>exact ⟨_,(jbk _ _ t _:RB j2v.dec (j2v.enc t) _ _),jcv _ _ rfl⟩
   | 16,_=>exact ⟨_,(jfi 0 spU _ rb_u _ _ t _ (ap ..):RB j5v.dec (j5v.enc t) _ _),rfl⟩
   | 17,_=>exact ⟨_,(jfi (0,0) spP _ jfh _ _ t _ (ap ..):RB j0t.dec (j0t.enc t) _ _),rfl⟩
   | 18,_=>exact ⟨_,(jfi (0,0) spP _ jfh _ _ t _ (ap ..):RB j1j.dec (j1j.enc t) _ _),rfl⟩
   | n+19,h=>exact absurd (show n+19<0+19 from h) (by omega)) rfl
 subst e;rw [<-j2r] at h;exact h
def OwB (T:TypeId) (sz:Nat) (v:Value) (n:Nat) (xs:List Value) (B:List (Nat×Obj)):Prop :=
 xs.length=n*sz/\((v=.slice none 0 0/\n=0/\B=[])\/∃ g cap cur,v=.slice (some ⟨g,0,none⟩) n cap/\B=[(g,.cells cur T (0,0))]/\n<=cap/\cap<=maxLen/\cur.size=cap*sz/\cur.toList.take (n*sz)=xs)
theorem OwB.nil (T:TypeId) (sz:Nat):OwB T sz (.slice none 0 0) 0 [] []:=⟨by simp,ac ⟨rfl,rfl,rfl⟩⟩
theorem OwB.ow {sz:Nat} {B:List (Nat×Obj)} (h:OwB T sz v n xs B) (b:Mem w V (B++L)):Ow w V T sz v n xs L:=by
 obtain ⟨d,c⟩:=h;refine ⟨d,?_⟩;rcases c with ⟨rfl,e,rfl⟩|⟨g,cap,cur,rfl,rfl,r⟩
 ·exact ac ⟨rfl,e,b⟩
 ·exact ab ⟨g,cap,cur,rfl,b,r⟩
theorem Ow.owb {sz:Nat} (h:Ow w V T sz v n xs L):∃ B,OwB T sz v n xs B/\Mem w V (B++L):=by
 obtain ⟨b,c⟩:=h;rcases c with ⟨rfl,e,hM⟩|⟨g,cap,cur,rfl,hM,r⟩
 ·exact ⟨[],⟨b,ac ⟨rfl,e,rfl⟩⟩,hM⟩
 ·exact ⟨[(g,.cells cur T (0,0))],⟨b,ab ⟨g,cap,cur,rfl,rfl,r⟩⟩,hM⟩
theorem jfj (acc:List (Int×Int)) (x:Int×Int):(px (acc++[x])).flatten=(px acc).flatten++[.int .u32 x.1,.int .u32 x.2]:=by simp [px]
theorem jmb (acc:List Int) (x:Int):(ux (acc++[x])).flatten=(ux acc).flatten++[.int .u32 x]:=by simp [ux]
theorem jcd (b c j:Nat):(Addr.mk b c none).add j=⟨b,c+j,none⟩:=Addr.add_mid b c j
def jaq (t z:Ten):Prop:=sb t.name=sb z.name/\t.vni=z.vni/\t.key=z.key/\t.vtep=z.vtep/\t.vmac=z.vmac/\t.host=z.host/\t.pool=z.pool/\t.lo=z.lo/\t.hi=z.hi/\t.filter=z.filter/\t.stat=z.stat/\t.twi=z.twi/\t.sess=z.sess/\t.queue=z.queue/\t.rate=z.rate/\t.burst=z.burst
end
end Go.Proofs.YtdigofgjhaakmaaGreatDoor
