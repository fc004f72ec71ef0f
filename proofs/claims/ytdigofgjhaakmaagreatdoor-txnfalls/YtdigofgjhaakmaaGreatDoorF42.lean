/- Parts of the proof. -/
import Derived.Test.YtdigofgjhaakmaaGreatDoorF41
set_option linter.all false
set_option maxHeartbeats 40000000
set_option maxRecDepth 20000
open Go.Proofs.Tryz
open Nat renaming le_refl->aa,le_succ->ab
open Or renaming inl->ac,inr->ad
open Go.Act renaming put->ae
open Go.RowKit.Below renaming refl->af
open Go.AllReadyH renaming cons->ag,nil->ah
namespace Go.Proofs.YtdigofgjhaakmaaGreatDoor
variable {L:List (Nat×Obj)} {B:Int} {a:Option Addr} {w0 V:World} {ga:Addr} {n' k n:Nat}
section
open Go.RowKit Sm Cf Df Va
section
variable {w W:World} {F:List (Nat×Obj)} {p h m N:Nat} {D:Dk} {all:List (List Int)} {ps pm:Nat} {ver:Int} {c:Cgf} {st:Option Cgf} {n:Nat} {x:Ac}
theorem TxD.frame (H:TxD w W p h m N B all ps ver c n L):∃ R,Mem w W (L++R)/\∀ e b,Mem w e (b++R)->TxD w e p h m N B all ps ver c n b:=by
 obtain ⟨pl,u,K,j,i⟩:=H;obtain ⟨R,g,hb⟩:=j.frame;have f:∀ L,((bxS ps pl ver c u none true::(K++L))++R).Perm (L++(bxS ps pl ver c u none true::(K++R))):=by
  intro L
  classical
  rw [List.perm_iff_count];intro z;simp only [List.count_append,List.count_cons];omega
 exact ⟨_,g.perm (f L),fun e b d=>⟨pl,u,K,hb _ _ (d.perm (f b).symm),i⟩⟩
theorem TxD.grow (H:TxD w W p h m N B all ps ver c n L) (f:n<=n'):TxD w W p h m N B all ps ver c n' L:=by
 obtain ⟨pl,u,K,e,d,b,g⟩:=H;exact ⟨pl,u,K,e,d,b,by omega⟩
def DcF (w W:World) (F:List (Nat×Obj)) (pm:Nat) (ver:Int) (c:Cgf) (sm:Option Cgf) (P:World->List (Nat×Obj)->Prop):Prop :=
 ∃ L R,RmS w F pm ver c sm L/\Mem w W (L++R)/\∀ V L',Mem w V (L'++R)->P V L'
variable {P:World->List (Nat×Obj)->Prop}
theorem DcF.join (H:DcF w W F pm ver c st P) (hb:Below W.heap.size W V):DcF w V F pm ver c st P:=by
 obtain ⟨L,R,e,d,b⟩:=H;exact ⟨L,R,e,d.after hb,b⟩
theorem DcF.end (H:DcF w W F pm ver c st P):∃ L,RmS w F pm ver c st L/\P W L:=by
 obtain ⟨L,R,e,d,b⟩:=H;exact ⟨L,e,b _ _ d⟩
theorem DcF.below (H:DcF w W F pm ver c st P):Below w.heap.size w W:=by
 obtain ⟨L,R,e,b,d⟩:=H;exact b.below
theorem j70 (i:Vs W) {b:Cgf} (H:DcF w W F pm ver c (some b) P) (d:Lig b) (j:b.ten.length<=900):Calls prog 45 #[.pointer (some ⟨pm,0,none⟩)] W fun e V=>e=.returned (.int .i64 (chk b))/\DcF w V F pm ver c (some b) P:=by
 obtain ⟨L,R,g,f,l⟩:=H;refine (jis i g f d j).mono ?_;rintro e V ⟨rfl,hb⟩;exact ⟨rfl,L,R,g,f.after hb,l⟩
theorem jh6 {b:Cgf} (H:DcF w W F pm ver c (some b) P) (d:0<=ver/\ver<1000000000):Calls prog 47 #[.pointer (some ⟨pm,0,none⟩)] W fun e V=>e=.returned (.tuple #[])/\DcF w V F pm (ver+1) b none P:=by
 obtain ⟨L,R,l,j,i⟩:=H;refine (jna l j d).mono ?_;rintro e V ⟨rfl,o,g,f⟩;exact ⟨rfl,o,R,g,f,i⟩
theorem DcF.read (H:DcF w W F pm ver c st P):W.cell? ⟨pm,0,none⟩=some (.int .u64 ver):=by
 obtain ⟨L,R,d,b,e⟩:=H;obtain ⟨u,h,-⟩:=d.read b;exact h
theorem DcF.readT {f:Cgf} (H:DcF w W F pm ver c (some f) P) (b:Lig f) (A:f.ten.length<=900) (z:0<=ver/\ver<1000000000):∃ (lt:List Value) (q:Array Value),Hid (lt.toArray=q)/\(prog.info? 39).map (·.size)=some lt.length /\
 ∀ X,Below W.heap.size W X->(X.cell? ⟨pm,0,none⟩=some (.int .u64 ver)/\X.rangeAt pm 30 lt)/\Calls prog 46 #[.int .u64 (ver+1),.agg q] X fun e V=>∃ a cap,e=.returned (.slice a (jt (ver+1) f).length cap)/\Below X.heap.size X V:=by
 obtain ⟨L,R,o,l,C⟩:=H;obtain ⟨u,hr,hc⟩:=o.readT l;have d:=jm0 hc;refine ⟨cc f u,_,rfl,by rw [je b.cin.len];kernel_rfl,fun X g=>⟨⟨?_,fun j v s=>?_⟩,?_⟩⟩
 ·obtain ⟨y,h,-⟩:=o.read (l.after g);exact h
 ·have i:=hr j v s;exact (g.cell (p:=⟨pm,30+j,none⟩) (j9 i)).trans i
 ·exact jqb (hc.at_ g (aa _)) b.cin (fun t r=>(b.ten t r).1) (by omega) d (by omega)
theorem jaa (hx:AcW w x) (H:Bo w W F p h m N D all ps pm ver c st n) (b9:∀ V,Below w.heap.size w V->Vs V) (hG:Gl w ga) (hn:n<=380) (hN:4<=N) (hm:256<=m) (c4:ver<700000) (h0:x.what=4\/x.what=5) :
 Calls prog 13 #[.pointer (some ⟨ps,0,none⟩),.pointer (some ⟨pm,0,none⟩),.agg (aC x).toArray,.int .i64 (room N m)] W (DoP w F p h m N D all ps pm ver c st n):=by
 obtain ⟨z,c2⟩:∃ g,W.heap.size=g:=⟨_,rfl⟩;obtain ⟨A,hA⟩:∃ A,(aC x).toArray=A:=⟨_,rfl⟩;have HL:Hid (Bo w (W.alloc (.cells A acT)) ((z,.cells A acT (0,0))::F) p h m N D all ps pm ver c st n):=H.box c2;have HC:Hid (∀ (j:Nat) (v:Value) (X:World),(aC x)[j]?=some v->X.heap[z]?=some (.cells A acT (0,0))->X.cell? ⟨z,j,none⟩=some v):=j2j hA;obtain ⟨a0,a1,a2,a3,a4⟩:=j74 x;rw [hA];have c3:=H.v0;clear H;have a8:Hid (∀ V,Below w.heap.size w V->Vs V):=b9;clear hx a1 a2 a3 a4 hA b9;have b0:(x.what==0)=false:=by rcases h0 with h|h<;>rw [h]<;>rfl
 have b1:(x.what==1)=false:=by rcases h0 with h|h<;>rw [h]<;>rfl
 have b2:(x.what==2)=false:=by rcases h0 with h|h<;>rw [h]<;>rfl
 have b3:(x.what==3)=false:=by rcases h0 with h|h<;>rw [h]<;>rfl
 generalize x.what=q at *;go_enter func13,ntmps13;go_upto_region 1 with fail;refine j5 (fun X=>Bo w X ((z,.cells A acT (0,0))::F) p h m N D all ps pm ver c st n) (by exact HL.out) ?_;intro V hV
 try simp only [c2]
 have hk:=hV.has _ List.mem_cons_self;have c0:=HC.out _ _ _ a0 hk;have HV:Hid (Bo w V ((z,.cells A acT (0,0))::F) p h m N D all ps pm ver c st n):=hV;clear HL HC hk a0;go_upto_region 12 with fail
 go_cut [55] from 56 to 119 (fun u55 w'=>V=w'/\((q=4/\u55=.bool true)\/(q=5/\u55=.bool false)))
 case first =>
  rcases h0 with rfl|rfl
  all_goals
   go_wp2_with fail;go_meet
   case rel=>exact ⟨rfl,by simp⟩
 case rest =>
  obtain ⟨rfl,hq⟩:=hcut;go_upto_if 55 with fail
  go_cut [55] from 56 to 119 (fun u55 w'=>V=w'/\u55=.bool true)
  case first =>
   rcases hq with ⟨rfl,rfl⟩|⟨rfl,rfl⟩
   all_goals
    go_wp2_with fail;go_meet
    case rel=>exact ⟨rfl,rfl⟩
  case rest =>
   obtain ⟨rfl,rfl⟩:=hcut;clear c0 h0 b0 b1 b2 b3;cases st with
   | none =>
    obtain ⟨z1,z2,z3,L,z4,z5⟩:=hV;have CC:=j7g z5;obtain ⟨R,z6,z7⟩:=z5.frame;have CK:=j9c z4 z6;clear z1 z2 z3 z4 z5 z6 z7;go_wp2_with fail;refine CC.mono ?_;rintro e _ ⟨rfl,rfl⟩;go_wp2_with fail;refine CK.mono ?_;rintro e _ ⟨rfl,rfl⟩;clear CC CK;go_upto_region 16 with fail;refine wp_region_held_drew (S:=fun X=>True) (by kernel_rfl) trivial (fun r=>?_);refine tkq 0 rfl (v:=?_) (ac ⟨by rfl,?z17⟩) ?_
    case z17=>intro w b;(try dsimp only at b);go_simp;all_goals with_reducible rfl
    try simp only [sqx,ae]
    refine tkq 1 rfl (v:=?_) (ac ⟨by rfl,?z18⟩) ?_
    case z18=>intro w b;(try dsimp only at b);go_simp;all_goals with_reducible rfl
    try simp only [sqx,ae]
    refine tkq 2 rfl (v:=?_) (ac ⟨by rfl,?z19⟩) ?_
    case z19=>intro w b;(try dsimp only at b);go_simp;all_goals with_reducible rfl
    try simp only [sqx,ae]
    refine tkq 3 rfl (v:=undef) (ad ⟨by rfl,rfl⟩) ?_
    try simp only [sqx,ae]
    refine tkq 4 rfl (v:=undef) (ad ⟨by rfl,rfl⟩) ?_
    try simp only [sqx,ae]
    refine tkq 5 rfl (v:=undef) (ad ⟨by rfl,rfl⟩) ?_
    try simp only [sqx,ae]
    refine tkq 6 rfl (v:=undef) (ad ⟨by rfl,rfl⟩) ?_
    try simp only [sqx,ae]
    refine tkq 7 rfl (v:=undef) (ad ⟨by rfl,rfl⟩) ?_
    try simp only [sqx,ae]
    refine tkq 8 rfl (v:=undef) (ad ⟨by rfl,rfl⟩) ?_
    try simp only [sqx,ae]
    refine tkq 9 rfl (v:=undef) (ad ⟨by rfl,rfl⟩) ?_
    try simp only [sqx,ae]
    refine tkq 10 rfl (v:=undef) (ad ⟨by rfl,rfl⟩) ?_
    try simp only [sqx,ae]
    refine tkq 11 rfl (v:=undef) (ad ⟨by rfl,rfl⟩) ?_
    try simp only [sqx,ae]
    refine tkq 12 rfl (v:=undef) (ad ⟨by rfl,rfl⟩) ?_
    try simp only [sqx,ae]
    refine tkq 13 rfl (v:=undef) (ad ⟨by rfl,rfl⟩) ?_
    try simp only [sqx,ae]
    refine tkq 14 rfl (v:=undef) (ad ⟨by rfl,rfl⟩) ?_
    try simp only [sqx,ae]
    refine tkq 15 rfl (v:=undef) (ad ⟨by rfl,rfl⟩) ?_
    try simp only [sqx,ae]
    refine tkq 16 rfl (v:=?_) (ac ⟨by rfl,?z20⟩) ?_
    case z20=>intro w b;(try dsimp only at b);go_simp;all_goals with_reducible rfl
    try simp only [sqx,ae]
    refine wpAnyH_done (by kernel_rfl) ?_ _;have HE:Hid (Bo w V.drew ((z,.cells A acT (0,0))::F) p h m N D all ps pm ver c none n):=HV.out.join (af _ _).drew;clear HV;go_wp2_with fail;go_ret2;exact DoP.ok rfl (HE.out.unbox.grow (ab _))
   | some c1 =>
    have y:Hid (Lig c1/\c1.ten.length<=900):=⟨hV.lig.1,by have:=hV.lig.2;omega⟩;have a7:Hid (0<=ver/\ver<1000000000):=⟨c3,by omega⟩;obtain ⟨z1,z2,z3,L,z4,z5⟩:=hV;have CC:=j7h (a8.out _ z5.mem.below) hG z5 (by omega) z1 hN hm (by omega) (by omega) (by omega) (by omega) (by omega);have HZ:Hid (Rst all ver c/\(all.length:Int)=ver/\D.dead=false):=⟨z2,z3,z1⟩;have a9:Hid (RmS w ((z,.cells A acT (0,0))::F) pm ver c (some c1) L):=z4;obtain ⟨kk,E⟩:∃ k,chk c1=k:=⟨_,rfl⟩;obtain ⟨ln,a6⟩:∃ k,(jt (ver+1) c1).length=k:=⟨_,rfl⟩;obtain ⟨rn,a5⟩:∃ k,room N m=k:=⟨_,rfl⟩;have b7:Hid ((jt (ver+1) c1).length=ln):=a6;have O:Hid (cmE N m ver c1=if kk=0 then if rn<ln then 51 else 0 else kk):=by
     show cmE N m ver c1=_;rw [cmE,E,a5,a6]
    rw [a5];have e1:IntKind.u64.wrap (ver+1)=ver+1:=by rw [qj];omega
    have e2:(ver+1) % 18446744073709551616=ver+1:=by omega
    clear z1 z2 z3 z4 z5 HV;go_wp2_with fail;refine CC.mono ?_;rintro e V1 ⟨k,er,rfl,hc⟩;clear CC;rcases hc with ⟨rfl,T,q2,q3⟩|⟨rfl,rfl,T,D',q2,q3,q4,q5⟩|⟨rfl,rfl,T,q2,q3,q4⟩
    ·obtain ⟨R,r1,r2⟩:=q3.frame;have HD:Hid (DcF w V1 ((z,.cells A acT (0,0))::F) pm ver c (some c1) (fun s l=>TxA w s p h m N D ver all ps ver c (some c1) n l)):=⟨L,R,a9.out,r1,r2⟩;have b4:Hid (er=cmE N m ver c1/\er≠0):=⟨T,q2⟩;clear r1 r2 q3 T q2;have CK:=j70 (a8.out _ HD.out.below) HD.out y.out.1 y.out.2;rw [E] at CK;go_wp2_with fail;refine CK.mono ?_;rintro e V2 ⟨rfl,M⟩;have u:Hid (DcF w V2 ((z,.cells A acT (0,0))::F) pm ver c (some c1) (fun s l=>TxA w s p h m N D ver all ps ver c (some c1) n l)):=M;clear CK M HD;by_cases U:kk=0
     ·subst U;obtain ⟨T,q2⟩:=b4.out;have i:=O.out;rw [if_pos rfl] at i;have b6:rn<ln:=by
       rcases Nat.lt_or_ge rn ln with h|h
       ·exact h
       ·rw [if_neg (by omega)] at i;exact absurd (T.trans i) q2
      rw [if_pos b6] at i;obtain rfl:er=51:=T.trans i;have g1:(rn:Int)<(ln:Int):=by omega
      clear i T q2 b4 O E a6 a5;obtain ⟨lt,AT,Q,C,J⟩:=u.out.readT y.out.1 y.out.2 a7.out;have t:Hid (∀ X,Below V2.heap.size V2 X->(X.cell? ⟨pm,0,none⟩=some (.int .u64 ver)/\X.rangeAt pm 30 lt)/\Calls prog 46 #[.int .u64 (ver+1),.agg AT] X fun e V=>∃ a cap,e=.returned (.slice a ln cap)/\Below X.heap.size X V):=by
       rw [<-b7.out];exact J
      clear J;go_upto_region 16 with fail;refine wp_region_held_drew (S:=fun X=>X.cell? ⟨pm,0,none⟩=some (.int .u64 ver)/\X.rangeAt pm 30 lt) (by kernel_rfl) (t.out _ (af _ _).drew).1 (fun r=>?_);refine tkq 0 rfl (v:=?_) (ac ⟨by rfl,?z21⟩) ?_
      case z21=>intro w b;obtain ⟨f,d⟩:=b;go_simp;all_goals with_reducible rfl
      try simp only [sqx,ae]
      refine tkq 1 rfl (v:=?_) (ac ⟨by rfl,?z22⟩) ?_
      case z22=>intro w b;obtain ⟨f,d⟩:=b;go_simp;all_goals with_reducible rfl
      try simp only [sqx,ae]
      refine tkq 2 rfl (v:=?_) (ac ⟨by rfl,?z23⟩) ?_
      case z23=>intro w b;obtain ⟨f,d⟩:=b;go_simp;all_goals with_reducible rfl
      try simp only [sqx,ae]
      refine tkq 3 rfl (v:=?_) (ac ⟨by rfl,?z24⟩) ?_
      case z24=>intro w b;obtain ⟨f,d⟩:=b;go_simp;all_goals with_reducible rfl
      try simp only [sqx,ae]
      refine tkq 4 rfl (v:=?_) (ac ⟨by rfl,?z25⟩) ?_
      case z25=>intro w b;obtain ⟨f,d⟩:=b;go_simp;all_goals with_reducible rfl
      try simp only [sqx,ae]
      refine tkq 5 rfl (v:=?_) (ac ⟨by rfl,?z26⟩) ?_
      case z26=>intro w b;obtain ⟨f,d⟩:=b;go_simp;all_goals with_reducible rfl
      try simp only [sqx,ae]
      refine tkq 6 rfl (v:=?_) (ac ⟨by rfl,?z27⟩) ?_
      case z27=>intro w b;obtain ⟨f,d⟩:=b;go_simp;all_goals with_reducible rfl
      try simp only [sqx,ae]
      refine tkq 7 rfl (v:=?_) (ac ⟨by rfl,?z28⟩) ?_
      case z28=>intro w b;obtain ⟨f,d⟩:=b;go_simp;all_goals with_reducible rfl
      try simp only [sqx,ae]
      refine tkq 8 rfl (v:=?_) (ac ⟨by rfl,?z29⟩) ?_
      case z29=>intro w b;obtain ⟨f,d⟩:=b;go_simp;all_goals with_reducible rfl
      try simp only [sqx,ae]
      refine tkq 9 rfl (v:=?_) (ac ⟨by rfl,?z30⟩) ?_
      case z30=>intro w b;obtain ⟨f,d⟩:=b;go_simp;all_goals with_reducible rfl
      try simp only [sqx,ae]
      refine tkq 10 rfl (v:=?_) (ac ⟨by rfl,?z31⟩) ?_
      case z31=>intro w b;obtain ⟨f,d⟩:=b;go_simp;all_goals with_reducible rfl
      try simp only [sqx,ae]
      refine tkq 11 rfl (v:=.agg AT) (j7 (by rfl) _ _ rfl _ _ rfl AT lt _ (fun _ h=>h.2) Q underlying39 rfl C) ?_
      try simp only [sqx,ae]
      refine tkq 14 rfl (v:=?_) (ac ⟨by rfl,?z32⟩) ?_
      case z32=>intro w b;obtain ⟨f,d⟩:=b;go_simp;all_goals with_reducible rfl
      try simp only [sqx,ae]
      refine wpAnyH_ready (rs:=[12]) (by kernel_rfl) (by simp) ?_;refine ag rfl (fun K hK=>?_) ah;go_simp
      with_reducible refine ((t.out _ (af _ _).drew).2).mono ?_
      rintro e V3 ⟨ra,b5,rfl,G⟩
      try go_wp2_with fail
      have o:=jo G;have I:=(t.out _ o).1;have Z:Hid (DcF w V3 ((z,.cells A acT (0,0))::F) pm ver c (some c1) (fun s l=>TxA w s p h m N D ver all ps ver c (some c1) n l)):=u.out.join o;refine hK.out _ _ I (fun r=>?_);clear hK K
      try simp only [sqx,ae]
      refine tkq 13 rfl (v:=?_) (ac ⟨by rfl,?z33⟩) ?_
      case z33=>intro w b;obtain ⟨f,d⟩:=b;go_simp;all_goals with_reducible rfl
      try simp only [sqx,ae]
      refine tkq 15 rfl (v:=?_) (ac ⟨by rfl,?z34⟩) ?_
      case z34=>intro w b;obtain ⟨f,d⟩:=b;go_simp;all_goals with_reducible rfl
      try simp only [sqx,ae]
      refine tkq 16 rfl (v:=?_) (ac ⟨by rfl,?z35⟩) ?_
      case z35=>intro w b;obtain ⟨f,d⟩:=b;go_simp;all_goals with_reducible rfl
      try simp only [sqx,ae]
      refine wpAnyH_done (by kernel_rfl) ?_ _;clear t Q u G o I;go_wp2_with fail;go_ret2;exact DoP.ok rfl (by obtain ⟨l,y1,y2⟩:=Z.out.end;exact ⟨HZ.out.2.2,HZ.out.1,HZ.out.2.1,l,y1.less (fun x hx=>by simp [hx]),y2.grow (ab _)⟩)
     ·obtain ⟨T,q2⟩:=b4.out;have i:=O.out;rw [if_neg U] at i;obtain rfl:er=kk:=T.trans i;have g1:(er==0)=false:=by simp [U]
      clear i T q2 b4 O E a6 a5;go_upto_region 16 with fail;refine wp_region_held_drew (S:=fun X=>True) (by kernel_rfl) trivial (fun r=>?_);refine tkq 0 rfl (v:=?_) (ac ⟨by rfl,?z36⟩) ?_
      case z36=>intro w b;(try dsimp only at b);go_simp;all_goals with_reducible rfl
      try simp only [sqx,ae]
      refine tkq 1 rfl (v:=?_) (ac ⟨by rfl,?z37⟩) ?_
      case z37=>intro w b;(try dsimp only at b);go_simp;all_goals with_reducible rfl
      try simp only [sqx,ae]
      refine tkq 2 rfl (v:=?_) (ac ⟨by rfl,?z38⟩) ?_
      case z38=>intro w b;(try dsimp only at b);go_simp;all_goals with_reducible rfl
      try simp only [sqx,ae]
      refine tkq 3 rfl (v:=undef) (ad ⟨by rfl,rfl⟩) ?_
      try simp only [sqx,ae]
      refine tkq 4 rfl (v:=undef) (ad ⟨by rfl,rfl⟩) ?_
      try simp only [sqx,ae]
      refine tkq 5 rfl (v:=undef) (ad ⟨by rfl,rfl⟩) ?_
      try simp only [sqx,ae]
      refine tkq 6 rfl (v:=undef) (ad ⟨by rfl,rfl⟩) ?_
      try simp only [sqx,ae]
      refine tkq 7 rfl (v:=undef) (ad ⟨by rfl,rfl⟩) ?_
      try simp only [sqx,ae]
      refine tkq 8 rfl (v:=undef) (ad ⟨by rfl,rfl⟩) ?_
      try simp only [sqx,ae]
      refine tkq 9 rfl (v:=undef) (ad ⟨by rfl,rfl⟩) ?_
      try simp only [sqx,ae]
      refine tkq 10 rfl (v:=undef) (ad ⟨by rfl,rfl⟩) ?_
      try simp only [sqx,ae]
      refine tkq 11 rfl (v:=undef) (ad ⟨by rfl,rfl⟩) ?_
      try simp only [sqx,ae]
      refine tkq 12 rfl (v:=undef) (ad ⟨by rfl,rfl⟩) ?_
      try simp only [sqx,ae]
      refine tkq 13 rfl (v:=undef) (ad ⟨by rfl,rfl⟩) ?_
      try simp only [sqx,ae]
      refine tkq 14 rfl (v:=undef) (ad ⟨by rfl,rfl⟩) ?_
      try simp only [sqx,ae]
      refine tkq 15 rfl (v:=undef) (ad ⟨by rfl,rfl⟩) ?_
      try simp only [sqx,ae]
      refine tkq 16 rfl (v:=?_) (ac ⟨by rfl,?z39⟩) ?_
      case z39=>intro w b;(try dsimp only at b);go_simp;all_goals with_reducible rfl
      try simp only [sqx,ae]
      refine wpAnyH_done (by kernel_rfl) ?_ _;have HE:Hid (DcF w V2.drew ((z,.cells A acT (0,0))::F) pm ver c (some c1) (fun s l=>TxA w s p h m N D ver all ps ver c (some c1) n l)):=u.out.join (af _ _).drew;clear u;go_wp2_with fail;go_ret2;exact DoP.ok rfl (by obtain ⟨l,y1,y2⟩:=HE.out.end;exact ⟨HZ.out.2.2,HZ.out.1,HZ.out.2.1,l,y1.less (fun x hx=>by simp [hx]),y2.grow (ab _)⟩)
    ·obtain ⟨R,r1,r2⟩:=q5.frame;have HD:Hid (DcF w V1 ((z,.cells A acT (0,0))::F) pm ver c (some c1) (fun s l=>TxA w s p h m N D' (ver+1) (all++[jt (ver+1) c1]) ps (ver+1) c1 none n l)):=⟨L,R,a9.out,r1,r2⟩;have HQ:Hid (D'.dead=false/\(D.set=false->D'=D)/\Rst (all++[jt (ver+1) c1]) (ver+1) c1):=⟨q2,q3,q4⟩;clear r1 r2 q5 q2 q3 q4;have CK:=j70 (a8.out _ HD.out.below) HD.out y.out.1 y.out.2;rw [E] at CK;go_wp2_with fail;refine CK.mono ?_;rintro e V2 ⟨rfl,M⟩;have u:Hid (DcF w V2 ((z,.cells A acT (0,0))::F) pm ver c (some c1) (fun s l=>TxA w s p h m N D' (ver+1) (all++[jt (ver+1) c1]) ps (ver+1) c1 none n l)):=M;clear CK M HD;have i:=O.out;rw [T] at i;have U:kk=0:=by
      by_cases h:kk=0
      ·exact h
      ·rw [if_neg h] at i;exact absurd i.symm h
     subst U;rw [if_pos rfl] at i;have b6:¬rn<ln:=by
      intro h;rw [if_pos h] at i;cases i
     have g1:¬((rn:Int)<(ln:Int)):=by omega
     clear i T O E a6 a5;obtain ⟨lt,AT,Q,C,J⟩:=u.out.readT y.out.1 y.out.2 a7.out;have t:Hid (∀ X,Below V2.heap.size V2 X->(X.cell? ⟨pm,0,none⟩=some (.int .u64 ver)/\X.rangeAt pm 30 lt)/\Calls prog 46 #[.int .u64 (ver+1),.agg AT] X fun e V=>∃ a cap,e=.returned (.slice a ln cap)/\Below X.heap.size X V):=by
      rw [<-b7.out];exact J
     clear J;go_upto_region 16 with fail;refine wp_region_held_drew (S:=fun X=>X.cell? ⟨pm,0,none⟩=some (.int .u64 ver)/\X.rangeAt pm 30 lt) (by kernel_rfl) (t.out _ (af _ _).drew).1 (fun r=>?_);refine tkq 0 rfl (v:=?_) (ac ⟨by rfl,?z40⟩) ?_
     case z40=>intro w b;obtain ⟨f,d⟩:=b;go_simp;all_goals with_reducible rfl
     try simp only [sqx,ae]
     refine tkq 1 rfl (v:=?_) (ac ⟨by rfl,?z41⟩) ?_
     case z41=>intro w b;obtain ⟨f,d⟩:=b;go_simp;all_goals with_reducible rfl
     try simp only [sqx,ae]
     refine tkq 2 rfl (v:=?_) (ac ⟨by rfl,?z42⟩) ?_
     case z42=>intro w b;obtain ⟨f,d⟩:=b;go_simp;all_goals with_reducible rfl
     try simp only [sqx,ae]
     refine tkq 3 rfl (v:=?_) (ac ⟨by rfl,?z43⟩) ?_
     case z43=>intro w b;obtain ⟨f,d⟩:=b;go_simp;all_goals with_reducible rfl
     try simp only [sqx,ae]
     refine tkq 4 rfl (v:=?_) (ac ⟨by rfl,?z44⟩) ?_
     case z44=>intro w b;obtain ⟨f,d⟩:=b;go_simp;all_goals with_reducible rfl
     try simp only [sqx,ae]
     refine tkq 5 rfl (v:=?_) (ac ⟨by rfl,?z45⟩) ?_
     case z45=>intro w b;obtain ⟨f,d⟩:=b;go_simp;all_goals with_reducible rfl
     try simp only [sqx,ae]
     refine tkq 6 rfl (v:=?_) (ac ⟨by rfl,?z46⟩) ?_
     case z46=>intro w b;obtain ⟨f,d⟩:=b;go_simp;all_goals with_reducible rfl
     try simp only [sqx,ae]
     refine tkq 7 rfl (v:=?_) (ac ⟨by rfl,?z47⟩) ?_
     case z47=>intro w b;obtain ⟨f,d⟩:=b;go_simp;all_goals with_reducible rfl
     try simp only [sqx,ae]
     refine tkq 8 rfl (v:=?_) (ac ⟨by rfl,?z48⟩) ?_
     case z48=>intro w b;obtain ⟨f,d⟩:=b;go_simp;all_goals with_reducible rfl
     try simp only [sqx,ae]
     refine tkq 9 rfl (v:=?_) (ac ⟨by rfl,?z49⟩) ?_
     case z49=>intro w b;obtain ⟨f,d⟩:=b;go_simp;all_goals with_reducible rfl
     try simp only [sqx,ae]
     refine tkq 10 rfl (v:=?_) (ac ⟨by rfl,?z50⟩) ?_
     case z50=>intro w b;obtain ⟨f,d⟩:=b;go_simp;all_goals with_reducible rfl
     try simp only [sqx,ae]
     refine tkq 11 rfl (v:=.agg AT) (j7 (by rfl) _ _ rfl _ _ rfl AT lt _ (fun _ h=>h.2) Q underlying39 rfl C) ?_
     try simp only [sqx,ae]
     refine tkq 14 rfl (v:=?_) (ac ⟨by rfl,?z51⟩) ?_
     case z51=>intro w b;obtain ⟨f,d⟩:=b;go_simp;all_goals with_reducible rfl
     try simp only [sqx,ae]
     refine wpAnyH_ready (rs:=[12]) (by kernel_rfl) (by simp) ?_;refine ag rfl (fun K hK=>?_) ah;go_simp
     with_reducible refine ((t.out _ (af _ _).drew).2).mono ?_
     rintro e V3 ⟨ra,b5,rfl,G⟩
     try go_wp2_with fail
     have o:=jo G;have I:=(t.out _ o).1;have Z:Hid (DcF w V3 ((z,.cells A acT (0,0))::F) pm ver c (some c1) (fun s l=>TxA w s p h m N D' (ver+1) (all++[jt (ver+1) c1]) ps (ver+1) c1 none n l)):=u.out.join o;refine hK.out _ _ I (fun r=>?_);clear hK K
     try simp only [sqx,ae]
     refine tkq 13 rfl (v:=?_) (ac ⟨by rfl,?z52⟩) ?_
     case z52=>intro w b;obtain ⟨f,d⟩:=b;go_simp;all_goals with_reducible rfl
     try simp only [sqx,ae]
     refine tkq 15 rfl (v:=?_) (ac ⟨by rfl,?z53⟩) ?_
     case z53=>intro w b;obtain ⟨f,d⟩:=b;go_simp;all_goals with_reducible rfl
     try simp only [sqx,ae]
     refine tkq 16 rfl (v:=?_) (ac ⟨by rfl,?z54⟩) ?_
     case z54=>intro w b;obtain ⟨f,d⟩:=b;go_simp;all_goals with_reducible rfl
     try simp only [sqx,ae]
     refine wpAnyH_done (by kernel_rfl) ?_ _;clear t Q u G o I;have CT:=jh6 Z.out a7.out;clear Z;go_wp2_with fail;refine CT.mono ?_;rintro e V4 ⟨rfl,Y⟩;have m0:=Y.read;have b8:Hid (DcF w V4 ((z,.cells A acT (0,0))::F) pm (ver+1) c1 none (fun s l=>TxA w s p h m N D' (ver+1) (all++[jt (ver+1) c1]) ps (ver+1) c1 none n l)):=Y;clear CT Y;have g2:((ver+1) != (ver+1))=false:=by simp
     go_wp2_with fail;go_ret2;obtain ⟨l,y1,y2⟩:=b8.out.end;exact ac ⟨0,D',_,ver+1,c1,none,rfl,HQ.out.2.1,ad rfl,HQ.out.1,HQ.out.2.2,by have:=HZ.out.2.1;simp;omega,l,y1.less (fun x hx=>by simp [hx]),y2.grow (ab _)⟩
    ·have HD:Hid (DcF w V1 ((z,.cells A acT (0,0))::F) pm ver c (some c1) (fun s l=>TxD w s p h m N (ver+1) all ps ver c n l\/TxD w s p h m N (ver+1) (all++[jt (ver+1) c1]) ps ver c n l)):=by
      rcases q4 with q|q
      ·obtain ⟨R,r1,r2⟩:=q.frame;exact ⟨L,R,a9.out,r1,fun s l h=>ac (r2 _ _ h)⟩
      ·obtain ⟨R,r1,r2⟩:=q.frame;exact ⟨L,R,a9.out,r1,fun s l h=>ad (r2 _ _ h)⟩
     have HQ:Hid (D.set=true/\Rst (all++[jt (ver+1) c1]) (ver+1) c1):=⟨q2,q3⟩;clear q2 q3 q4;have CK:=j70 (a8.out _ HD.out.below) HD.out y.out.1 y.out.2;rw [E] at CK;go_wp2_with fail;refine CK.mono ?_;rintro e V2 ⟨rfl,M⟩;have u:Hid (DcF w V2 ((z,.cells A acT (0,0))::F) pm ver c (some c1) (fun s l=>TxD w s p h m N (ver+1) all ps ver c n l\/TxD w s p h m N (ver+1) (all++[jt (ver+1) c1]) ps ver c n l)):=M;clear CK M HD;have i:=O.out;rw [T] at i;have U:kk=0:=by
      by_cases h:kk=0
      ·exact h
      ·rw [if_neg h] at i;exact absurd i.symm h
     subst U;rw [if_pos rfl] at i;have b6:¬rn<ln:=by
      intro h;rw [if_pos h] at i;cases i
     have g1:¬((rn:Int)<(ln:Int)):=by omega
     clear i T O E a6 a5;obtain ⟨lt,AT,Q,C,J⟩:=u.out.readT y.out.1 y.out.2 a7.out;have t:Hid (∀ X,Below V2.heap.size V2 X->(X.cell? ⟨pm,0,none⟩=some (.int .u64 ver)/\X.rangeAt pm 30 lt)/\Calls prog 46 #[.int .u64 (ver+1),.agg AT] X fun e V=>∃ a cap,e=.returned (.slice a ln cap)/\Below X.heap.size X V):=by
      rw [<-b7.out];exact J
     clear J;go_upto_region 16 with fail;refine wp_region_held_drew (S:=fun X=>X.cell? ⟨pm,0,none⟩=some (.int .u64 ver)/\X.rangeAt pm 30 lt) (by kernel_rfl) (t.out _ (af _ _).drew).1 (fun r=>?_);refine tkq 0 rfl (v:=?_) (ac ⟨by rfl,?z55⟩) ?_
     case z55=>intro w b;obtain ⟨f,d⟩:=b;go_simp;all_goals with_reducible rfl
     try simp only [sqx,ae]
     refine tkq 1 rfl (v:=?_) (ac ⟨by rfl,?z56⟩) ?_
     case z56=>intro w b;obtain ⟨f,d⟩:=b;go_simp;all_goals with_reducible rfl
     try simp only [sqx,ae]
     refine tkq 2 rfl (v:=?_) (ac ⟨by rfl,?z57⟩) ?_
     case z57=>intro w b;obtain ⟨f,d⟩:=b;go_simp;all_goals with_reducible rfl
     try simp only [sqx,ae]
     refine tkq 3 rfl (v:=?_) (ac ⟨by rfl,?z58⟩) ?_
     case z58=>intro w b;obtain ⟨f,d⟩:=b;go_simp;all_goals with_reducible rfl
     try simp only [sqx,ae]
     refine tkq 4 rfl (v:=?_) (ac ⟨by rfl,?z59⟩) ?_
     case z59=>intro w b;obtain ⟨f,d⟩:=b;go_simp;all_goals with_reducible rfl
     try simp only [sqx,ae]
     refine tkq 5 rfl (v:=?_) (ac ⟨by rfl,?z60⟩) ?_
     case z60=>intro w b;obtain ⟨f,d⟩:=b;go_simp;all_goals with_reducible rfl
     try simp only [sqx,ae]
     refine tkq 6 rfl (v:=?_) (ac ⟨by rfl,?z61⟩) ?_
     case z61=>intro w b;obtain ⟨f,d⟩:=b;go_simp;all_goals with_reducible rfl
     try simp only [sqx,ae]
     refine tkq 7 rfl (v:=?_) (ac ⟨by rfl,?z62⟩) ?_
     case z62=>intro w b;obtain ⟨f,d⟩:=b;go_simp;all_goals with_reducible rfl
     try simp only [sqx,ae]
     refine tkq 8 rfl (v:=?_) (ac ⟨by rfl,?z63⟩) ?_
     case z63=>intro w b;obtain ⟨f,d⟩:=b;go_simp;all_goals with_reducible rfl
     try simp only [sqx,ae]
     refine tkq 9 rfl (v:=?_) (ac ⟨by rfl,?z64⟩) ?_
     case z64=>intro w b;obtain ⟨f,d⟩:=b;go_simp;all_goals with_reducible rfl
     try simp only [sqx,ae]
     refine tkq 10 rfl (v:=?_) (ac ⟨by rfl,?z65⟩) ?_
     case z65=>intro w b;obtain ⟨f,d⟩:=b;go_simp;all_goals with_reducible rfl
     try simp only [sqx,ae]
     refine tkq 11 rfl (v:=.agg AT) (j7 (by rfl) _ _ rfl _ _ rfl AT lt _ (fun _ h=>h.2) Q underlying39 rfl C) ?_
     try simp only [sqx,ae]
     refine tkq 14 rfl (v:=?_) (ac ⟨by rfl,?z66⟩) ?_
     case z66=>intro w b;obtain ⟨f,d⟩:=b;go_simp;all_goals with_reducible rfl
     try simp only [sqx,ae]
     refine wpAnyH_ready (rs:=[12]) (by kernel_rfl) (by simp) ?_;refine ag rfl (fun K hK=>?_) ah;go_simp
     with_reducible refine ((t.out _ (af _ _).drew).2).mono ?_
     rintro e V3 ⟨ra,b5,rfl,G⟩
     try go_wp2_with fail
     have o:=jo G;have I:=(t.out _ o).1;have Z:Hid (DcF w V3 ((z,.cells A acT (0,0))::F) pm ver c (some c1) (fun s l=>TxD w s p h m N (ver+1) all ps ver c n l\/TxD w s p h m N (ver+1) (all++[jt (ver+1) c1]) ps ver c n l)):=u.out.join o;refine hK.out _ _ I (fun r=>?_);clear hK K
     try simp only [sqx,ae]
     refine tkq 13 rfl (v:=?_) (ac ⟨by rfl,?z67⟩) ?_
     case z67=>intro w b;obtain ⟨f,d⟩:=b;go_simp;all_goals with_reducible rfl
     try simp only [sqx,ae]
     refine tkq 15 rfl (v:=?_) (ac ⟨by rfl,?z68⟩) ?_
     case z68=>intro w b;obtain ⟨f,d⟩:=b;go_simp;all_goals with_reducible rfl
     try simp only [sqx,ae]
     refine tkq 16 rfl (v:=?_) (ac ⟨by rfl,?z69⟩) ?_
     case z69=>intro w b;obtain ⟨f,d⟩:=b;go_simp;all_goals with_reducible rfl
     try simp only [sqx,ae]
     refine wpAnyH_done (by kernel_rfl) ?_ _;clear t Q u G o I;have CT:=jh6 Z.out a7.out;clear Z;go_wp2_with fail;refine CT.mono ?_;rintro e V4 ⟨rfl,Y⟩;have m0:=Y.read;have b8:Hid (DcF w V4 ((z,.cells A acT (0,0))::F) pm (ver+1) c1 none (fun s l=>TxD w s p h m N (ver+1) all ps ver c n l\/TxD w s p h m N (ver+1) (all++[jt (ver+1) c1]) ps ver c n l)):=Y;clear CT Y;have g2:((0:Int) != (ver+1))=true:=by simp;omega
     go_wp2_with fail;go_ret2;obtain ⟨l,y1,y2⟩:=b8.out.end;exact ad ⟨rfl,HQ.out.1,c1,l,rfl,HZ.out.1,HQ.out.2,fun x hx=>y1.keeps x (by simp [hx]),y2.imp (fun h=>h.grow (ab _)) (fun h=>h.grow (ab _))⟩
end
section
variable {w W:World} {F:List (Nat×Obj)} {p h m N:Nat} {D:Dk} {all:List (List Int)} {ps pm:Nat} {ver:Int} {c:Cgf} {st:Option Cgf} {n:Nat}
theorem ActsW.at_ {X:Nat->Ac} (h:ActsW w a k X) (hb:Below w.heap.size w W):ActsW W a k X:=by
 intro i hi;obtain ⟨b,f,e,q,o,d⟩:=h i hi;refine ⟨b,f,e,fun j v l=>?_,o,⟨d.what,d.v,d.kind,d.nn,d.len,Rws.at_ d.rws hb,d.tby,d.trg,d.tsv.at_ hb (aa _),d.cin,d.crg,d.ten⟩⟩;have g:=q j v l;exact (hb.cell (p:=⟨b,f+i*70+j,none⟩) (j9 g)).trans g
theorem Sd.base (H:Sd w0 W p h m N D B all L) (hb:Below w.heap.size w w0):Sd w W p h m N D B all L:=by
 obtain ⟨hc,e,K,b,g,f⟩:=H.at_;have d:=b.st.mem;exact ⟨hc,e,K,⟨⟨⟨hb.trans (d.below.mono hb.size),fun x hx=>Nat.le_trans hb.size (d.low x hx),d.at_,d.apart⟩,b.st.heads,b.st.ok⟩,b.pos,b.top,b.mlo,b.mhi,b.left,b.pre⟩,g,f⟩
abbrev mZ:Array Value:=(mA 0 cfg0 nilV cfg0 nilV false).toArray
theorem jpa (X:World):(Instr.build 41 #[]).run prog X=.ok (.agg mZ) X:=by kernel_rfl
theorem jsi (H:TxA w W p h m N D 0 [] ps 0 cfg0 none n []) (b:D.dead=false):Bo w (W.alloc (.cells mZ mT)) [] p h m N D [] ps W.heap.size 0 cfg0 none n :=
 ⟨b,ac ⟨rfl,rfl,rfl⟩,rfl,[bxM W.heap.size 0 cfg0 nilV cfg0 nilV false],jq9 W.heap.size,H.push ((Mem.nil W).push1 rfl)⟩
theorem jpc (H:Bo w W F p h m N D all ps pm ver c st n):Calls prog 14 #[.pointer (some ⟨p,0,none⟩)] W fun e d=>e=.returned (.int .i64 (room N m))/\W=d:=by
 obtain ⟨j,i,g,L,f,b⟩:=H;exact jn7 b.sd
theorem jpd (H:Bo w W F p h m N D all ps pm ver c st n):Calls prog 21 #[.pointer (some ⟨p,0,none⟩)] W fun e f=>e=.returned (.bool false)/\W=f:=by
 obtain ⟨d,j,i,L,g,b⟩:=H;have:=jf8 b.sd;rw [d] at this;exact this
end
end
end Go.Proofs.YtdigofgjhaakmaaGreatDoor
