/- Parts of the proof. -/
import Derived.Test.YtdigofgjhaakmaaGreatDoorF23
import Derived.Stop.LaidErr
set_option linter.all false
set_option maxHeartbeats 40000000
set_option maxRecDepth 20000
open Go.Proofs.Tryz
open List renaming range->aa,mem_singleton->ab,getD->ac,getElem?_eq_getElem->ad,take_add_one->ae,take_length->af,length_map->ag,length_drop->ah
open Nat renaming add_zero->ai,zero_le->aj,le_refl->ak
open Go.RowKit.Below renaming refl->al
open Go.Act renaming eval->am
open Go.Lib renaming decodeGo->an,decodeL->ao
namespace Go.Proofs.YtdigofgjhaakmaaGreatDoor
variable {caps A:Array Value} {w W W' V:World} {v r:Value} {k i c sz n:Nat} {l:List Int} {first b B:Bool} {a:Option Addr} {s:ByteArray} {e:Int}
section
open Go.ChangeShapes Go.WideShapes Go.RowKit
abbrev jjx : List (String × DataW Unit) := [("unicode/utf8.acceptRanges", Rows.laid_unicode_utf8_acceptRanges), ("lych/log.errNotWhole", Rows.laid_lych_log_errNotWhole), ("unicode/utf8.first", Rows.laid_unicode_utf8_first)]
abbrev laidB : List (String × DataW Unit) := [("unicode/utf8.acceptRanges", Rows.laid_unicode_utf8_acceptRanges), ("errors.errorType", Rows.laid_errors_errorType), ("lych/log.errNotWhole", Rows.laid_lych_log_errNotWhole), ("unicode/utf8.first", Rows.laid_unicode_utf8_first)]
theorem jsy : prog.globalNamed "errors.errorType" = some 1 := by kernel_rfl
theorem jr1 : prog.globalNamed "lych/log.errNotWhole" = some 0 := by kernel_rfl
theorem jg9:(prog.globals[0]?).map (·.type)=some 134:=by kernel_rfl
theorem jsx : (prog.cutTypes.find? (·.1 == "internal/reflectlite.rtype")).map (·.2) = some 192 := by kernel_rfl
theorem jg8:((aa 373).filter fun t=>prog.rowNamed t [101,114,114,111,114])=[134]:=by kernel_rfl
theorem jo7:prog.types.size=373:=by kernel_rfl
theorem jg7 : "*" ++ "errors.errorString" = "*errors.errorString" := by decide
theorem jr0 (u : TypeId) (h : prog.typeName? 3 u = some "*errors.errorString") : u = 342 :=
 typeName_ptr_named (nm := "errors.errorString") (by rw [jg7]; kernel_rfl) (by kernel_rfl) (by decide) u (by rw [jg7]; exact h)
theorem jgb:prog.cellsOf 362=1:=by kernel_rfl
theorem jga:prog.cellsOf 9=1:=by kernel_rfl
theorem jgh {P:Program} {x:String×DataW Unit} {r:List (String×DataW Unit)} (h:laidMet P (x::r) W):laidMet P r W:=by
 obtain ⟨D,⟨g0,C,z,F,E,g,t,m,j,u,hr,y⟩,p,d⟩:=h;subst y;exact ⟨g,hr,(List.nodup_append.mp p).2.1,fun b f q=>d b f (List.mem_append_right _ q)⟩
theorem laid_both (h:laidMetH prog laidB W) (hs:W.ShapedOpen prog):Vs W/\∃ a,Gl W a:=by
 have h' : laidMet prog jjx W /\ handlesMet prog [("errors.errorType", Rows.laid_errors_errorType)] W := h
 constructor
 ·have h3 := Lib.laidMet.reads h'.1 (n := "unicode/utf8.first") (d := Rows.laid_unicode_utf8_first) (by simp)
  have h4 := Lib.laidMet.reads h'.1 (n := "unicode/utf8.acceptRanges") (d := Rows.laid_unicode_utf8_acceptRanges) (by simp)
  rw [jjy] at h3;rw [jr5] at h4;exact ⟨utf8Tabs_of_readsT (U8Types.of196 Tryz.lays196) jjz h3 h4⟩
 ·obtain ⟨name,u,ty,e1,e2,e3,e4,e5⟩:=h'.2 _ (ab.2 rfl);have en:name=[101,114,114,111,114]:=(Option.some.inj e1).symm;subst en;obtain rfl:=Option.some.inj (jsx.symm.trans e2);have hm:ty∈(aa 373).filter fun t=>prog.rowNamed t [101,114,114,111,114]:=List.mem_filter.2 ⟨List.mem_range.2 (by rw [<-jo7];exact e3),e4⟩;rw [jg8] at hm;obtain rfl:=ab.1 hm;have hh:typeHandle prog 134=.pointer (some ⟨4,134,none⟩):=by kernel_rfl
  rw [hh] at e5;have h5:=jgh h'.1;obtain ⟨a0,s0,hv0,_⟩:=laid_sentinel h5 jr1 jg9 underlying134 jr0 underlying342 underlying362 rfl rfl underlying9 jgb jga;exact ⟨a0,by simpa using World.var?_cell jr1 hv0 0,by simpa using World.var?_cell jsy e5 0⟩
noncomputable def laidWB (os:Os):World :=
 { World.laidAll prog os jjx with heap:=(World.laidAll prog os jjx).heap.modify 1 fun
   | .cells _ t frozen=>.cells #[.iface 192 (.agg #[.pointer (some ⟨4,134,none⟩)])] t frozen
   | o=>o }
theorem laidWB_met (os:Os) (args:Array Value):laidMetH prog laidB ((laidWB os).forCall (fun _ _=>0) ⟨#[],args,[]⟩).memory :=
 laidMetH_of_parts (laidMet_of_run' 8 (by kernel_rfl) (by kernel_rfl)) (by kernel_rfl)
theorem laidWB_os (os:Os):(laidWB os).os=os:=World.laidAll_os prog os jjx
end
section
open Go.RowKit Va
def Clo (W:World) (k:Nat) (caps args:Array Value) (r:Value):Prop:=∀ V,Below W.heap.size W V->Calls prog k (args++caps) V fun e V'=>e=.returned r/\Below V.heap.size V V'
def Enr (k:Nat):Prop:=∀ args V,(callFunc k args).run prog V=.ok (.enter k args) V
theorem Clo.later {args:Array Value} (h:Clo W k caps args r) (hb:Below W.heap.size W W'):Clo W' k caps args r:=fun V d=>h V (hb.trans (d.mono hb.size))
def PrU (W:World) (k:Nat) (caps:Array Value) (f:Int->Bool):Prop:=Enr k/\∀ x,Clo W k caps #[.int .u32 x] (.bool (f x))
def PrP (W:World) (k:Nat) (caps:Array Value) (f:Int×Int->Bool):Prop:=Enr k/\∀ x y,Clo W k caps #[.agg #[.int .u32 x,.int .u32 y]] (.bool (f (x,y)))
def TSm (t:Ten):Prop:=t.name.size<=1000000/\t.pool.length<=1000000/\t.stat.length<=1000000/\t.twi.length<=1000000
def PrT (W:World) (k:Nat) (caps:Array Value) (f:Ten->Bool):Prop:=Enr k/\∀ V v t,Below W.heap.size W V->TV V v t->TSm t->Calls prog k (#[v]++caps) V fun e V'=>e=.returned (.bool (f t))/\Below V.heap.size V V'
def Rul (W:World) (k:Nat) (caps:Array Value) (e:Int):Prop:=Enr k/\Clo W k caps #[] (.int .i64 e)
def Ask (W:World) (k:Nat) (caps:Array Value) (b:Bool):Prop:=Enr k/\Clo W k caps #[] (.bool b)
theorem PrU.later {f:Int->Bool} (h:PrU W k caps f) (hb:Below W.heap.size W W'):PrU W' k caps f:=⟨h.1,fun x=>(h.2 x).later hb⟩
theorem PrT.later {f:Ten->Bool} (h:PrT W k caps f) (hb:Below W.heap.size W W'):PrT W' k caps f:=⟨h.1,fun V v t j d g=>h.2 V v t (hb.trans (j.mono hb.size)) d g⟩
theorem Rul.later (h:Rul W k caps e) (hb:Below W.heap.size W W'):Rul W' k caps e:=⟨h.1,h.2.later hb⟩
theorem Ask.later (h:Ask W k caps b) (hb:Below W.heap.size W W'):Ask W' k caps b:=⟨h.1,h.2.later hb⟩
theorem rw_u (h:Rw w 1 v (ux l)):∃ a c,v=.slice a l.length c/\l.length<=c/\c<=9223372036854775807/\∀ i,i<l.length->∃ b d,a=some ⟨b,d,none⟩/\∀ V,Below w.heap.size w V->V.cell? ⟨b,d+i,none⟩=some (.int .u32 (l.getD i 0)):=by
 have f:(ux l).length=l.length:=by simp [ux]
 obtain ⟨a,c,rfl,j,q,t,g⟩:=h;rw [f] at j g ⊢;refine ⟨a,c,rfl,j,q,fun i hi=>?_⟩;rcases g with e|⟨b,d,rfl,hc⟩
 ·rw [e] at f;simp at f;omega
 ·refine ⟨b,d,rfl,fun V m=>?_⟩;have:=hc i hi 0 (.int .u32 (l.getD i 0)) (by simp [ux,ac,ad hi]);rw [Nat.mul_one,ai] at this;rw [m.cell (p:=⟨b,d+i,none⟩) (j9 this)];exact this
theorem rw_p {l:List (Int×Int)} (h:Rw w 2 v (px l)):∃ a c,v=.slice a l.length c/\l.length<=c/\c<=9223372036854775807/\∀ i,i<l.length->∃ b d,a=some ⟨b,d,none⟩/\∀ V,Below w.heap.size w V->V.cell? ⟨b,d+i*2,none⟩=some (.int .u32 (l.getD i (0,0)).1)/\V.cell? ⟨b,d+i*2+1,none⟩=some (.int .u32 (l.getD i (0,0)).2):=by
 have g:(px l).length=l.length:=by simp [px]
 obtain ⟨a,c,rfl,t,u,x,q⟩:=h;rw [g] at t q ⊢;refine ⟨a,c,rfl,t,u,fun i hi=>?_⟩;rcases q with e|⟨b,d,rfl,hc⟩
 ·rw [e] at g;simp at g;omega
 ·refine ⟨b,d,rfl,fun V m=>?_⟩;have f:=hc i hi 0 (.int .u32 (l.getD i (0,0)).1) (by simp [px,ac,ad hi]);have j:=hc i hi 1 (.int .u32 (l.getD i (0,0)).2) (by simp [px,ac,ad hi]);rw [ai] at f;rw [m.cell (p:=⟨b,d+i*2,none⟩) (j9 f),m.cell (p:=⟨b,d+i*2+1,none⟩) (j9 j)];exact ⟨f,j⟩
theorem Rw.head {xs:List (List Value)} (h:Rw w sz (.slice a n c) xs) (i:Nat) (hi:i<=xs.length):Rw w sz (.slice a i c) (xs.take i):=by
 obtain ⟨z,y,e,x,q,p,m⟩:=h;simp only [Value.slice.injEq] at e;obtain ⟨rfl,-,rfl⟩:=e;have g:(xs.take i).length=i:=by simp;omega
 refine ⟨a,c,by rw [g],by omega,q,p,?_⟩;rcases m with e|⟨b,off,rfl,hc⟩
 ·exact Or.inl (by rw [e];simp)
 ·refine Or.inr ⟨b,off,rfl,fun j t u v f=>hc j (by omega) u v ?_⟩;have d:j<i:=by omega
  rwa [show (xs.take i).getD j []=xs.getD j [] by simp [ac,d]] at f
theorem jee (l:List Int) (i:Nat):(ux l).take i=ux (l.take i):=by simp [ux,List.map_take]
theorem j5j {α:Type} {f:α->Bool} {l:List α} {d:α} (h:(l.take i).any f=false) (hi:i<l.length) (g:f (l.getD i d)=false):(l.take (i+1)).any f=false:=by
 rw [ae,List.any_append,h,ad hi];simpa [ac,ad hi] using g
theorem j2l {α:Type} {f:α->Bool} {l:List α} {d:α} (hi:i<l.length) (g:f (l.getD i d)=true):l.any f=true:=by
 rw [List.any_eq_true];exact ⟨l.getD i d,by simp [ac,ad hi],g⟩
theorem j2m {α:Type} {f:α->Bool} {l:List α} (h:(l.take l.length).any f=false):l.any f=false:=by rwa [af] at h
theorem jog (h:Rw w 1 v (ux l)) (hb:l.length<=1000000) (x:Int) :
  Calls prog 257 #[v,.int .u32 x] w fun e w'=>∃ m:Int,e=.returned (.int .i64 m)/\decide (0<=m)=hs l x/\w=w':=by
 obtain ⟨a,c,rfl,H,I,hx⟩:=rw_u h;have u:Hid (∀ i,i<l.length->∃ b f,a=some ⟨b,f,none⟩/\w.cell? ⟨b,f+i,none⟩=some (.int .u32 (l.getD i 0))):=by
  intro i hi;obtain ⟨b,f,G,J⟩:=hx i hi;exact ⟨b,f,G,J _ (al _ _)⟩
 have t:Hid (∀ i,i<l.length->(x==l.getD i 0)=true->hs l x=true):=fun i hi F=>j2l (d:=0) hi F;have C:Hid (∀ i,i<l.length->hs (l.take i) x=false->(x==l.getD i 0)=false->hs (l.take (i+1)) x=false):=fun i hi g F=>j5j (d:=0) g hi F;have D:Hid (hs (l.take l.length) x=false->hs l x=false):=j2m;have E:Hid (hs (l.take 0) x=false):=rfl;clear h hx;generalize l.length=n at *;go_enter func257,ntmps257;go_wp2_with fail
 go_loopw [8] (fun u8 w'=>∃ i:Nat,i<=n/\u8=.int .i64 i/\Hid (hs (l.take i) x=false/\w=w')) (fun u8 w'=>n-(intOf u8).toNat)
 case atStart=>exact ⟨0,aj _,rfl,E.out,rfl⟩
 case round =>
  obtain ⟨i,hi,rfl,z⟩:=hrel;obtain ⟨g,rfl⟩:=z.out;by_cases hlt:i<n
  ·have G:(i:Int)<n:=by omega
   obtain ⟨b,f,rfl,K⟩:=u.out i hlt;have j:=t.out i hlt;have p:=C.out i hlt g;generalize l.getD i 0=y at *;cases hxy:(x==y) with
   | true =>
    have q:Hid (hs l x=true):=j hxy;clear j p u t C D E z g;go_wp2_with fail;go_ret;exact ⟨(i:Int),rfl,by rw [q.out];simp,rfl⟩
   | false =>
    have q:Hid (hs (l.take (i+1)) x=false/\True):=⟨p hxy,trivial⟩;clear j p u t C D E z g;go_wp2_with fail;go_roundw
    case rel=>exact ⟨i+1,by omega,by go_num,q⟩
    case measure=>simp [intOf];omega
  ·have G:¬((i:Int)<n):=by omega
   obtain rfl:i=n:=by omega
   have q:Hid (hs l x=false):=D.out g;clear u t C D E z g;go_wp2_with fail;go_ret;exact ⟨-1,rfl,by rw [q.out];rfl,rfl⟩
theorem j5f (h:Rw w 1 v (ux l)) (hb:l.length<=1000000) (x:Int) :
  Calls prog 166 #[v,.int .u32 x] w fun e w'=>e=.returned (.bool (hs l x))/\w=w':=by
 have C:=jog h hb x;clear h hb;generalize hs l x=R at *;go_enter func166,ntmps166;go_wp2_with fail;refine C.mono ?_;rintro e _ ⟨m,rfl,d,rfl⟩;go_wp2_with fail;go_ret;exact ⟨by rw [<-d];rfl,rfl⟩
theorem jk5 (h:Rw w 1 v (ux l)) (hb:l.length<=1000000) {f:Int->Bool} (D:PrU w k caps f) :
  Calls prog 203 #[v,.func (.func k) #[] caps] w fun e w'=>∃ m:Int,e=.returned (.int .i64 m)/\decide (0<=m)=l.any f/\Below w.heap.size w w':=by
 obtain ⟨a,c,rfl,N,O,hx⟩:=rw_u h;have H:Hid (∀ i,i<l.length->∃ b q,a=some ⟨b,q,none⟩/\∀ V,Below w.heap.size w V->V.cell? ⟨b,q+i,none⟩=some (.int .u32 (l.getD i 0))):=hx;have x:Hid (∀ i,i<l.length->f (l.getD i 0)=true->l.any f=true):=fun i hi E=>j2l (d:=0) hi E;have z:Hid (∀ i,i<l.length->(l.take i).any f=false->f (l.getD i 0)=false->(l.take (i+1)).any f=false):=fun i hi T E=>j5j (d:=0) T hi E;have J:Hid ((l.take l.length).any f=false->l.any f=false):=j2m;have L:Hid ((l.take 0).any f=false/\Below w.heap.size w w):=⟨rfl,al _ _⟩;have U:∀ args V,(callFunc k args).run prog V=.ok (.enter k args) V:=D.1;have K:Hid (PrU w k caps f):=D;clear h hx D;generalize l.length=n at *;generalize l.any f=R at *;go_enter func203,ntmps203;go_wp2_with fail
 go_loopw [8] (fun u8 w'=>∃ i:Nat,i<=n/\u8=.int .i64 i/\Hid ((l.take i).any f=false/\Below w.heap.size w w')) (fun u8 w'=>n-(intOf u8).toNat)
 case atStart=>exact ⟨0,aj _,rfl,L⟩
 case round =>
  obtain ⟨i,hi,rfl,j⟩:=hrel;by_cases hlt:i<n
  ·have S:(i:Int)<n:=by omega
   obtain ⟨b,q,rfl,hd⟩:=H.out i hlt;have F:=hd _ j.out.2;have C:=K.out.2 (l.getD i 0) _ j.out.2;clear hd;obtain ⟨y,M⟩:∃ y,l.getD i 0=y:=⟨_,rfl⟩;have x:=x.out i hlt;have z:=z.out i hlt j.out.1;rw [M] at F C x z;clear M;have t:Hid (f y=true->R=true):=x;have u:Hid (f y=false->(l.take (i+1)).any f=false):=z;have p:Hid (Below w.heap.size w wr):=j.out.2;clear H x z J L j K;generalize f y=B at *;cases B with
   | true =>
    obtain rfl:=t.out rfl;go_wp2_with fail;refine C.mono ?_;rintro e G ⟨rfl,g⟩;have I:Hid (Below w.heap.size w G):=p.out.trans (g.mono p.out.size);clear C p g t u F;go_wp2_with fail;go_ret;exact ⟨(i:Int),rfl,by simp,I.out⟩
   | false =>
    have P:=u.out rfl;go_wp2_with fail;refine C.mono ?_;rintro e G ⟨rfl,g⟩;have I:Hid ((l.take (i+1)).any f=false/\Below w.heap.size w G):=⟨P,p.out.trans (g.mono p.out.size)⟩;clear C p g t u F;go_wp2_with fail;go_roundw
    case rel=>exact ⟨i+1,by omega,by go_num,I⟩
    case measure=>simp [intOf];omega
  ·have S:¬((i:Int)<n):=by omega
   obtain rfl:i=n:=by omega
   obtain rfl:=J.out j.out.1;have p:Hid (Below w.heap.size w wr):=j.out.2;clear H x z J L j K;go_wp2_with fail;go_ret;exact ⟨-1,rfl,by decide,p.out⟩
theorem j1d (h:Rw w 1 v (ux l)) (hb:l.length<=1000000) {f:Int->Bool} (d:PrU w k caps f) :
  Calls prog 141 #[v,.func (.func k) #[] caps] w fun e w'=>e=.returned (.bool (l.any f))/\Below w.heap.size w w':=by
 have C:=jk5 h hb d;clear h hb d;generalize l.any f=R at *;go_enter func141,ntmps141;go_wp2_with fail;refine C.mono ?_;rintro e _ ⟨m,rfl,g,hb⟩;go_wp2_with fail;go_ret;exact ⟨by rw [<-g];rfl,hb⟩
theorem jk7 {l:List (Int×Int)} (h:Rw w 2 v (px l)) (hb:l.length<=1000000) {f:(Int×Int)->Bool} (H:PrP w k caps f) :
  Calls prog 204 #[v,.func (.func k) #[] caps] w fun e w'=>∃ m:Int,e=.returned (.int .i64 m)/\decide (0<=m)=l.any f/\Below w.heap.size w w':=by
 obtain ⟨a,c,rfl,S,T,hx⟩:=rw_p h;have K:Hid (∀ i,i<l.length->∃ b j,a=some ⟨b,j,none⟩/\∀ V,Below w.heap.size w V->V.cell? ⟨b,j+i*2,none⟩=some (.int .u32 (l.getD i (0,0)).1)/\V.cell? ⟨b,j+i*2+1,none⟩=some (.int .u32 (l.getD i (0,0)).2)):=hx;have x:Hid (∀ i,i<l.length->f (l.getD i (0,0))=true->l.any f=true):=fun i hi I=>j2l (d:=(0,0)) hi I;have z:Hid (∀ i,i<l.length->(l.take i).any f=false->f (l.getD i (0,0))=false->(l.take (i+1)).any f=false):=fun i hi Y I=>j5j (d:=(0,0)) Y hi I;have M:Hid ((l.take l.length).any f=false->l.any f=false):=j2m;have O:Hid ((l.take 0).any f=false/\Below w.heap.size w w):=⟨rfl,al _ _⟩;have Z:∀ args V,(callFunc k args).run prog V=.ok (.enter k args) V:=H.1;have N:Hid (PrP w k caps f):=H;clear h hx H;generalize l.length=n at *;generalize l.any f=R at *;go_enter func204,ntmps204;go_wp2_with fail
 go_loopw [8] (fun u8 w'=>∃ i:Nat,i<=n/\u8=.int .i64 i/\Hid ((l.take i).any f=false/\Below w.heap.size w w')) (fun u8 w'=>n-(intOf u8).toNat)
 case atStart=>exact ⟨0,aj _,rfl,O⟩
 case round =>
  obtain ⟨i,hi,rfl,p⟩:=hrel;by_cases hlt:i<n
  ·have X:(i:Int)<n:=by omega
   obtain ⟨b,j,rfl,hd⟩:=K.out i hlt;obtain ⟨G,F⟩:=hd _ p.out.2;clear hd;obtain ⟨⟨E,D⟩,P⟩:∃ y,l.getD i (0,0)=y:=⟨_,rfl⟩;have C:=N.out.2 E D _ p.out.2;have x:=x.out i hlt;have z:=z.out i hlt p.out.1;rw [P] at G F x z;clear P;simp only at G F;have t:Hid (f (E,D)=true->R=true):=x;have u:Hid (f (E,D)=false->(l.take (i+1)).any f=false):=z;have q:Hid (Below w.heap.size w wr):=p.out.2;clear K x z M O p N;generalize f (E,D)=B at *;cases B with
   | true =>
    obtain rfl:=t.out rfl;go_wp2_with fail;refine C.mono ?_;rintro e J ⟨rfl,g⟩;have L:Hid (Below w.heap.size w J):=q.out.trans (g.mono q.out.size);clear C q g t u G F;go_wp2_with fail;go_ret;exact ⟨(i:Int),rfl,by simp,L.out⟩
   | false =>
    have U:=u.out rfl;go_wp2_with fail;refine C.mono ?_;rintro e J ⟨rfl,g⟩;have L:Hid ((l.take (i+1)).any f=false/\Below w.heap.size w J):=⟨U,q.out.trans (g.mono q.out.size)⟩;clear C q g t u G F;go_wp2_with fail;go_roundw
    case rel=>exact ⟨i+1,by omega,by go_num,L⟩
    case measure=>simp [intOf];omega
  ·have X:¬((i:Int)<n):=by omega
   obtain rfl:i=n:=by omega
   obtain rfl:=M.out p.out.1;have q:Hid (Below w.heap.size w wr):=p.out.2;clear K x z M O p N;go_wp2_with fail;go_ret;exact ⟨-1,rfl,by decide,q.out⟩
theorem jad {l:List (Int×Int)} (h:Rw w 2 v (px l)) (hb:l.length<=1000000) {f:(Int×Int)->Bool} (d:PrP w k caps f) :
  Calls prog 142 #[v,.func (.func k) #[] caps] w fun e w'=>e=.returned (.bool (l.any f))/\Below w.heap.size w w':=by
 have C:=jk7 h hb d;clear h hb d;generalize l.any f=R at *;go_enter func142,ntmps142;go_wp2_with fail;refine C.mono ?_;rintro e _ ⟨m,rfl,g,hb⟩;go_wp2_with fail;go_ret;exact ⟨by rw [<-g];rfl,hb⟩
theorem jk6 {l:List Ten} (h:TSV w v l) (hb:l.length<=1000000) {f:Ten->Bool} (K:PrT w k caps f) (Y:∀ t∈l,TSm t) :
  Calls prog 138 #[v,.func (.func k) #[] caps] w fun e w'=>∃ m:Int,e=.returned (.int .i64 m)/\decide (0<=m)=l.any f/\Below w.heap.size w w':=by
 obtain ⟨sa,sc,rfl,a0,a1,hx⟩:=h.parts;have N:Hid (∀ i,i<l.length->∃ b g x,sa=some ⟨b,g,none⟩/\x.length=33/\x.toArray.all (·.oneCell')=true/\∀ V,Below w.heap.size w V->V.rangeAt b (g+i*33) x/\TV V (.agg x.toArray) (l.getD i ten0)):=hx;have F:Hid (∀ i,i<l.length->f (l.getD i ten0)=true->l.any f=true):=fun i hi L=>j2l (d:=ten0) hi L;have G:Hid (∀ i,i<l.length->(l.take i).any f=false->f (l.getD i ten0)=false->(l.take (i+1)).any f=false):=fun i hi h0 L=>j5j (d:=ten0) h0 hi L;have S:Hid ((l.take l.length).any f=false->l.any f=false):=j2m;have U:Hid ((l.take 0).any f=false/\Below w.heap.size w w):=⟨rfl,al _ _⟩;have eg:∀ args V,(callFunc k args).run prog V=.ok (.enter k args) V:=K.1;have T:Hid (PrT w k caps f):=K;have O:Hid (∀ i,i<l.length->TSm (l.getD i ten0)):=fun i hi=>Y _ (by simp [ac,ad hi]);clear h hx K Y;generalize l.length=n at *;generalize l.any f=R at *;go_enter func138,ntmps138;go_wp2_with fail
 go_loopw [8] (fun u8 w'=>∃ i:Nat,i<=n/\u8=.int .i64 i/\Hid ((l.take i).any f=false/\Below w.heap.size w w')) (fun u8 w'=>n-(intOf u8).toNat)
 case atStart=>exact ⟨0,aj _,rfl,U⟩
 case round =>
  obtain ⟨i,hi,rfl,u⟩:=hrel;by_cases hlt:i<n
  ·have h1:(i:Int)<n:=by omega
   obtain ⟨b,g,x,rfl,H,I,Z⟩:=N.out i hlt;obtain ⟨p,J⟩:=Z _ u.out.2;have q:(prog.info? 46).map (·.size)=some x.length:=by rw [H];kernel_rfl
   have C:=T.out.2 _ _ _ u.out.2 J (O.out i hlt);clear Z J I H;obtain ⟨y,X⟩:∃ y,l.getD i ten0=y:=⟨_,rfl⟩;have F:=F.out i hlt;have G:=G.out i hlt u.out.1;rw [X] at C F G;clear X;have D:Hid (f y=true->R=true):=F;have E:Hid (f y=false->(l.take (i+1)).any f=false):=G;have z:Hid (Below w.heap.size w wr):=u.out.2;clear N F G S U u T O;generalize f y=B at *;cases B with
   | true =>
    obtain rfl:=D.out rfl;go_wp2_with (refine wpList_load_mid rfl 46 (.tmp 14) (by with_reducible rfl) b (g+i*33) (by simp [am]) x _ p underlying46 rfl q ?_)
    refine C.mono ?_;rintro e M ⟨rfl,j⟩;have P:Hid (Below w.heap.size w M):=z.out.trans (j.mono z.out.size);clear C z j D E p;go_wp2_with fail;go_ret;exact ⟨(i:Int),rfl,by simp,P.out⟩
   | false =>
    have hQ:=E.out rfl;go_wp2_with (refine wpList_load_mid rfl 46 (.tmp 14) (by with_reducible rfl) b (g+i*33) (by simp [am]) x _ p underlying46 rfl q ?_)
    refine C.mono ?_;rintro e M ⟨rfl,j⟩;have P:Hid ((l.take (i+1)).any f=false/\Below w.heap.size w M):=⟨hQ,z.out.trans (j.mono z.out.size)⟩;clear C z j D E p;go_wp2_with fail;go_roundw
    case rel=>exact ⟨i+1,by omega,by go_num,P⟩
    case measure=>simp [intOf];omega
  ·have h1:¬((i:Int)<n):=by omega
   obtain rfl:i=n:=by omega
   obtain rfl:=S.out u.out.1;have z:Hid (Below w.heap.size w wr):=u.out.2;clear N F G S U u T O;go_wp2_with fail;go_ret;exact ⟨-1,rfl,by decide,z.out⟩
theorem j4i {l:List Ten} (h:TSV w v l) (hb:l.length<=1000000) {f:Ten->Bool} (g:PrT w k caps f) (d:∀ t∈l,TSm t) :
  Calls prog 111 #[v,.func (.func k) #[] caps] w fun e w'=>e=.returned (.bool (l.any f))/\Below w.heap.size w w':=by
 have C:=jk6 h hb g d;clear h hb g d;generalize l.any f=R at *;go_enter func111,ntmps111;go_wp2_with fail;refine C.mono ?_;rintro e _ ⟨m,rfl,d,hb⟩;go_wp2_with fail;go_ret;exact ⟨by rw [<-d];rfl,hb⟩
end
section
open Go.RowKit Sm Cf Df
namespace Df
structure ZV (w:World) (v:Value) (zs:List Tv):Prop where
 row:Rw w 33 v (zs.map zc)
 each:∀ z∈zs,TLen z.1/\Rws w z
theorem ZV.tsv {d:List Tv} (h:ZV w v d):TSV w v (d.map Prod.fst):=⟨d,rfl,h.row,h.each⟩
theorem TSV.zv {ts:List Ten} (h:TSV w v ts):∃ d,d.map Prod.fst=ts/\ZV w v d:=by
 obtain ⟨d,e,g,f⟩:=h;exact ⟨d,e,g,f⟩
theorem Rws.at_ {z:Tv} (h:Rws w z) (hb:Below w.heap.size w V):Rws V z:=⟨h.1.below j1g hb (ak _),h.2.1.below zj hb (ak _),h.2.2.below zj hb (ak _)⟩
theorem ZV.at_ {d:List Tv} (h:ZV w v d) (hb:Below w.heap.size w V):ZV V v d:=⟨h.row.below j8u hb (ak _),fun z f=>⟨(h.each z f).1,Rws.at_ (h.each z f).2 hb⟩⟩
theorem j3h {z:Tv} (h:Rws w z):(zc z).toArray.all (·.oneCell')=true:=j23 z.1 (km h.1) (km h.2.1) (km h.2.2)
theorem j1f {z:Tv} (h:TLen z.1):(zc z).toArray.size=33:=by rw [List.size_toArray];exact ji h _ _ _
theorem ZV.parts {f:List Tv} (h:ZV w v f):∃ m sc,v=.slice m f.length sc/\f.length<=sc/\sc<=9223372036854775807/\∀ i (hi:i<f.length),∃ b d,m=some ⟨b,d,none⟩/\∀ V,Below w.heap.size w V->V.rangeAt b (d+i*33) (zc f[i]):=by
 obtain ⟨hr,C⟩:=h;have q:=hr;obtain ⟨m,sc,rfl,y,hb,-⟩:=q;rw [ag] at y hr ⊢;refine ⟨m,sc,rfl,y,hb,fun i hi=>?_⟩;obtain ⟨b,d,x,z,I,H,G,F⟩:=jeh hr C i hi;obtain ⟨J,t,g,hc⟩:=j5z hr i (by rw [ag];exact hi);rw [z] at g;simp only [Option.some.injEq,Addr.mk.injEq] at g;obtain ⟨rfl,rfl,-⟩:=g;refine ⟨b,d,z,fun V E j u D=>?_⟩;have hx:(f.map zc).getD i []=zc f[i]:=by simp [ac,ad hi]
 rw [hx] at hc;have h:=hc j u D;rw [E.cell (p:=⟨b,d+i*33+j,none⟩) (j9 h)];exact h
theorem MV.mono {b m:Nat} {M:List Tv} (h:MV V b n M) (d:n<=m):MV V b m M:=⟨h.1.mono d,h.2⟩
section
variable {w:World} {ops:Array Oper} {rest:List Oper} {o:Oper} {a:Act} {Q:Exit->Act->World->Prop}
theorem j8w (g:o.guard=none) (m x:Operand) (d:o.op=Op.lookup 138 m x true) {b:Nat} {M:List Tv} (f:a.eval m=.map (some b)) (h:MV w b n M) (hs:s.size<=maxLen) (hx:a.eval x=.string s) (q:vat M s.data.toList=.agg A) (p:(look fk s.data.toList M).isSome=B)
  (j:wpList prog ops Q rest (a.put o.dst (.tuple #[.agg A,.bool B])) w):wpList prog ops Q (o::rest) a w:=by
 refine jck g m x d f h hs hx ?_;rw [q,p];exact j
end
theorem jma {M:List Tv} (d:∀ z∈M,TLen z.1/\(zc z).toArray.all (·.oneCell')=true) (n:List UInt8):∃ A,vat M n=.agg A/\A.size=33/\A.all (·.oneCell')=true:=by
 unfold vat;cases hl:look fk n M with
 | none=>exact ⟨tz,rfl,rfl,by kernel_rfl⟩
 | some z=>exact ⟨_,rfl,j1f (d z (j0q hl).1).1,(d z (j0q hl).1).2⟩
theorem j1s {d:List Tv} (hi:i<d.length):byn fk (d.take (i+1))=put fk d[i] false (byn fk (d.take i)):=by
 rw [ae,ad hi,Option.toList_some,jl0]
theorem jdz {d:List Tv} (h:ZV w v d) (hn:∀ z∈d,z.1.name.size<=1000000) (hm:d.length<=1000) :
  Calls prog 77 #[v] w fun e V=>∃ b,e=.returned (.map (some b))/\w.heap.size<=b/\MV V b d.length (byn fk d)/\Below w.heap.size w V:=by
 have hp:=h.parts;obtain ⟨sa,sc,rfl,b0,b6,hx⟩:=hp;have HE:Hid (∀ i (hi:i<d.length),TLen d[i].1/\(zc d[i]).toArray.all (·.oneCell')=true/\d[i].1.name.size<=maxLen):=by
  intro i hi;have F:=List.getElem_mem hi;refine ⟨(h.each _ F).1,j3h (h.each _ F).2,?_⟩;have:=hn _ F;unfold maxLen;omega
 have HM:Hid (∀ i,∀ z∈byn fk (d.take i),TLen z.1/\(zc z).toArray.all (·.oneCell')=true):=by
  intro i z F;have F:=List.mem_of_mem_take (j6d F);exact ⟨(h.each _ F).1,j3h (h.each _ F).2⟩
 have HX:Hid (∀ i (hi:i<d.length),∃ b E,sa=some ⟨b,E,none⟩/\∀ V,Below w.heap.size w V->V.rangeAt b (E+i*33) (zc d[i])):=hx;have HT:Hid (∀ i (hi:i<d.length),byn fk (d.take (i+1))=put fk d[i] false (byn fk (d.take i))):=fun i hi=>j1s hi;have P:Hid (byn fk (d.take d.length)=byn fk d):=by show _=_;rw [af]
 clear h hn hx;obtain ⟨N,hN⟩:∃ N,d.length=N:=⟨_,rfl⟩;rw [hN] at P b0 hm;simp only [hN] at HE HX HT ⊢;obtain ⟨g,J⟩:∃ g,w.heap.size=g:=⟨_,rfl⟩;have H0:Hid (MV (w.alloc (.map #[] 0)) g 0 (byn fk (d.take 0))/\Below g w (w.alloc (.map #[] 0))):=⟨by rw [<-J];exact MV.made w,by rw [<-J];exact (al _ _).alloc (ak _) _⟩;have a9:=@run_makeMap prog;go_enter func77,ntmps77;go_upto_region 2 with fail;refine j5 (fun X=>MV X g 0 (byn fk (d.take 0))/\Below g w X) (by exact H0.out) ?_;intro V0 a4
 try simp only [J]
 have a7:Hid (MV V0 g 0 (byn fk (d.take 0))/\Below g w V0):=a4;clear H0 a4 a9;rw [J] at HX;go_wp2_with fail
 go_loopw [11] (fun u11 w'=>∃ i:Nat,i<=N/\u11=.int .i64 i/\Hid (MV w' g i (byn fk (d.take i))/\Below g w w')) (fun u11 w'=>N-(intOf u11).toNat)
 case atStart=>exact ⟨0,aj _,rfl,a7⟩
 case round =>
  obtain ⟨i,hi,rfl,D⟩:=hrel;clear a7;by_cases hlt:i<N
  ·have h1:(i:Int)<N:=by omega
   obtain ⟨b,E,rfl,hV⟩:=HX.out i hlt;obtain ⟨Z,ho,hs⟩:=HE.out i hlt;have U:=hV _ D.out.2;have hT:=HT.out i hlt;obtain ⟨A1,O,L,a6⟩:=jma (HM.out i) (fk (d[i]'(by omega)));obtain ⟨B1,m⟩:∃ B,(look fk (fk (d[i]'(by omega))) (byn fk (d.take i))).isSome=B:=⟨_,rfl⟩;clear hV HX HE HT HM;generalize F:d[i]'(by omega)=z at *;obtain ⟨M,a5⟩:∃ M,byn fk (d.take i)=M:=⟨_,rfl⟩;rw [a5] at D hT O m;clear a5;have a8:=ji Z z.2.1 z.2.2.1 z.2.2.2;have I:(prog.info? 46).map (·.size)=some (zc z).length:=by rw [show (zc z).length=33 from a8];kernel_rfl
   have H:(prog.info? 46).map (·.size)=some (zc z).toArray.size:=by rw [j1f Z];kernel_rfl
   have G:tz.size=(zc z).toArray.size:=by rw [j1f Z];rfl
   obtain ⟨gt,t⟩:∃ g,wr.heap.size=g:=⟨_,rfl⟩;have a1:(wr.alloc (.cells tz 46)).heap[gt]?=some (.cells tz 46):=by rw [<-t];exact heap_alloc_new _ _
   have ew:(wr.alloc (.cells tz 46)).setRow gt (zc z).toArray=wr.alloc (.cells (zc z).toArray 46):=by rw [<-t];exact World.setRow_alloc_new wr tz (zc z).toArray 46
   have q:Hid (Mem wr ((wr.alloc (.cells tz 46)).setRow gt (zc z).toArray) [(gt,.cells (zc z).toArray 46)]):=by rw [ew];exact (Mem.nil wr).push1 t.symm
   clear ew;go_upto_region 5 with (first|(refine wpList_load_mid rfl 46 (.tmp 13) (by with_reducible rfl) b (E+i*33) (by simp [am]) (zc z) _ U underlying46 rfl I ?_)|(refine wpList_store_row rfl 46 (.tmp 5) (.tmp 14) (by with_reducible rfl) gt (zc z).toArray (by simp [am];try exact t) (by first|rfl|simp [am]) 46 tz a1 H G ho ?_)|fail)
   refine j5 (fun X=>Mem wr X [(gt,.cells (zc z).toArray 46)]) (by exact q.out) ?_;intro S x
   try simp only [t]
   clear q a1 U I G ho;have K:MV S g i M:=D.out.1.below x.below (ak _);have a3:S.cell? ⟨gt,0,none⟩=some (.string z.1.name):=by rw [x.cell 0 rfl];exact (j13 Z _ _ _).1
   obtain ⟨g2,u⟩:∃ g,S.heap.size=g:=⟨_,rfl⟩;have a0:(S.alloc (.cells tz 46)).heap[g2]?=some (.cells tz 46):=by rw [<-u];exact heap_alloc_new _ _
   have a2:(prog.info? 46).map (·.size)=some A1.size:=by rw [L];kernel_rfl
   have T:tz.size=A1.size:=by rw [L];rfl
   have q:Hid (Mem wr ((S.alloc (.cells tz 46)).setRow g2 A1) [(gt,.cells (zc z).toArray 46)]):=by
    rw [<-u,World.setRow_alloc_new];exact x.after ((al _ _).alloc (ak _) _)
   have b4:Hid (Mem wr S [(gt,.cells (zc z).toArray 46)]):=x;clear x;go_upto_region 6 with (first|(at_lookup;refine j8w rfl _ _ rfl (b:=g) (n:=i) (M:=M) (by first|rfl|simp [am]) K (s:=z.1.name) hs (by first|rfl|simp [am]) O m ?_)|(refine wpList_store_row rfl 46 (.tmp 6) (.tmp 20) (by with_reducible rfl) g2 A1 (by simp [am];try exact u) (by first|rfl|simp [am]) 46 tz a0 a2 T a6 ?_)|fail)
   refine j5 (fun X=>Mem wr X [(gt,.cells (zc z).toArray 46)]) (by exact q.out) ?_;intro R p
   try simp only [u]
   clear q a0 a2 T O L a6 K a3 b4 u;have f:MV R g i M:=D.out.1.below p.below (ak _);have a3:R.cell? ⟨gt,0,none⟩=some (.string z.1.name):=by rw [p.cell 0 rfl];exact (j13 Z _ _ _).1
   have hk:=p.get 0 rfl;have C:Hid (Below g w R):=D.out.2.trans (p.below.mono (by rw [<-J];exact D.out.2.size));cases B1 with
   | true =>
    obtain ⟨y,hy⟩:=Option.isSome_iff_exists.1 m;have q:Hid (MV R g (i+1) (byn fk (d.take (i+1)))/\Below g w R):=⟨by rw [hT,j4v f.2 hy];exact f.mono (Nat.le_succ _),C.out⟩;clear f p C D hT m;go_wp2_with fail;go_roundw
    case rel=>exact ⟨i+1,by omega,by go_num,q⟩
    case measure=>simp [intOf];omega
   | false =>
    have Y:look fk (fk z) M=none:=by
     cases hh:look fk (fk z) M with
     | none=>rfl
     | some y=>rw [hh] at m;cases m
    have q:Hid (∀ W,MV W g (i+1) (put fk z true M)->R.grownBy W (some g)->MV W g (i+1) (byn fk (d.take (i+1)))/\Below g w W):=by
     intro W h1 h2;refine ⟨by rw [hT,j4w f.2 Y];exact h1,C.out.grown h2 (by rw [<-J];exact C.out.size) (fun j hj=>by cases hj;exact ak _)⟩
    have b1:i<maxLen:=by unfold maxLen;omega
    clear p C D hT m Y;go_wp2_with (first|(refine wpList_load_row rfl 46 (.tmp 5) (by with_reducible rfl) gt (by first|rfl|simp [am]) 46 (zc z).toArray (0,0) _ hk underlying46 rfl H ?_)|(at_mapUpdate;refine jat rfl _ _ _ rfl (b:=g) (n:=i) (M:=M) (by first|rfl|simp [am]) f b1 z hs (by first|rfl|simp [am]) (by first|rfl|simp [am,tv]) ?_;intro W b3 b2)|fail)
    have b5:=q.out W b3 b2;go_roundw
    case rel=>exact ⟨i+1,by omega,by go_num,b5⟩
    case measure=>simp [intOf];omega
  ·have h1:¬((i:Int)<N):=by omega
   obtain rfl:i=N:=by omega
   have q:Hid (MV wr g i (byn fk d)/\Below g w wr):=by rw [<-P.out];exact D.out
   clear D P HX HE HT HM;go_wp2_with fail;go_ret;exact ⟨g,rfl,by first|exact ak _|exact Nat.le_of_eq J,q.out.1,by first|exact q.out.2|(rw [J];exact q.out.2)⟩
end Df
end
section
open Go.RowKit Ad
theorem jnr (hc:c<128) (h:okr first c=true):(97<=c/\c<=122)\/(¬97<=c/\first=false/\48<=c/\c<=57)\/(¬97<=c/\first=false/\¬48<=c/\c=45):=by
 unfold okr mb mf at h;cases first<;>simp at h<;>simp<;>omega
theorem jqr (hc:c<128) (h:okr first c=false):(¬97<=c/\first=true)\/(97<=c/\¬c<=122/\first=true)\/(¬97<=c/\first=false/\¬48<=c/\c≠45)\/(¬97<=c/\first=false/\48<=c/\¬c<=57/\c≠45)\/(97<=c/\¬c<=122/\first=false/\48<=c/\¬c<=57/\c≠45):=by
 unfold okr mb mf at h;cases first<;>simp at h<;>simp<;>omega
theorem j6z (s:ByteArray) (i:Nat) (h:i<s.size):an (s.extract i s.size)=ao (s.data.toList.drop i):=by
 have e:(s.extract i s.size).data.toList=s.data.toList.drop i:=by
  rw [jie,List.take_of_length_le];rw [ah,j0c];omega
 have d:(s.extract i s.size).size=s.size-i:=by rw [<-j0c,e,ah,j0c]
 unfold an;rw [if_neg (by omega),<-Lib.decodeL_drop,List.drop_zero,e]
theorem jfd (T:Vs w) (s:ByteArray) (h1:1<=s.size) (Z:s.size<=32) :
  Calls prog 57 #[.string s] w fun e w'=>e=.returned (.bool (rn s.size true s.data.toList))/\Below w.heap.size w w':=by
 have P:=j0c s;have z2:¬((32:Int)<s.size):=by omega
 have Y:(s.toList==([]:List UInt8))=false:=by
  have:=j0k s;cases hb:(s.toList==([]:List UInt8))
  ·rfl
  ·have:=this.1 hb;omega
 obtain ⟨R,N⟩:∃ R,rn s.size true s.data.toList=R:=⟨_,rfl⟩;rw [N];go_enter func57,ntmps57;go_wp2_with fail
 go_loopw [3] (fun G w'=>∃ (d f:Nat),G=.int .i64 d/\s.size<=d+f/\d<=s.size+4/\rn f (decide (d=0)) (s.data.toList.drop d)=R/\Below w.heap.size w w') (fun G _=>s.size-(intOf G).toNat)
 case atStart=>exact ⟨0,s.size,rfl,by omega,by omega,by simpa using N,al _ _⟩
 case round =>
  obtain ⟨d,f,rfl,X,S,hc,g⟩:=hrel;clear N;have e7:IntKind.i64.wrap ((d:Int)+1)=(d:Int)+1:=wrap64 (by omega) (by omega);by_cases hp:d<s.size
  ·have z:(d:Int)<s.size:=by omega
   have C:∀ W,(Instr.index 9 (.string s) (.int .i64 d)).run prog W=.ok (.int .u8 ((s[d]'hp).toNat:Int)) W:=by
    intro W;rw [run_index_string W 9 s .i64 d underlying9,dif_pos ⟨by omega,z⟩];simp
   have j:(s.data.toList.drop d).length<=f:=by rw [ah];omega
   have m:=j8h s d hp;rw [m] at hc j;have L:decide (d+1=0)=false:=by simp
   by_cases hlow:(s[d]'hp).toNat<128
   ·have y:((s[d]'hp).toNat:Int)<128:=by omega
    rw [jqf j hlow] at hc;clear m j;generalize (s[d]'hp).toNat=c at C hc hlow y;cases ho:okr (decide (d=0)) c with
    | true =>
     rw [ho,if_pos rfl,<-L] at hc;rcases jnr hlow ho with ⟨a1,a2⟩|⟨a1,a2,a3,a4⟩|⟨a1,a2,a3,a4⟩
     ·have u:(97:Int)<=c:=by omega
      have x:(c:Int)<=122:=by omega
      clear ho hlow a1 a2;go_wp2_with fail;go_roundw
      case rel=>exact ⟨d+1,f-1,by first|rfl|trivial,by omega,by omega,hc,g⟩
      case measure=>simp [intOf];omega
     ·have u:¬(97:Int)<=c:=by omega
      have x:(0:Int)<d:=by have:=of_decide_eq_false a2;omega
      have E:(48:Int)<=c:=by omega
      have F:(c:Int)<=57:=by omega
      clear ho hlow a1 a2 a3 a4;go_wp2_with fail;go_roundw
      case rel=>exact ⟨d+1,f-1,by first|rfl|trivial,by omega,by omega,hc,g⟩
      case measure=>simp [intOf];omega
     ·have u:¬(97:Int)<=c:=by omega
      have x:(0:Int)<d:=by have:=of_decide_eq_false a2;omega
      have E:¬(48:Int)<=c:=by omega
      have F:((c:Int)==45)=true:=by simp;omega
      clear ho hlow a1 a2 a3 a4;go_wp2_with fail;go_roundw
      case rel=>exact ⟨d+1,f-1,by first|rfl|trivial,by omega,by omega,hc,g⟩
      case measure=>simp [intOf];omega
    | false =>
     rw [ho] at hc;have M:R=false:=hc.symm;subst M;rcases jqr hlow ho with ⟨a1,a2⟩|⟨a1,a3,a2⟩|⟨a1,a2,a3,a4⟩|⟨a1,a2,a3,a4,a5⟩|⟨a1,a6,a2,a3,a4,a5⟩
     ·have u:¬(97:Int)<=c:=by omega
      have x:¬(0:Int)<d:=by have:=of_decide_eq_true a2;omega
      clear ho hlow a1 a2 hc;go_wp2_with fail;go_ret;exact ⟨rfl,g⟩
     ·have u:(97:Int)<=c:=by omega
      have E:¬(c:Int)<=122:=by omega
      have x:¬(0:Int)<d:=by have:=of_decide_eq_true a2;omega
      clear ho hlow a1 a2 a3 hc;go_wp2_with fail;go_ret;exact ⟨rfl,g⟩
     ·have u:¬(97:Int)<=c:=by omega
      have x:(0:Int)<d:=by have:=of_decide_eq_false a2;omega
      have E:¬(48:Int)<=c:=by omega
      have F:((c:Int)==45)=false:=by simp;omega
      clear ho hlow a1 a2 a3 a4 hc;go_wp2_with fail;go_ret;exact ⟨rfl,g⟩
     ·have u:¬(97:Int)<=c:=by omega
      have x:(0:Int)<d:=by have:=of_decide_eq_false a2;omega
      have E:(48:Int)<=c:=by omega
      have U:¬(c:Int)<=57:=by omega
      have F:((c:Int)==45)=false:=by simp;omega
      clear ho hlow a1 a2 a3 a4 a5 hc;go_wp2_with fail;go_ret;exact ⟨rfl,g⟩
     ·have u:(97:Int)<=c:=by omega
      have b6:¬(c:Int)<=122:=by omega
      have x:(0:Int)<d:=by have:=of_decide_eq_false a2;omega
      have E:(48:Int)<=c:=by omega
      have U:¬(c:Int)<=57:=by omega
      have F:((c:Int)==45)=false:=by simp;omega
      clear ho hlow a1 a2 a3 a4 a5 a6 hc;go_wp2_with fail;go_ret;exact ⟨rfl,g⟩
   ·have y:¬((s[d]'hp).toNat:Int)<128:=by omega
    rw [jnb j hlow,<-m,List.drop_drop] at hc;have h:=jdu (T.below g) (s.extract d s.size);rw [j6z s d hp] at h;have H:=Lib.decodeL_width (s.data.toList.drop d);have I:(ao (s.data.toList.drop d)).2<=s.size-d:=by
     have:=Lib.decodeL_le (s.data.toList.drop d) (by rw [m];simp);rw [ah] at this;omega
    clear m j;generalize (s[d]'hp).toNat=c at C hlow y;generalize (ao (s.data.toList.drop d)).1=r at h hc;generalize (ao (s.data.toList.drop d)).2=q at h hc H I;have J:∀ W,(Instr.slice 9 (.string s) (some (.int .i64 d)) none none).run prog W=.ok (.string (s.extract d s.size)) W:=by
     intro W;rw [run_slice_string_from_if W 9 s .i64 d underlying9,if_pos ⟨by omega,by omega⟩];simp
    generalize s.extract d s.size=p at h J;have e8:IntKind.i64.wrap ((d:Int)+q)=(d:Int)+q:=wrap64 (by omega) (by omega);by_cases hbad:r=65533/\q=1
    ·rw [if_pos hbad] at hc;subst hc;have u:((r:Int)==65533)=true:=by simp;omega
     have x:(q:Int)<=1:=by omega
     clear hbad;go_wp2_with fail;refine h.mono ?_;rintro e O ⟨rfl,t⟩;go_wp2_with fail;go_ret;exact ⟨rfl,g.trans (t.mono g.size)⟩
    ·rw [if_neg hbad] at hc;have D:rn (f-1) (decide (d+q=0)) (s.data.toList.drop (d+q))=R:=by
      rw [show decide (d+q=0)=false by simp;omega];exact hc
     have K:((r:Int)==65533)=false\/(((r:Int)==65533)=true/\¬(q:Int)<=1):=by
      by_cases hr:r=65533
      ·exact Or.inr ⟨by simp;omega,by omega⟩
      ·exact Or.inl (by simp;omega)
     clear hbad hc;rcases K with u|⟨u,x⟩
     ·go_wp2_with fail;refine h.mono ?_;rintro e O ⟨rfl,t⟩;go_wp2_with fail;go_roundw
      case rel=>exact ⟨d+q,f-1,by first|rfl|trivial,by omega,by omega,D,g.trans (t.mono g.size)⟩
      case measure=>simp [intOf];omega
     ·go_wp2_with fail;refine h.mono ?_;rintro e O ⟨rfl,t⟩;go_wp2_with fail;go_roundw
      case rel=>exact ⟨d+q,f-1,by first|rfl|trivial,by omega,by omega,D,g.trans (t.mono g.size)⟩
      case measure=>simp [intOf];omega
  ·have z:¬(d:Int)<s.size:=by omega
   rw [jc4 s d hp,jqe] at hc;subst hc;go_wp2_with fail;go_ret;exact ⟨rfl,g⟩
theorem jbi (f:Vs w) (s:ByteArray) (hs:s.size<=140737488355328) :
  Calls prog 57 #[.string s] w fun e w'=>e=.returned (.bool (nam s.data.toList))/\Below w.heap.size w w':=by
 unfold nam;rw [j0c];by_cases h:1<=s.size/\s.size<=32
 ·rw [decide_eq_true h,Bool.true_and];exact jfd f s h.1 h.2
 ·rw [decide_eq_false h,Bool.false_and];by_cases h1:s.size=0
  ·have d:(s.toList==([]:List UInt8))=true:=(j0k s).2 h1;go_enter func57,ntmps57;go_wp2_with fail;go_ret;exact ⟨rfl,al _ _⟩
  ·have d:(s.toList==([]:List UInt8))=false:=by
    have:=j0k s;cases hb:(s.toList==([]:List UInt8))
    ·rfl
    ·have:=this.1 hb;omega
   have z2:(32:Int)<s.size:=by omega
   go_enter func57,ntmps57;go_wp2_with fail;go_ret;exact ⟨rfl,al _ _⟩
end
section
open Go.RowKit Ad
open Sm (j6)
abbrev z8:List Int:=[0,0,0,0,0,0,0,0]
end
end Go.Proofs.YtdigofgjhaakmaaGreatDoor
