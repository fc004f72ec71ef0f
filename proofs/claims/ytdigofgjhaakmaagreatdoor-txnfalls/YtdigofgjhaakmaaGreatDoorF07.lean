/- Parts of the proof. -/
import Derived.Test.YtdigofgjhaakmaaGreatDoorF06
import Derived.Stop.Asserts
import Derived.Deep.WholeRow
set_option linter.all false
set_option maxHeartbeats 40000000
set_option maxRecDepth 20000
open Go.Proofs.Tryz
open Go.Extern.ReflectliteType renaming typeOf->a1
open Go.Instr renaming typeAssert->a2,makeFunc->a3
open Option renaming map_eq_some_iff->a4,some->a5
open Nat renaming zero_le->a6,le_refl->a7
open List renaming append_assoc->a8,perm_append_comm->a9,getD_cons_zero->aa
open Go.RowKit.Below renaming refl->ab
open Go.IntKind renaming u32->ac,u16->ad
namespace Go.Proofs.YtdigofgjhaakmaaGreatDoor
variable {L:List (Nat×Obj)} {w W:World} {l:List Int} {v:Value}
section
open Go.RowKit Go.Extern.Stop Go.Stop Go.Extern
theorem jgi (v:Value) (w:World):(a1 #[.iface 342 v]).run prog w=.ok (.iface 192 (.agg #[.pointer (some ⟨4,342,none⟩)])) w:=by kernel_rfl
def j3c : Array Value -> Sem Value := Extern.ReflectliteType.method fun t => do Rtype.noPackHeld "Comparable" t; pure (.bool (<- typeInfo t).comparable)
theorem j6k (w:World):(j3c #[.agg #[.pointer (some ⟨4,342,none⟩)]]).run prog w=.ok (.bool true) w:=by kernel_rfl
theorem zo (v : Value) (w : World) : (Go.method 473 192 v "Comparable").run prog w = .ok (345, v) w := by kernel_rfl
theorem jof:(prog.info? 342).map (·.comparable)=some true:=by kernel_rfl
theorem joc:(prog.info? 362).map (·.size)=some 1:=by kernel_rfl
theorem joe (v:Value) (a:TypeId) (w:World):(a2 (.iface 28 v) a 194 true).run prog w=.ok (.tuple #[.nilIface,.bool false]) w:=run_typeAssert_lacksB underlying194 (by kernel_rfl) (by kernel_rfl) v a w
theorem j9x (v:Value) (a:TypeId) (w:World):(a2 (.iface 28 v) a 196 true).run prog w=.ok (.tuple #[.nilIface,.bool false]) w:=run_typeAssert_lacksB underlying196 (by kernel_rfl) (by kernel_rfl) v a w
theorem j85 (v:Value) (a:TypeId) (w:World):(a2 (.iface 28 v) a 198 true).run prog w=.ok (.tuple #[.nilIface,.bool false]) w:=run_typeAssert_lacksB underlying198 (by kernel_rfl) (by kernel_rfl) v a w
theorem jod (a:Addr) (w:World) :
  Calls prog 62 #[.iface 342 (.pointer (some a)),.iface 342 (.pointer (some a))] w fun e w'=>e=.returned (.bool true)/\w=w':=by
 obtain ⟨i,hi,b⟩:=a4.1 jof;obtain ⟨j,d,c⟩:=a4.1 joc;have m:=@run_callFunc_extern prog 89 _ a1 func89 (by kernel_rfl) (by kernel_rfl) (by kernel_rfl) (by kernel_rfl);have g:=@run_callFunc_extern prog 345 _ j3c func345 (by kernel_rfl) (by kernel_rfl) (by kernel_rfl) (by kernel_rfl);have h:=jgi;have o:=j6k;have k:=zo;have f:=run_eql_iface_ptr_same (P:=prog) w a underlying134 underlying342 hi b d;go_enter func62,ntmps62
 go_wp2
 refine wp_loop_rounds 1 ?_;rw [rounds_succ]
 go_wp2
 go_ret;exact ⟨rfl,rfl⟩
theorem jr9 (b:Addr) (w:World) :
  Calls prog 62 #[.nilIface,.iface 342 (.pointer (some b))] w fun e w'=>e=.returned (.bool false)/\w=w':=by
 have a:=run_eql_iface_nil_left (P:=prog) w 342 (.pointer (some b)) underlying134;go_enter func62,ntmps62
 go_wp2
 go_ret;exact ⟨rfl,rfl⟩
theorem jsk (t:Value) (w:World) :
  Calls prog 96 #[.nilIface,t] w fun e w'=>e=.returned (.bool false)/\w=w':=by
 go_enter func96,ntmps96
 go_wp2
 go_ret;exact ⟨rfl,rfl⟩
theorem jhq (v:Value) (w:World):(ReflectliteType.typeOf #[.iface 28 v]).run prog w=.ok (.iface 192 (.agg #[.pointer (some ⟨4,28,none⟩)])) w:=by kernel_rfl
end
section
open Go.RowKit Sm Cf
theorem jr7 (h:Out w W v l L) (U H G s kr Z:Nat) (J cr cs:Array Value) (p p':Addr) (N:Value) (xs:List (List Value)) (hx:∀ x∈xs,∃ y z,x=[Value.int .u32 y,Value.int .u32 z])
  (S:∀ V,Mem w V L->V.cell? ⟨U,0,none⟩=some (.func (.func G) #[] #[]))
  (T:∀ V,Mem w V L->V.cell? ⟨H,0,none⟩=some (.func (.func s) #[] J)/\V.cell? ⟨H,1,none⟩=some (.func (.func kr) #[] cr)/\V.cell? ⟨H,2,none⟩=some (.func (.func Z) #[] cs))
  (eo:∀ args V,(callFunc G args).run prog V=.ok (.enter G args) V) (ho:∀ V,Calls prog G #[.pointer (some p)] V fun e D=>e=.returned (.pointer (some p'))/\V=D)
  (ew:∀ args V,(callFunc s args).run prog V=.ok (.enter s args) V)
  (R:∀ V,Mem w V L->V.cell? p'=some N) (f:∀ V,Mem w V L->Rw V 2 N xs) (enc:Nat->List Int)
  (hw:∀ i,i<min xs.length 255->∀ ge v l V,Out w V v l ((ge,.cells (xs.getD i []).toArray 122)::L)->l.length+(enc i).length<=1000000000->Calls prog s (#[v,.pointer (some ⟨ge,0,none⟩)]++J) V fun e D=>∃ k,e=.returned k/\Out w D k (l++enc i) L)
  (hb:l.length+(cat enc (min xs.length 255)).length<=1000000000) :
  Calls prog 303 #[v,.pointer (some p),.pointer (some ⟨U,0,none⟩),.pointer (some ⟨H,0,none⟩)] W fun e W'=>∃ k,e=.returned k/\Out w W' k (l++cat enc (min xs.length 255)) L:=by
 have c2:=S _ h.mem;have c3:=R _ h.mem;obtain ⟨a,c,rfl,B,C,P,-⟩:=f _ h.mem;have M:=zh 293 (by simp) W a xs.length c B C P;obtain ⟨n,O⟩:∃ n,min xs.length 255=n:=⟨_,rfl⟩;have a0:n<=255:=by omega
 have A:n<=xs.length:=by omega
 rw [O] at M hw hb ⊢;have Y:Hid (Out w W v l L):=h;have E:Hid (∀ V,Mem w V L->∀ i,i<n->∃ b d,a=some ⟨b,d,none⟩/\V.rangeAt b (d+i*2) (xs.getD i [])):=by
  intro V I i hi;obtain ⟨a',c',e,_,_,_,hr⟩:=f V I;simp only [Value.slice.injEq] at e;obtain ⟨rfl,-,rfl⟩:=e;rcases hr with e|⟨b,d,rfl,hc⟩
  ·rw [e] at A;simp at A;omega
  ·exact ⟨b,d,rfl,fun j u hj=>hc i (by omega) j u hj⟩
 have X:Hid (∀ x∈xs,∃ y z,x=[Value.int .u32 y,Value.int .u32 z]):=hx;clear h S R f B C P O hx;go_enter func303,ntmps303;go_wp2_with fail;refine (ho _).mono ?_;rintro e V ⟨rfl,rfl⟩;go_wp2_with fail;refine M.mono ?_;rintro e V ⟨rfl,rfl⟩;go_wp2_with fail
 go_loopw [0,16] (fun u0 u16 w'=>∃ i:Nat,i<=n/\u16=.int .i64 i/\Hid (Out w w' u0 (l++cat enc i) L)) (fun u0 u16 w'=>n-(intOf u16).toNat)
 case atStart=>exact ⟨0,a6 _,rfl,by rw [cat,List.append_nil];exact Y⟩
 case round =>
  obtain ⟨i,hi,rfl,F⟩:=hrel;clear c2 c3 M Y;by_cases hlt:i<n
  ·have h1:(i:Int)<n:=by omega
   obtain ⟨d0,d1,d2⟩:=T _ F.out.mem;obtain ⟨b,d,rfl,q⟩:=E.out _ F.out.mem i hlt;have m:xs.getD i []∈xs:=by
    rw [List.getD_eq_getElem?_getD,List.getElem?_eq_getElem (by omega),Option.getD_some];exact List.getElem_mem _
   have K:Hid (∀ V ge,Out w V u0 (l++cat enc i) ((ge,.cells (xs.getD i []).toArray 122)::L)->Calls prog s (#[u0,.pointer (some ⟨ge,0,none⟩)]++J) V fun e D=>∃ k,e=.returned k/\Out w D k (l++cat enc (i+1)) L):=by
    intro V ge I;have:=hw i hlt ge u0 _ V I (by rw [List.length_append];have:=jc6 enc i n hlt;omega);rwa [a8] at this
   have t:=X.out _ m;generalize xs.getD i []=x at q t K;clear hw m E X;obtain ⟨y,z,rfl⟩:=t;have d3:wr.cell? ⟨b,d+i*2,none⟩=some (.int .u32 y):=by have:=q 0 _ rfl;simpa using this
   have d4:wr.cell? ⟨b,d+i*2+1,none⟩=some (.int .u32 z):=by have:=q 1 _ rfl;simpa using this
   have r:=F.out.add (o:=.cells #[.int .u32 y,.int .u32 z] 122) (g:=wr.heap.size) rfl;have d5:=(T _ r.mem.sub).1;go_wp2_with fail;refine (K.out _ wr.heap.size r).mono ?_;rintro e V ⟨k,rfl,Q⟩;have HH:Hid (Out w V k (l++cat enc (i+1)) L):=Q;clear Q K F r;go_wp2_with fail;go_roundw
   case rel=>exact ⟨i+1,by omega,by go_num,HH⟩
   case measure=>simp [intOf];omega
  ·have h1:¬((i:Int)<n):=by omega
   obtain rfl:i=n:=by omega
   go_wp2_with fail;go_ret;exact ⟨_,rfl,F.out⟩
theorem jrb {σ:Type} {J:σ->World->Prop} (y:∀ s V F,J s V->Below V.heap.size V F->J s F) (k:∀ s V,J s V->Mem w V L) (X q E Z d ks:Nat) (cw u cs:Array Value) (p p':Addr)
  (O:Option Addr) (n sc:Nat) (hn:n<=255) (hb:Nat) (I:0<n->O=some ⟨hb,0,none⟩)
  (S:∀ V,Mem w V L->V.cell? ⟨X,0,none⟩=some (.func (.func E) #[] #[]))
  (T:∀ V,Mem w V L->V.cell? ⟨q,0,none⟩=some (.func (.func Z) #[] cw)/\V.cell? ⟨q,1,none⟩=some (.func (.func d) #[] u)/\V.cell? ⟨q,2,none⟩=some (.func (.func ks) #[] cs))
  (eo:∀ args V,(callFunc E args).run prog V=.ok (.enter E args) V) (ho:∀ V,Calls prog E #[.pointer (some p)] V fun e F=>e=.returned (.pointer (some p'))/\V=F)
  (er:∀ args V,(callFunc d args).run prog V=.ok (.enter d args) V)
  (dec:Nat->List Int->σ->Option (σ×List Int))
  (hr:∀ i,i<n->∀ s l a c V,J s V->Sl w a l c->Calls prog d (#[.slice a l.length c,.pointer (some ⟨hb,i*2,none⟩)]++u) V (qh w L J (dec i l s)))
  (s:σ) (l:List Int) (a:Option Addr) (c:Nat) (W:World) (h:J s W) (P:Sl w a l c) (cx:W.cell? p'=some (.slice O n sc)) :
  Calls prog 304 #[.slice a l.length c,.pointer (some p),.pointer (some ⟨X,0,none⟩),.pointer (some ⟨q,0,none⟩)] W (qh w L J (sq dec 0 n l s)):=by
 have c0:=S _ (k _ _ h);obtain ⟨R,M⟩:∃ R,sq dec 0 n l s=R:=⟨_,rfl⟩;rw [M];have g:Hid (∀ V,Mem w V L->V.cell? ⟨q,1,none⟩=some (.func (.func d) #[] u)):=fun V K=>(T V K).2.1;have t:Hid (∀ s V,J s V->Mem w V L):=k;clear T S k;go_enter func304,ntmps304;go_wp2_with fail;refine (ho _).mono ?_;rintro e V ⟨rfl,rfl⟩;go_wp2_with fail
 go_loopw [0,19] (fun u0 u19 w'=>∃ (i:Nat) (s':σ) (f:List Int) (C:Option Addr) (B:Nat),i<=n/\u19=.int .i64 i/\u0=.slice C f.length B/\Hid (J s' w'/\Sl w C f B/\sq dec i (n-i) f s'=R)) (fun u0 u19 w'=>n-(intOf u19).toNat)
 case atStart=>exact ⟨0,s,l,a,c,a6 _,rfl,rfl,h,P,by simpa using M⟩
 case round =>
  obtain ⟨i,s',f,C,B,hi,rfl,rfl,N⟩:=hrel;obtain ⟨A,j,b⟩:=N.out;clear c0 cx;by_cases hlt:i<n
  ·have h1:(i:Int)<n:=by omega
   obtain rfl:=I (by omega);have d1:=g.out _ (t.out _ _ A);have d2:=g.out _ (t.out _ _ A).drew;have r:Hid (∀ V,Below wr.heap.size wr V->Calls prog d (#[.slice C f.length B,.pointer (some ⟨hb,i*2,none⟩)]++u) V (qh w L J (dec i f s'))):=fun V K=>hr i hlt s' f C B V (y _ _ _ A K) j;rw [show n-i=(n-(i+1))+1 by omega,sq] at b;clear hr y A j M N h P;generalize f.length=m at r;cases hd:dec i f s' with
   | none =>
    rw [hd] at b r;simp only at b;subst b;have D:=r.out _ ((ab _ wr).drew);go_upto_region 5 with fail
    go_region_held3 (fun V=>V.cell? ⟨q,1,none⟩=some (.func (.func d) #[] u)) (first|assumption|exact g.out _ Q|go_keep)
     (first|(go_at_fn d;refine D.mono ?_;rintro e V ⟨rfl,Q⟩))
    clear r D;go_wp2_with fail;go_ret2;exact ⟨rfl,Q⟩
   | some x =>
    obtain ⟨G,H⟩:=x;rw [hd] at b r;simp only at b;have D:=r.out _ ((ab _ wr).drew);go_upto_region 5 with fail
    go_region_held3 (fun V=>V.cell? ⟨q,1,none⟩=some (.func (.func d) #[] u)) (first|assumption|exact g.out _ (t.out _ _ o)|go_keep)
     (first|(go_at_fn d;refine D.mono ?_;rintro e V ⟨Y,U,rfl,z,o⟩))
    have HH:Hid (J G V/\Sl w Y H U/\sq dec (i+1) (n-(i+1)) H G=R):=⟨o,z,b⟩;clear r D o z b hd;go_wp2_with fail;go_roundw
    case rel=>exact ⟨i+1,G,H,Y,U,by omega,by go_num,rfl,HH⟩
    case measure=>simp [intOf];omega
  ·have h1:¬((i:Int)<n):=by omega
   obtain rfl:i=n:=by omega
   rw [Nat.sub_self,sq] at b;subst b;clear N;go_wp2_with fail;go_ret2;exact ⟨_,_,rfl,j,A⟩
def ja2 (bo:Nat):Fv:=⟨273,274,275,#[.pointer (some ⟨bo,0,none⟩)],#[.pointer (some ⟨bo,0,none⟩)],#[.pointer (some ⟨bo,0,none⟩)]⟩
theorem jkg {α ρ:Type} {I:Rp α ρ} {J:St' α} (m i o:Nat) (h:α->ByteArray) (s:α->ByteArray->α)
  (t:(m,.cells #[.func (.func i) #[] #[]] 290)∈L)
  (C:Ent i) (u:∀ V g d,Calls prog i #[.pointer (some ⟨g,d,none⟩)] V fun e f=>e=.returned (.pointer (some ⟨g,d+o,none⟩))/\V=f)
  (B:∀ x r V g d,I x r V g d->(h x).size<=140737488351232/\V.cell? ⟨g,d+o,none⟩=some (.string (h x)))
  (H:∀ x g T b post V K,J w x g T b post V K->∃ A M,Lens w J o x g T b post V K M A/\A[b.length+o]?=some (.string (h x)) /\
   ∀ y f,Mem w f ((g,.cells (A.setIfInBounds (b.length+o) (.string y)) T (0,0))::M)->J w (s x y) g T b post f K) :
  Fd w L I J (ja2 m) (jct h s):=by
 refine ⟨enters_of func273 (by kernel_rfl) rfl,enters_of func274 (by kernel_rfl) rfl,enters_of func275 (by kernel_rfl) rfl,?_,?_⟩
 ·intro K q x r g d hx v l V z hb;exact jss z m i ⟨g,d,none⟩ ⟨g,d+o,none⟩ (h x) (B _ _ _ _ _ (hx V z.mem)).1 (fun V k=>by rw [ja k (q _ t)];rfl) C (fun V=>u V g d) (fun V k=>(B _ _ _ _ _ (hx V k)).2) hb
 ·intro K q x g T b post a l c V E F;obtain ⟨A,M,p,N,j⟩:=H x g T b post V K E;have:=jst p.mem F m i (b.length+o) ⟨g,b.length,none⟩ (h x) N (fun V k=>by rw [ja k (p.sub _ (q _ t))];rfl) C (fun V=>u V g b.length);refine this.mono ?_;intro e f G;exact G.mono (s x) rfl (p.back f) (fun y D=>j y f D)
theorem jjn (h:Mem w W L) (a:Nat) :
  Calls prog 231 #[.func (.func a) #[] #[]] W fun e g=>∃ d,e=.returned (ja2 d).val/\Mem w g ((d,.cells #[.func (.func a) #[] #[]] 290)::L):=by
 have b:Mem w (W.alloc (.cells #[.func (.func a) #[] #[]] 290)) ((W.heap.size,.cells #[.func (.func a) #[] #[]] 290)::L):=(h.push W.heap.size (.cells #[.func (.func a) #[] #[]] 290) rfl).perm a9;have f:∀ (c:Fn) (first cap:Array Value) (w:World),(a3 c first cap).run prog w=.ok (.func c first cap) w:=fun _ _ _ _=>rfl;have i:Hid (Mem w (W.alloc (.cells #[.func (.func a) #[] #[]] 290)) ((W.heap.size,.cells #[.func (.func a) #[] #[]] 290)::L)):=b;clear b h;go_enter func231,ntmps231;go_wp2_with fail;refine bodyPost_ret (v:=(ja2 W.heap.size).val) ?_ rfl ⟨_,rfl,i.out.after ((ab _ _).alloc (a7 _) _)⟩;exact results_cell_row (p:=2) (ty:=246) rfl _ _ (W.heap.size+1) 246 _ (0,0) _ rfl (heap_alloc2_new _ _ _) underlying246 rfl (by kernel_rfl)
def j10 (bs bo:Nat):Fv:=⟨315,316,317,#[.pointer (some ⟨bs,0,none⟩),.pointer (some ⟨bo,0,none⟩)],#[.pointer (some ⟨bs,0,none⟩),.pointer (some ⟨bo,0,none⟩)],#[.pointer (some ⟨bo,0,none⟩)]⟩
theorem jgs {α ρ:Type} {I:Rp α ρ} {J:St' α} (bs t sz i o:Nat) (hs:sz<=4) (m:∀ q,0<=q->q<256 ^ sz->ac.wrap q=q) (p:α->Int) (z:α->Int->α)
  (mb:(bs,.cells #[.int .i64 sz] 3)∈L) (B:(t,.cells #[.func (.func i) #[] #[]] 331)∈L)
  (D:Ent i) (C:∀ V g d,Calls prog i #[.pointer (some ⟨g,d,none⟩)] V fun e h=>e=.returned (.pointer (some ⟨g,d+o,none⟩))/\V=h)
  (P:∀ x r V g d,I x r V g d->V.cell? ⟨g,d+o,none⟩=some (.int .u32 (p x)))
  (O:∀ x g T b post V K,J w x g T b post V K->∃ A M,Lens w J o x g T b post V K M A/\A[b.length+o]?=some (.int .u32 (p x)) /\
   ∀ y h,Mem w h ((g,.cells (A.setIfInBounds (b.length+o) (.int .u32 y)) T (0,0))::M)->J w (z x y) g T b post h K) :
  Fd w L I J (j10 bs t) (jz sz p z):=by
 refine ⟨enters_of func315 (by kernel_rfl) rfl,enters_of func316 (by kernel_rfl) rfl,enters_of func317 (by kernel_rfl) rfl,?_,?_⟩
 ·intro K k x r g d hx v l V N hb;have u:l.length+sz<=1000000000:=by simpa [jz,jr] using hb
  have:=jbn 315 (by simp) N bs t sz i ⟨g,d,none⟩ ⟨g,d+o,none⟩ (p x) (by omega) (fun V f=>by rw [ja f (k _ mb)];rfl) (fun V f=>by rw [ja f (k _ B)];rfl) D (fun V=>C V g d) (fun V f=>P _ _ _ _ _ (hx V f)) u;rw [j2k sz (by omega)] at this;exact this
 ·intro K k x g T b post a l c V F G;obtain ⟨A,M,s,Q,j⟩:=O x g T b post V K F;have:=jbp 316 (by simp) s.mem G bs t sz i (b.length+o) ⟨g,b.length,none⟩ (p x) hs m Q (fun V f=>by rw [ja f (s.sub _ (k _ mb))];rfl) (fun V f=>by rw [ja f (s.sub _ (k _ B))];rfl) D (fun V=>C V g b.length);refine this.mono ?_;intro e h H;refine H.mono (z x) ?_ (s.back h) (fun y E=>j y h E);simp only [jz];split<;>rfl
theorem jfv (h:Mem w W L) (sz a:Nat) :
  Calls prog 301 #[.int .i64 sz,.func (.func a) #[] #[]] W fun e i=>∃ bs d,e=.returned (j10 bs d).val/\Mem w i ((bs,.cells #[.int .i64 sz] 3)::(d,.cells #[.func (.func a) #[] #[]] 331)::L):=by
 have b:Mem w ((W.alloc (.cells #[.int .i64 sz] 3)).alloc (.cells #[.func (.func a) #[] #[]] 331)) ((W.heap.size,.cells #[.int .i64 sz] 3)::(W.heap.size+1,.cells #[.func (.func a) #[] #[]] 331)::L):=by
  have g:=(h.push W.heap.size (.cells #[.int .i64 sz] 3) rfl).push (W.heap.size+1) (.cells #[.func (.func a) #[] #[]] 331) (by simp);refine g.perm ?_;rw [a8];exact a9
 have f:∀ (c:Fn) (first cap:Array Value) (w:World),(a3 c first cap).run prog w=.ok (.func c first cap) w:=fun _ _ _ _=>rfl;have j:Hid (Mem w ((W.alloc (.cells #[.int .i64 sz] 3)).alloc (.cells #[.func (.func a) #[] #[]] 331)) ((W.heap.size,.cells #[.int .i64 sz] 3)::(W.heap.size+1,.cells #[.func (.func a) #[] #[]] 331)::L)):=b;clear b h;go_enter func301,ntmps301;go_wp2_with fail;refine bodyPost_ret (v:=(j10 W.heap.size (W.heap.size+1)).val) ?_ rfl ⟨_,_,rfl,j.out.after ((ab _ _).alloc (a7 _) _)⟩;exact results_cell_row (p:=4) (ty:=308) rfl _ _ (W.heap.size+1+1) 308 _ (0,0) _ rfl (jn _ _ _ _) underlying308 rfl (by kernel_rfl)
def j1v (bs bo:Nat):Fv:=⟨321,322,323,#[.pointer (some ⟨bs,0,none⟩),.pointer (some ⟨bo,0,none⟩)],#[.pointer (some ⟨bs,0,none⟩),.pointer (some ⟨bo,0,none⟩)],#[.pointer (some ⟨bo,0,none⟩)]⟩
theorem j8c {α ρ:Type} {I:Rp α ρ} {J:St' α} (bs t sz i o:Nat) (hs:sz<=4) (m:∀ q,0<=q->q<256 ^ sz->ac.wrap q=q) (p:α->Int) (z:α->Int->α)
  (mb:(bs,.cells #[.int .i64 sz] 3)∈L) (B:(t,.cells #[.func (.func i) #[] #[]] 337)∈L)
  (D:Ent i) (C:∀ V g d,Calls prog i #[.pointer (some ⟨g,d,none⟩)] V fun e h=>e=.returned (.pointer (some ⟨g,d+o,none⟩))/\V=h)
  (P:∀ x r V g d,I x r V g d->V.cell? ⟨g,d+o,none⟩=some (.int .u32 (p x)))
  (O:∀ x g T b post V K,J w x g T b post V K->∃ A M,Lens w J o x g T b post V K M A/\A[b.length+o]?=some (.int .u32 (p x)) /\
   ∀ y h,Mem w h ((g,.cells (A.setIfInBounds (b.length+o) (.int .u32 y)) T (0,0))::M)->J w (z x y) g T b post h K) :
  Fd w L I J (j1v bs t) (jz sz p z):=by
 refine ⟨enters_of func321 (by kernel_rfl) rfl,enters_of func322 (by kernel_rfl) rfl,enters_of func323 (by kernel_rfl) rfl,?_,?_⟩
 ·intro K k x r g d hx v l V N hb;have u:l.length+sz<=1000000000:=by simpa [jz,jr] using hb
  have:=jbn 321 (by simp) N bs t sz i ⟨g,d,none⟩ ⟨g,d+o,none⟩ (p x) (by omega) (fun V f=>by rw [ja f (k _ mb)];rfl) (fun V f=>by rw [ja f (k _ B)];rfl) D (fun V=>C V g d) (fun V f=>P _ _ _ _ _ (hx V f)) u;rw [j2k sz (by omega)] at this;exact this
 ·intro K k x g T b post a l c V F G;obtain ⟨A,M,s,Q,j⟩:=O x g T b post V K F;have:=jbp 322 (by simp) s.mem G bs t sz i (b.length+o) ⟨g,b.length,none⟩ (p x) hs m Q (fun V f=>by rw [ja f (s.sub _ (k _ mb))];rfl) (fun V f=>by rw [ja f (s.sub _ (k _ B))];rfl) D (fun V=>C V g b.length);refine this.mono ?_;intro e h H;refine H.mono (z x) ?_ (s.back h) (fun y E=>j y h E);simp only [jz];split<;>rfl
theorem j7w (h:Mem w W L) (sz a:Nat) :
  Calls prog 309 #[.int .i64 sz,.func (.func a) #[] #[]] W fun e i=>∃ bs d,e=.returned (j1v bs d).val/\Mem w i ((bs,.cells #[.int .i64 sz] 3)::(d,.cells #[.func (.func a) #[] #[]] 337)::L):=by
 have b:Mem w ((W.alloc (.cells #[.int .i64 sz] 3)).alloc (.cells #[.func (.func a) #[] #[]] 337)) ((W.heap.size,.cells #[.int .i64 sz] 3)::(W.heap.size+1,.cells #[.func (.func a) #[] #[]] 337)::L):=by
  have g:=(h.push W.heap.size (.cells #[.int .i64 sz] 3) rfl).push (W.heap.size+1) (.cells #[.func (.func a) #[] #[]] 337) (by simp);refine g.perm ?_;rw [a8];exact a9
 have f:∀ (c:Fn) (first cap:Array Value) (w:World),(a3 c first cap).run prog w=.ok (.func c first cap) w:=fun _ _ _ _=>rfl;have j:Hid (Mem w ((W.alloc (.cells #[.int .i64 sz] 3)).alloc (.cells #[.func (.func a) #[] #[]] 337)) ((W.heap.size,.cells #[.int .i64 sz] 3)::(W.heap.size+1,.cells #[.func (.func a) #[] #[]] 337)::L)):=b;clear b h;go_enter func309,ntmps309;go_wp2_with fail;refine bodyPost_ret (v:=(j1v W.heap.size (W.heap.size+1)).val) ?_ rfl ⟨_,_,rfl,j.out.after ((ab _ _).alloc (a7 _) _)⟩;exact results_cell_row (p:=4) (ty:=315) rfl _ _ (W.heap.size+1+1) 315 _ (0,0) _ rfl (jn _ _ _ _) underlying315 rfl (by kernel_rfl)
def j6s (bo:Nat):Fv:=⟨288,290,291,#[.pointer (some ⟨bo,0,none⟩)],#[.pointer (some ⟨bo,0,none⟩)],#[.pointer (some ⟨bo,0,none⟩)]⟩
theorem jgu {α ρ:Type} {I:Rp α ρ} {J:St' α} (q i o:Nat) (p:α->Nat) (z:α->Nat->α)
  (C:(q,.cells #[.func (.func i) #[] #[]] 284)∈L)
  (H:Ent i) (D:∀ V g f,Calls prog i #[.pointer (some ⟨g,f,none⟩)] V fun e h=>e=.returned (.pointer (some ⟨g,f+o,none⟩))/\V=h)
  (B:ρ->Value) (G:∀ x r V g f,I x r V g f->(∃ a c,B r=.slice a (p x) c/\p x<=c/\c<=9223372036854775807/\(a=none->c=0))/\V.cell? ⟨g,f+o,none⟩=some (B r))
  (P:∀ x g T d post V K,J w x g T d post V K->∃ A M y,Lens w J o x g T d post V K M A/\A[d.length+o]?=some y /\
   ∀ m h,m<=255->j75 w h g A T (d.length+o) M m->J w (z x m) g T d post h K) :
  Fd w L I J (j6s q) (j1l p z):=by
 refine ⟨enters_of func288 (by kernel_rfl) rfl,enters_of func290 (by kernel_rfl) rfl,enters_of func291 (by kernel_rfl) rfl,?_,?_⟩
 ·intro K u x r g f hx v l V F hb;obtain ⟨⟨a,c,e,U,S,R⟩,-⟩:=G _ _ _ _ _ (hx V F.mem);exact jrs F q i ⟨g,f,none⟩ ⟨g,f+o,none⟩ a (p x) c U S R (fun V k=>by rw [ja k (u _ C)];rfl) H (fun V=>D V g f) (fun V k=>by rw [<-e];exact (G _ _ _ _ _ (hx V k)).2) (by simpa [j1l] using hb)
 ·intro K u x g T d post a l c V N E;obtain ⟨A,M,y,t,Q,j⟩:=P x g T d post V K N;have:=jrv t.mem E q i (d.length+o) ⟨g,d.length,none⟩ y Q (fun V k=>by rw [ja k (t.sub _ (u _ C))];rfl) H (fun V=>D V g d.length);refine this.mono ?_;intro e h O;refine O.mono2 (z x) ?_ (t.back h) (fun m X s hc=>?_)
  ·cases l<;>rfl
  ·cases l with
   | nil=>cases s
   | cons b r =>
    simp only [a5.injEq,Prod.mk.injEq] at s;obtain ⟨rfl,rfl⟩:=s;have:=E.row.bytes 0;simp only [aa] at this;exact j _ h (by omega) hc
theorem jfy (h:Mem w W L) (a:Nat) :
  Calls prog 249 #[.func (.func a) #[] #[]] W fun e g=>∃ d,e=.returned (j6s d).val/\Mem w g ((d,.cells #[.func (.func a) #[] #[]] 284)::L):=by
 have b:Mem w (W.alloc (.cells #[.func (.func a) #[] #[]] 284)) ((W.heap.size,.cells #[.func (.func a) #[] #[]] 284)::L):=(h.push W.heap.size (.cells #[.func (.func a) #[] #[]] 284) rfl).perm a9;have f:∀ (c:Fn) (first cap:Array Value) (w:World),(a3 c first cap).run prog w=.ok (.func c first cap) w:=fun _ _ _ _=>rfl;have i:Hid (Mem w (W.alloc (.cells #[.func (.func a) #[] #[]] 284)) ((W.heap.size,.cells #[.func (.func a) #[] #[]] 284)::L)):=b;clear b h;go_enter func249,ntmps249;go_wp2_with fail;refine bodyPost_ret (v:=(j6s W.heap.size).val) ?_ rfl ⟨_,rfl,i.out.after ((ab _ _).alloc (a7 _) _)⟩;exact results_cell_row (p:=2) (ty:=246) rfl _ _ (W.heap.size+1) 246 _ (0,0) _ rfl (heap_alloc2_new _ _ _) underlying246 rfl (by kernel_rfl)
def j6t (bo:Nat):Fv:=⟨292,294,295,#[.pointer (some ⟨bo,0,none⟩)],#[.pointer (some ⟨bo,0,none⟩)],#[.pointer (some ⟨bo,0,none⟩)]⟩
theorem j8f {α ρ:Type} {I:Rp α ρ} {J:St' α} (q i o:Nat) (p:α->Nat) (z:α->Nat->α)
  (C:(q,.cells #[.func (.func i) #[] #[]] 286)∈L)
  (H:Ent i) (D:∀ V g f,Calls prog i #[.pointer (some ⟨g,f,none⟩)] V fun e h=>e=.returned (.pointer (some ⟨g,f+o,none⟩))/\V=h)
  (B:ρ->Value) (G:∀ x r V g f,I x r V g f->(∃ a c,B r=.slice a (p x) c/\p x<=c/\c<=9223372036854775807/\(a=none->c=0))/\V.cell? ⟨g,f+o,none⟩=some (B r))
  (P:∀ x g T d post V K,J w x g T d post V K->∃ A M y,Lens w J o x g T d post V K M A/\A[d.length+o]?=some y /\
   ∀ m h,m<=255->j3g w h g A T (d.length+o) M m->J w (z x m) g T d post h K) :
  Fd w L I J (j6t q) (j1l p z):=by
 refine ⟨enters_of func292 (by kernel_rfl) rfl,enters_of func294 (by kernel_rfl) rfl,enters_of func295 (by kernel_rfl) rfl,?_,?_⟩
 ·intro K u x r g f hx v l V F hb;obtain ⟨⟨a,c,e,U,S,R⟩,-⟩:=G _ _ _ _ _ (hx V F.mem);exact jrt F q i ⟨g,f,none⟩ ⟨g,f+o,none⟩ a (p x) c U S R (fun V k=>by rw [ja k (u _ C)];rfl) H (fun V=>D V g f) (fun V k=>by rw [<-e];exact (G _ _ _ _ _ (hx V k)).2) (by simpa [j1l] using hb)
 ·intro K u x g T d post a l c V N E;obtain ⟨A,M,y,t,Q,j⟩:=P x g T d post V K N;have:=jrw t.mem E q i (d.length+o) ⟨g,d.length,none⟩ y Q (fun V k=>by rw [ja k (t.sub _ (u _ C))];rfl) H (fun V=>D V g d.length);refine this.mono ?_;intro e h O;refine O.mono2 (z x) ?_ (t.back h) (fun m X s hc=>?_)
  ·cases l<;>rfl
  ·cases l with
   | nil=>cases s
   | cons b r =>
    simp only [a5.injEq,Prod.mk.injEq] at s;obtain ⟨rfl,rfl⟩:=s;have:=E.row.bytes 0;simp only [aa] at this;exact j _ h (by omega) hc
theorem j7z (h:Mem w W L) (a:Nat) :
  Calls prog 250 #[.func (.func a) #[] #[]] W fun e g=>∃ d,e=.returned (j6t d).val/\Mem w g ((d,.cells #[.func (.func a) #[] #[]] 286)::L):=by
 have b:Mem w (W.alloc (.cells #[.func (.func a) #[] #[]] 286)) ((W.heap.size,.cells #[.func (.func a) #[] #[]] 286)::L):=(h.push W.heap.size (.cells #[.func (.func a) #[] #[]] 286) rfl).perm a9;have f:∀ (c:Fn) (first cap:Array Value) (w:World),(a3 c first cap).run prog w=.ok (.func c first cap) w:=fun _ _ _ _=>rfl;have i:Hid (Mem w (W.alloc (.cells #[.func (.func a) #[] #[]] 286)) ((W.heap.size,.cells #[.func (.func a) #[] #[]] 286)::L)):=b;clear b h;go_enter func250,ntmps250;go_wp2_with fail;refine bodyPost_ret (v:=(j6t W.heap.size).val) ?_ rfl ⟨_,rfl,i.out.after ((ab _ _).alloc (a7 _) _)⟩;exact results_cell_row (p:=2) (ty:=246) rfl _ _ (W.heap.size+1) 246 _ (0,0) _ rfl (heap_alloc2_new _ _ _) underlying246 rfl (by kernel_rfl)
def j6l (bs bo:Nat):Fv:=⟨276,277,278,#[.pointer (some ⟨bs,0,none⟩),.pointer (some ⟨bo,0,none⟩)],#[.pointer (some ⟨bs,0,none⟩),.pointer (some ⟨bo,0,none⟩)],#[.pointer (some ⟨bo,0,none⟩)]⟩
theorem j1x {α ρ:Type} {I:Rp α ρ} {J:St' α} (bs t sz i o:Nat) (hs:sz<=4) (m:∀ q,0<=q->q<256 ^ sz->ac.wrap q=q) (p:α->Int) (z:α->Int->α)
  (mb:(bs,.cells #[.int .i64 sz] 3)∈L) (B:(t,.cells #[.func (.func i) #[] #[]] 292)∈L)
  (D:Ent i) (C:∀ V g d,Calls prog i #[.pointer (some ⟨g,d,none⟩)] V fun e h=>e=.returned (.pointer (some ⟨g,d+o,none⟩))/\V=h)
  (P:∀ x r V g d,I x r V g d->V.cell? ⟨g,d+o,none⟩=some (.int .u32 (p x)))
  (O:∀ x g T b post V K,J w x g T b post V K->∃ A M,Lens w J o x g T b post V K M A/\A[b.length+o]?=some (.int .u32 (p x)) /\
   ∀ y h,Mem w h ((g,.cells (A.setIfInBounds (b.length+o) (.int .u32 y)) T (0,0))::M)->J w (z x y) g T b post h K) :
  Fd w L I J (j6l bs t) (jz sz p z):=by
 refine ⟨enters_of func276 (by kernel_rfl) rfl,enters_of func277 (by kernel_rfl) rfl,enters_of func278 (by kernel_rfl) rfl,?_,?_⟩
 ·intro K k x r g d hx v l V N hb;have u:l.length+sz<=1000000000:=by simpa [jz,jr] using hb
  have:=jbn 276 (by simp) N bs t sz i ⟨g,d,none⟩ ⟨g,d+o,none⟩ (p x) (by omega) (fun V f=>by rw [ja f (k _ mb)];rfl) (fun V f=>by rw [ja f (k _ B)];rfl) D (fun V=>C V g d) (fun V f=>P _ _ _ _ _ (hx V f)) u;rw [j2k sz (by omega)] at this;exact this
 ·intro K k x g T b post a l c V F G;obtain ⟨A,M,s,Q,j⟩:=O x g T b post V K F;have:=jbp 277 (by simp) s.mem G bs t sz i (b.length+o) ⟨g,b.length,none⟩ (p x) hs m Q (fun V f=>by rw [ja f (s.sub _ (k _ mb))];rfl) (fun V f=>by rw [ja f (s.sub _ (k _ B))];rfl) D (fun V=>C V g b.length);refine this.mono ?_;intro e h H;refine H.mono (z x) ?_ (s.back h) (fun y E=>j y h E);simp only [jz];split<;>rfl
theorem j1q (h:Mem w W L) (sz a:Nat) :
  Calls prog 233 #[.int .i64 sz,.func (.func a) #[] #[]] W fun e i=>∃ bs d,e=.returned (j6l bs d).val/\Mem w i ((bs,.cells #[.int .i64 sz] 3)::(d,.cells #[.func (.func a) #[] #[]] 292)::L):=by
 have b:Mem w ((W.alloc (.cells #[.int .i64 sz] 3)).alloc (.cells #[.func (.func a) #[] #[]] 292)) ((W.heap.size,.cells #[.int .i64 sz] 3)::(W.heap.size+1,.cells #[.func (.func a) #[] #[]] 292)::L):=by
  have g:=(h.push W.heap.size (.cells #[.int .i64 sz] 3) rfl).push (W.heap.size+1) (.cells #[.func (.func a) #[] #[]] 292) (by simp);refine g.perm ?_;rw [a8];exact a9
 have f:∀ (c:Fn) (first cap:Array Value) (w:World),(a3 c first cap).run prog w=.ok (.func c first cap) w:=fun _ _ _ _=>rfl;have j:Hid (Mem w ((W.alloc (.cells #[.int .i64 sz] 3)).alloc (.cells #[.func (.func a) #[] #[]] 292)) ((W.heap.size,.cells #[.int .i64 sz] 3)::(W.heap.size+1,.cells #[.func (.func a) #[] #[]] 292)::L)):=b;clear b h;go_enter func233,ntmps233;go_wp2_with fail;refine bodyPost_ret (v:=(j6l W.heap.size (W.heap.size+1)).val) ?_ rfl ⟨_,_,rfl,j.out.after ((ab _ _).alloc (a7 _) _)⟩;exact results_cell_row (p:=4) (ty:=246) rfl _ _ (W.heap.size+1+1) 246 _ (0,0) _ rfl (jn _ _ _ _) underlying246 rfl (by kernel_rfl)
def j6n (bs bo:Nat):Fv:=⟨282,283,284,#[.pointer (some ⟨bs,0,none⟩),.pointer (some ⟨bo,0,none⟩)],#[.pointer (some ⟨bs,0,none⟩),.pointer (some ⟨bo,0,none⟩)],#[.pointer (some ⟨bo,0,none⟩)]⟩
theorem j8b {α ρ:Type} {I:Rp α ρ} {J:St' α} (bs t sz i o:Nat) (hs:sz<=4) (m:∀ q,0<=q->q<256 ^ sz->ad.wrap q=q) (p:α->Int) (z:α->Int->α)
  (mb:(bs,.cells #[.int .i64 sz] 3)∈L) (B:(t,.cells #[.func (.func i) #[] #[]] 297)∈L)
  (D:Ent i) (C:∀ V g d,Calls prog i #[.pointer (some ⟨g,d,none⟩)] V fun e h=>e=.returned (.pointer (some ⟨g,d+o,none⟩))/\V=h)
  (P:∀ x r V g d,I x r V g d->V.cell? ⟨g,d+o,none⟩=some (.int .u16 (p x)))
  (O:∀ x g T b post V K,J w x g T b post V K->∃ A M,Lens w J o x g T b post V K M A/\A[b.length+o]?=some (.int .u16 (p x)) /\
   ∀ y h,Mem w h ((g,.cells (A.setIfInBounds (b.length+o) (.int .u16 y)) T (0,0))::M)->J w (z x y) g T b post h K) :
  Fd w L I J (j6n bs t) (jz sz p z):=by
 refine ⟨enters_of func282 (by kernel_rfl) rfl,enters_of func283 (by kernel_rfl) rfl,enters_of func284 (by kernel_rfl) rfl,?_,?_⟩
 ·intro K k x r g d hx v l V N hb;have u:l.length+sz<=1000000000:=by simpa [jz,jr] using hb
  have:=jqu N bs t sz i ⟨g,d,none⟩ ⟨g,d+o,none⟩ (p x) (by omega) (fun V f=>by rw [ja f (k _ mb)];rfl) (fun V f=>by rw [ja f (k _ B)];rfl) D (fun V=>C V g d) (fun V f=>P _ _ _ _ _ (hx V f)) u;rw [j2k sz (by omega)] at this;exact this
 ·intro K k x g T b post a l c V F G;obtain ⟨A,M,s,Q,j⟩:=O x g T b post V K F;have:=jqw s.mem G bs t sz i (b.length+o) ⟨g,b.length,none⟩ (p x) hs m Q (fun V f=>by rw [ja f (s.sub _ (k _ mb))];rfl) (fun V f=>by rw [ja f (s.sub _ (k _ B))];rfl) D (fun V=>C V g b.length);refine this.mono ?_;intro e h H;refine H.mono (z x) ?_ (s.back h) (fun y E=>j y h E);simp only [jz];split<;>rfl
theorem j7v (h:Mem w W L) (sz a:Nat) :
  Calls prog 240 #[.int .i64 sz,.func (.func a) #[] #[]] W fun e i=>∃ bs d,e=.returned (j6n bs d).val/\Mem w i ((bs,.cells #[.int .i64 sz] 3)::(d,.cells #[.func (.func a) #[] #[]] 297)::L):=by
 have b:Mem w ((W.alloc (.cells #[.int .i64 sz] 3)).alloc (.cells #[.func (.func a) #[] #[]] 297)) ((W.heap.size,.cells #[.int .i64 sz] 3)::(W.heap.size+1,.cells #[.func (.func a) #[] #[]] 297)::L):=by
  have g:=(h.push W.heap.size (.cells #[.int .i64 sz] 3) rfl).push (W.heap.size+1) (.cells #[.func (.func a) #[] #[]] 297) (by simp);refine g.perm ?_;rw [a8];exact a9
 have f:∀ (c:Fn) (first cap:Array Value) (w:World),(a3 c first cap).run prog w=.ok (.func c first cap) w:=fun _ _ _ _=>rfl;have j:Hid (Mem w ((W.alloc (.cells #[.int .i64 sz] 3)).alloc (.cells #[.func (.func a) #[] #[]] 297)) ((W.heap.size,.cells #[.int .i64 sz] 3)::(W.heap.size+1,.cells #[.func (.func a) #[] #[]] 297)::L)):=b;clear b h;go_enter func240,ntmps240;go_wp2_with fail;refine bodyPost_ret (v:=(j6n W.heap.size (W.heap.size+1)).val) ?_ rfl ⟨_,_,rfl,j.out.after ((ab _ _).alloc (a7 _) _)⟩;exact results_cell_row (p:=4) (ty:=246) rfl _ _ (W.heap.size+1+1) 246 _ (0,0) _ rfl (jn _ _ _ _) underlying246 rfl (by kernel_rfl)
def ja3 (bo:Nat):Fv:=⟨279,280,281,#[.pointer (some ⟨bo,0,none⟩)],#[.pointer (some ⟨bo,0,none⟩)],#[.pointer (some ⟨bo,0,none⟩)]⟩
theorem j6w {α ρ:Type} {I:Rp α ρ} {J:St' α} (q n i o:Nat) (G:n<=8) (s:0<n) (p:α->List Int) (u:α->List Int->α)
  (z:(q,.cells #[.func (.func i) #[] #[]] 294)∈L)
  (F:Ent i) (B:∀ V g d,Calls prog i #[.pointer (some ⟨g,d,none⟩)] V fun e f=>e=.returned (.slice (some ⟨g,d+o,none⟩) n n)/\V=f)
  (E:∀ x r V g d,I x r V g d->(p x).length=n/\Row V (some ⟨g,d+o,none⟩) (p x))
  (P:∀ x g T b post V K,J w x g T b post V K->∃ A M,Lens w J o x g T b post V K M A/\b.length+o+n<=A.size /\
   ∀ y f,y.length=n->j6 y->Mem w f ((g,.cells (spl A (b.length+o) y) T (0,0))::M)->J w (u x y) g T b post f K) :
  Fd w L I J (ja3 q) (j18 n p u):=by
 refine ⟨enters_of func279 (by kernel_rfl) rfl,enters_of func280 (by kernel_rfl) rfl,enters_of func281 (by kernel_rfl) rfl,?_,?_⟩
 ·intro K t x r g d hx v l V D hb;obtain ⟨h,-⟩:=E _ _ _ _ _ (hx V D.mem);exact jqn 279 (by simp) D q i n ⟨g,d,none⟩ ⟨g,d+o,none⟩ (p x) h (fun V m=>by rw [ja m (t _ z)];rfl) F (fun V=>B V g d) (fun V m=>(E _ _ _ _ _ (hx V m)).2) (by rw [<-h];exact hb)
 ·intro K t x g T b post a l c V N C;obtain ⟨A,M,h,Q,k⟩:=P x g T b post V K N;have:=jqp 280 (by simp) h.mem C q n i (b.length+o) ⟨g,b.length,none⟩ G s Q (fun V m=>by rw [ja m (h.sub _ (t _ z))];rfl) F (fun V=>B V g b.length);refine this.mono ?_;intro e f O;refine O.mono2 (u x) ?_ (h.back f) (fun y R j H=>?_)
  ·simp only [j18];split<;>rfl
  ·by_cases hlt:l.length<n
   ·rw [if_pos hlt] at j;cases j
   ·rw [if_neg hlt] at j;simp only [a5.injEq,Prod.mk.injEq] at j;obtain ⟨rfl,rfl⟩:=j;exact k _ f (by rw [List.length_take];omega) (j0e C.row.bytes n) H
theorem j6b (h:Mem w W L) (a:Nat) :
  Calls prog 235 #[.func (.func a) #[] #[]] W fun e g=>∃ d,e=.returned (ja3 d).val/\Mem w g ((d,.cells #[.func (.func a) #[] #[]] 294)::L):=by
 have b:Mem w (W.alloc (.cells #[.func (.func a) #[] #[]] 294)) ((W.heap.size,.cells #[.func (.func a) #[] #[]] 294)::L):=(h.push W.heap.size (.cells #[.func (.func a) #[] #[]] 294) rfl).perm a9;have f:∀ (c:Fn) (first cap:Array Value) (w:World),(a3 c first cap).run prog w=.ok (.func c first cap) w:=fun _ _ _ _=>rfl;have i:Hid (Mem w (W.alloc (.cells #[.func (.func a) #[] #[]] 294)) ((W.heap.size,.cells #[.func (.func a) #[] #[]] 294)::L)):=b;clear b h;go_enter func235,ntmps235;go_wp2_with fail;refine bodyPost_ret (v:=(ja3 W.heap.size).val) ?_ rfl ⟨_,rfl,i.out.after ((ab _ _).alloc (a7 _) _)⟩;exact results_cell_row (p:=2) (ty:=246) rfl _ _ (W.heap.size+1) 246 _ (0,0) _ rfl (heap_alloc2_new _ _ _) underlying246 rfl (by kernel_rfl)
def j6u (bo:Nat):Fv:=⟨218,220,221,#[.pointer (some ⟨bo,0,none⟩)],#[.pointer (some ⟨bo,0,none⟩)],#[.pointer (some ⟨bo,0,none⟩)]⟩
theorem jgv {α ρ:Type} {I:Rp α ρ} {J:St' α} (q i o:Nat) (p:α->Nat) (z:α->Nat->α)
  (C:(q,.cells #[.func (.func i) #[] #[]] 233)∈L)
  (H:Ent i) (D:∀ V g f,Calls prog i #[.pointer (some ⟨g,f,none⟩)] V fun e h=>e=.returned (.pointer (some ⟨g,f+o,none⟩))/\V=h)
  (B:ρ->Value) (G:∀ x r V g f,I x r V g f->(∃ a c,B r=.slice a (p x) c/\p x<=c/\c<=9223372036854775807/\(a=none->c=0))/\V.cell? ⟨g,f+o,none⟩=some (B r))
  (P:∀ x g T d post V K,J w x g T d post V K->∃ A M y,Lens w J o x g T d post V K M A/\A[d.length+o]?=some y /\
   ∀ m h,m<=255->j76 w h g A T (d.length+o) M m->J w (z x m) g T d post h K) :
  Fd w L I J (j6u q) (j1l p z):=by
 refine ⟨enters_of func218 (by kernel_rfl) rfl,enters_of func220 (by kernel_rfl) rfl,enters_of func221 (by kernel_rfl) rfl,?_,?_⟩
 ·intro K u x r g f hx v l V F hb;obtain ⟨⟨a,c,e,U,S,R⟩,-⟩:=G _ _ _ _ _ (hx V F.mem);exact jru F q i ⟨g,f,none⟩ ⟨g,f+o,none⟩ a (p x) c U S R (fun V k=>by rw [ja k (u _ C)];rfl) H (fun V=>D V g f) (fun V k=>by rw [<-e];exact (G _ _ _ _ _ (hx V k)).2) (by simpa [j1l] using hb)
 ·intro K u x g T d post a l c V N E;obtain ⟨A,M,y,t,Q,j⟩:=P x g T d post V K N;have:=jrx t.mem E q i (d.length+o) ⟨g,d.length,none⟩ y Q (fun V k=>by rw [ja k (t.sub _ (u _ C))];rfl) H (fun V=>D V g d.length);refine this.mono ?_;intro e h O;refine O.mono2 (z x) ?_ (t.back h) (fun m X s hc=>?_)
  ·cases l<;>rfl
  ·cases l with
   | nil=>cases s
   | cons b r =>
    simp only [a5.injEq,Prod.mk.injEq] at s;obtain ⟨rfl,rfl⟩:=s;have:=E.row.bytes 0;simp only [aa] at this;exact j _ h (by omega) hc
theorem jfz (h:Mem w W L) (a:Nat) :
  Calls prog 158 #[.func (.func a) #[] #[]] W fun e g=>∃ d,e=.returned (j6u d).val/\Mem w g ((d,.cells #[.func (.func a) #[] #[]] 233)::L):=by
 have b:Mem w (W.alloc (.cells #[.func (.func a) #[] #[]] 233)) ((W.heap.size,.cells #[.func (.func a) #[] #[]] 233)::L):=(h.push W.heap.size (.cells #[.func (.func a) #[] #[]] 233) rfl).perm a9;have f:∀ (c:Fn) (first cap:Array Value) (w:World),(a3 c first cap).run prog w=.ok (.func c first cap) w:=fun _ _ _ _=>rfl;have i:Hid (Mem w (W.alloc (.cells #[.func (.func a) #[] #[]] 233)) ((W.heap.size,.cells #[.func (.func a) #[] #[]] 233)::L)):=b;clear b h;go_enter func158,ntmps158;go_wp2_with fail;refine bodyPost_ret (v:=(j6u W.heap.size).val) ?_ rfl ⟨_,rfl,i.out.after ((ab _ _).alloc (a7 _) _)⟩;exact results_cell_row (p:=2) (ty:=189) rfl _ _ (W.heap.size+1) 189 _ (0,0) _ rfl (heap_alloc2_new _ _ _) underlying189 rfl (by kernel_rfl)
def j6o (bs bo:Nat):Fv:=⟨208,210,213,#[.pointer (some ⟨bs,0,none⟩),.pointer (some ⟨bo,0,none⟩)],#[.pointer (some ⟨bs,0,none⟩),.pointer (some ⟨bo,0,none⟩)],#[.pointer (some ⟨bo,0,none⟩)]⟩
theorem j8d {α ρ:Type} {I:Rp α ρ} {J:St' α} (bs t sz i o:Nat) (hs:sz<=4) (m:∀ q,0<=q->q<256 ^ sz->ac.wrap q=q) (p:α->Int) (z:α->Int->α)
  (mb:(bs,.cells #[.int .i64 sz] 3)∈L) (B:(t,.cells #[.func (.func i) #[] #[]] 237)∈L)
  (D:Ent i) (C:∀ V g d,Calls prog i #[.pointer (some ⟨g,d,none⟩)] V fun e h=>e=.returned (.pointer (some ⟨g,d+o,none⟩))/\V=h)
  (P:∀ x r V g d,I x r V g d->V.cell? ⟨g,d+o,none⟩=some (.int .u32 (p x)))
  (O:∀ x g T b post V K,J w x g T b post V K->∃ A M,Lens w J o x g T b post V K M A/\A[b.length+o]?=some (.int .u32 (p x)) /\
   ∀ y h,Mem w h ((g,.cells (A.setIfInBounds (b.length+o) (.int .u32 y)) T (0,0))::M)->J w (z x y) g T b post h K) :
  Fd w L I J (j6o bs t) (jz sz p z):=by
 refine ⟨enters_of func208 (by kernel_rfl) rfl,enters_of func210 (by kernel_rfl) rfl,enters_of func213 (by kernel_rfl) rfl,?_,?_⟩
 ·intro K k x r g d hx v l V N hb;have u:l.length+sz<=1000000000:=by simpa [jz,jr] using hb
  have:=jbn 208 (by simp) N bs t sz i ⟨g,d,none⟩ ⟨g,d+o,none⟩ (p x) (by omega) (fun V f=>by rw [ja f (k _ mb)];rfl) (fun V f=>by rw [ja f (k _ B)];rfl) D (fun V=>C V g d) (fun V f=>P _ _ _ _ _ (hx V f)) u;rw [j2k sz (by omega)] at this;exact this
 ·intro K k x g T b post a l c V F G;obtain ⟨A,M,s,Q,j⟩:=O x g T b post V K F;have:=jbp 210 (by simp) s.mem G bs t sz i (b.length+o) ⟨g,b.length,none⟩ (p x) hs m Q (fun V f=>by rw [ja f (s.sub _ (k _ mb))];rfl) (fun V f=>by rw [ja f (s.sub _ (k _ B))];rfl) D (fun V=>C V g b.length);refine this.mono ?_;intro e h H;refine H.mono (z x) ?_ (s.back h) (fun y E=>j y h E);simp only [jz];split<;>rfl
theorem j7x (h:Mem w W L) (sz a:Nat) :
  Calls prog 150 #[.int .i64 sz,.func (.func a) #[] #[]] W fun e i=>∃ bs d,e=.returned (j6o bs d).val/\Mem w i ((bs,.cells #[.int .i64 sz] 3)::(d,.cells #[.func (.func a) #[] #[]] 237)::L):=by
 have b:Mem w ((W.alloc (.cells #[.int .i64 sz] 3)).alloc (.cells #[.func (.func a) #[] #[]] 237)) ((W.heap.size,.cells #[.int .i64 sz] 3)::(W.heap.size+1,.cells #[.func (.func a) #[] #[]] 237)::L):=by
  have g:=(h.push W.heap.size (.cells #[.int .i64 sz] 3) rfl).push (W.heap.size+1) (.cells #[.func (.func a) #[] #[]] 237) (by simp);refine g.perm ?_;rw [a8];exact a9
 have f:∀ (c:Fn) (first cap:Array Value) (w:World),(a3 c first cap).run prog w=.ok (.func c first cap) w:=fun _ _ _ _=>rfl;have j:Hid (Mem w ((W.alloc (.cells #[.int .i64 sz] 3)).alloc (.cells #[.func (.func a) #[] #[]] 237)) ((W.heap.size,.cells #[.int .i64 sz] 3)::(W.heap.size+1,.cells #[.func (.func a) #[] #[]] 237)::L)):=b;clear b h;go_enter func150,ntmps150;go_wp2_with fail;refine bodyPost_ret (v:=(j6o W.heap.size (W.heap.size+1)).val) ?_ rfl ⟨_,_,rfl,j.out.after ((ab _ _).alloc (a7 _) _)⟩;exact results_cell_row (p:=4) (ty:=189) rfl _ _ (W.heap.size+1+1) 189 _ (0,0) _ rfl (jn _ _ _ _) underlying189 rfl (by kernel_rfl)
def j4b (cb:Nat):Fv:=⟨270,271,272,#[.pointer (some ⟨cb,0,none⟩)],#[.pointer (some ⟨cb,0,none⟩)],#[.pointer (some ⟨cb,0,none⟩)]⟩
theorem jke {α ρ:Type} {I:Rp α ρ} {J:St' α} (t lb n:Nat) (b:List Fv) (ss:List (Sp α)) (E:b.length=n) (p:n<=1000)
  (D:(t,.cells #[.slice (some ⟨lb,0,none⟩) n n] 317)∈L) (z:(lb,.cells (b.flatMap Fv.cells).toArray 246)∈L)
  (j:FdAll w L I J b ss) (A:∀ x g T d post V u K,J w x g T d post V K->Below V.heap.size V u->J w x g T d post u K) (s:∀ x g T d post V K,J w x g T d post V K->Mem w V K) :
  Fd w L I J (j4b t) (j0j ss):=by
 have m:ss.length=n:=by rw [<-j.len];exact E
 have k:∀ K,Sub L K->∀ V,Mem w V K->V.cell? ⟨t,0,none⟩=some (.slice (some ⟨lb,0,none⟩) n n):=fun K f V q=>by rw [ja q (f _ D)];rfl
 have e:∀ K,Sub L K->∀ V,Mem w V K->∀ i,i<n->V.cell? ⟨lb,i*3,none⟩=some (.func (.func (b.getD i fv0).kw) #[] (b.getD i fv0).cw) /\
   V.cell? ⟨lb,i*3+1,none⟩=some (.func (.func (b.getD i fv0).kr) #[] (b.getD i fv0).cr)/\V.cell? ⟨lb,i*3+2,none⟩=some (.func (.func (b.getD i fv0).ks) #[] (b.getD i fv0).cs):=by
  intro K f V q i hi;obtain ⟨O,N,M⟩:=flat_get b i (by omega);refine ⟨?_,?_,?_⟩
  ·rw [ja q (f _ z)];simpa using O
  ·rw [ja q (f _ z)];simpa using N
  ·rw [ja q (f _ z)];simpa using M
 refine ⟨enters_of func270 (by kernel_rfl) rfl,enters_of func271 (by kernel_rfl) rfl,enters_of func272 (by kernel_rfl) rfl,?_,?_⟩
 ·intro K f x r g o hx v l V G hb;have:=jpf 270 (by simp) (H:=fun v l V=>Out w V v l K) (fun v l V u h C=>h.after C) ⟨g,o,none⟩ t lb n p (fun i=>(b.getD i fv0).kw) (fun i=>(b.getD i fv0).kr) (fun i=>(b.getD i fv0).ks) (fun i=>(b.getD i fv0).cw) (fun i=>(b.getD i fv0).cr) (fun i=>(b.getD i fv0).cs)
   (fun v l V h=>k K f V h.mem) (fun v l V h=>e K f V h.mem) (fun i=>(ss.getD i sp0).enc x) (fun i hi=>(j.at_ i (by omega)).ew) (fun i hi v l V h hb=>(j.at_ i (by omega)).wr K f x r g o hx v l V h hb) v l V G (by simp only [j0j,m] at hb;exact hb)
  simp only [j0j,m];exact this
 ·intro K f x g T d post a l c V F B;have:=jpg 271 (by simp) (w:=w) (L:=K) (J:=fun y V=>J w y g T d post V K) (fun y V u h C=>A y g T d post V u K h C) ⟨g,d.length,none⟩ t lb n p (fun i=>(b.getD i fv0).kw) (fun i=>(b.getD i fv0).kr) (fun i=>(b.getD i fv0).ks) (fun i=>(b.getD i fv0).cw) (fun i=>(b.getD i fv0).cr) (fun i=>(b.getD i fv0).cs)
   (fun y V h=>k K f V (s _ _ _ _ _ _ _ h)) (fun y V h=>e K f V (s _ _ _ _ _ _ _ h)) (fun i=>(ss.getD i sp0).dec) (fun i hi=>(j.at_ i (by omega)).er) (fun i hi y l a c V h B=>(j.at_ i (by omega)).rd K f y g T d post a l c V h B) x l a c V F B
  simp only [j0j,m];exact this
theorem jjk (h:Mem w W L) (lb n:Nat) :
  Calls prog 230 #[.slice (some ⟨lb,0,none⟩) n n] W fun e f=>∃ c,e=.returned (j4b c).val/\Mem w f ((c,.cells #[.slice (some ⟨lb,0,none⟩) n n] 317)::L):=by
 have a:Mem w (W.alloc (.cells #[.slice (some ⟨lb,0,none⟩) n n] 317)) ((W.heap.size,.cells #[.slice (some ⟨lb,0,none⟩) n n] 317)::L):=(h.push W.heap.size (.cells #[.slice (some ⟨lb,0,none⟩) n n] 317) rfl).perm a9;have d:∀ (b:Fn) (first cap:Array Value) (w:World),(a3 b first cap).run prog w=.ok (.func b first cap) w:=fun _ _ _ _=>rfl;have g:Hid (Mem w (W.alloc (.cells #[.slice (some ⟨lb,0,none⟩) n n] 317)) ((W.heap.size,.cells #[.slice (some ⟨lb,0,none⟩) n n] 317)::L)):=a;clear a h;go_enter func230,ntmps230;go_wp2_with fail;refine bodyPost_ret (v:=(j4b W.heap.size).val) ?_ rfl ⟨_,rfl,g.out.after ((ab _ _).alloc (a7 _) _)⟩;exact results_cell_row (p:=2) (ty:=246) rfl _ _ (W.heap.size+1) 246 _ (0,0) _ rfl (heap_alloc2_new _ _ _) underlying246 rfl (by kernel_rfl)
end
end Go.Proofs.YtdigofgjhaakmaaGreatDoor
