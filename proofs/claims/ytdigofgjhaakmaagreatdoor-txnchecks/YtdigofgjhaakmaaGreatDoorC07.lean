/- Parts of the proof. -/
import Derived.Test.YtdigofgjhaakmaaGreatDoorC06
import Derived.Stop.Asserts
import Derived.Deep.WholeRow
set_option linter.all false
set_option maxHeartbeats 40000000
set_option maxRecDepth 20000
open Go.Proofs.Tryz
open Go.Extern.ReflectliteType renaming typeOf->a1
open Go.Instr renaming typeAssert->a2,makeFunc->a3
open Option renaming map_eq_some_iff->a4,some->a5
open Nat renaming zero_le->a6,le_refl->a7
open List renaming append_assoc->a8,perm_append_comm->a9,getD_cons_zero->aa
open Go.RowKit.Below renaming refl->ab
open Go.IntKind renaming u32->ac,u16->ad
namespace Go.Proofs.YtdigofgjhaakmaaGreatDoor
variable {L:List (Nat×Obj)} {w W:World} {l:List Int} {v:Value}
section
open Go.RowKit Go.Extern.Stop Go.Stop Go.Extern
theorem jeg (v:Value) (w:World):(a1 #[.iface 342 v]).run prog w=.ok (.iface 192 (.agg #[.pointer (some ⟨4,342,none⟩)])) w:=by kernel_rfl
def j2i : Array Value -> Sem Value := Extern.ReflectliteType.method fun t => do Rtype.noPackHeld "Comparable" t; pure (.bool (<- typeInfo t).comparable)
theorem j5e (w:World):(j2i #[.agg #[.pointer (some ⟨4,342,none⟩)]]).run prog w=.ok (.bool true) w:=by kernel_rfl
theorem yh (v : Value) (w : World) : (Go.method 473 192 v "Comparable").run prog w = .ok (345, v) w := by kernel_rfl
theorem jlk:(prog.info? 342).map (·.comparable)=some true:=by kernel_rfl
theorem jlh:(prog.info? 362).map (·.size)=some 1:=by kernel_rfl
theorem jlj (v:Value) (a:TypeId) (w:World):(a2 (.iface 28 v) a 194 true).run prog w=.ok (.tuple #[.nilIface,.bool false]) w:=run_typeAssert_lacksB underlying194 (by kernel_rfl) (by kernel_rfl) v a w
theorem j8h (v:Value) (a:TypeId) (w:World):(a2 (.iface 28 v) a 196 true).run prog w=.ok (.tuple #[.nilIface,.bool false]) w:=run_typeAssert_lacksB underlying196 (by kernel_rfl) (by kernel_rfl) v a w
theorem j6r (v:Value) (a:TypeId) (w:World):(a2 (.iface 28 v) a 198 true).run prog w=.ok (.tuple #[.nilIface,.bool false]) w:=run_typeAssert_lacksB underlying198 (by kernel_rfl) (by kernel_rfl) v a w
theorem jli (a:Addr) (w:World) :
  Calls prog 62 #[.iface 342 (.pointer (some a)),.iface 342 (.pointer (some a))] w fun e w'=>e=.returned (.bool true)/\w=w':=by
 obtain ⟨i,hi,b⟩:=a4.1 jlk;obtain ⟨j,d,c⟩:=a4.1 jlh;have m:=@run_callFunc_extern prog 89 _ a1 func89 (by kernel_rfl) (by kernel_rfl) (by kernel_rfl) (by kernel_rfl);have g:=@run_callFunc_extern prog 345 _ j2i func345 (by kernel_rfl) (by kernel_rfl) (by kernel_rfl) (by kernel_rfl);have h:=jeg;have n:=j5e;have k:=yh;have f:=run_eql_iface_ptr_same (P:=prog) w a underlying134 underlying342 hi b d;go_enter func62,ntmps62
 go_wp2
 refine wp_loop_rounds 1 ?_;rw [rounds_succ]
 go_wp2
 go_ret;exact ⟨rfl,rfl⟩
theorem jo7 (b:Addr) (w:World) :
  Calls prog 62 #[.nilIface,.iface 342 (.pointer (some b))] w fun e w'=>e=.returned (.bool false)/\w=w':=by
 have a:=run_eql_iface_nil_left (P:=prog) w 342 (.pointer (some b)) underlying134;go_enter func62,ntmps62
 go_wp2
 go_ret;exact ⟨rfl,rfl⟩
theorem jpd (t:Value) (w:World) :
  Calls prog 96 #[.nilIface,t] w fun e w'=>e=.returned (.bool false)/\w=w':=by
 go_enter func96,ntmps96
 go_wp2
 go_ret;exact ⟨rfl,rfl⟩
theorem jfn (v:Value) (w:World):(ReflectliteType.typeOf #[.iface 28 v]).run prog w=.ok (.iface 192 (.agg #[.pointer (some ⟨4,28,none⟩)])) w:=by kernel_rfl
end
section
open Go.RowKit Sm Cf
theorem jo5 (h:Out w W v l L) (U H G s kr Z:Nat) (J cr cs:Array Value) (p p':Addr) (N:Value) (xs:List (List Value)) (hx:∀ x∈xs,∃ y z,x=[Value.int .u32 y,Value.int .u32 z])
  (S:∀ V,Mem w V L->V.cell? ⟨U,0,none⟩=some (.func (.func G) #[] #[]))
  (T:∀ V,Mem w V L->V.cell? ⟨H,0,none⟩=some (.func (.func s) #[] J)/\V.cell? ⟨H,1,none⟩=some (.func (.func kr) #[] cr)/\V.cell? ⟨H,2,none⟩=some (.func (.func Z) #[] cs))
  (eo:∀ args V,(callFunc G args).run prog V=.ok (.enter G args) V) (ho:∀ V,Calls prog G #[.pointer (some p)] V fun e D=>e=.returned (.pointer (some p'))/\V=D)
  (ew:∀ args V,(callFunc s args).run prog V=.ok (.enter s args) V)
  (R:∀ V,Mem w V L->V.cell? p'=some N) (f:∀ V,Mem w V L->Rw V 2 N xs) (enc:Nat->List Int)
  (hw:∀ i,i<min xs.length 255->∀ ge v l V,Out w V v l ((ge,.cells (xs.getD i []).toArray 122)::L)->l.length+(enc i).length<=1000000000->Calls prog s (#[v,.pointer (some ⟨ge,0,none⟩)]++J) V fun e D=>∃ k,e=.returned k/\Out w D k (l++enc i) L)
  (hb:l.length+(cat enc (min xs.length 255)).length<=1000000000) :
  Calls prog 303 #[v,.pointer (some p),.pointer (some ⟨U,0,none⟩),.pointer (some ⟨H,0,none⟩)] W fun e W'=>∃ k,e=.returned k/\Out w W' k (l++cat enc (min xs.length 255)) L:=by
 have c2:=S _ h.mem;have c3:=R _ h.mem;obtain ⟨a,c,rfl,B,C,P,-⟩:=f _ h.mem;have M:=yb 293 (by simp) W a xs.length c B C P;obtain ⟨n,O⟩:∃ n,min xs.length 255=n:=⟨_,rfl⟩;have a0:n<=255:=by omega
 have A:n<=xs.length:=by omega
 rw [O] at M hw hb ⊢;have Y:Hid (Out w W v l L):=h;have E:Hid (∀ V,Mem w V L->∀ i,i<n->∃ b d,a=some ⟨b,d,none⟩/\V.rangeAt b (d+i*2) (xs.getD i [])):=by
  intro V I i hi;obtain ⟨a',c',e,_,_,_,hr⟩:=f V I;simp only [Value.slice.injEq] at e;obtain ⟨rfl,-,rfl⟩:=e;rcases hr with e|⟨b,d,rfl,hc⟩
  ·rw [e] at A;simp at A;omega
  ·exact ⟨b,d,rfl,fun j u hj=>hc i (by omega) j u hj⟩
 have X:Hid (∀ x∈xs,∃ y z,x=[Value.int .u32 y,Value.int .u32 z]):=hx;clear h S R f B C P O hx;go_enter func303,ntmps303;go_wp2_with fail;refine (ho _).mono ?_;rintro e V ⟨rfl,rfl⟩;go_wp2_with fail;refine M.mono ?_;rintro e V ⟨rfl,rfl⟩;go_wp2_with fail
 go_loopw [0,16] (fun u0 u16 w'=>∃ i:Nat,i<=n/\u16=.int .i64 i/\Hid (Out w w' u0 (l++cat enc i) L)) (fun u0 u16 w'=>n-(intOf u16).toNat)
 case atStart=>exact ⟨0,a6 _,rfl,by rw [cat,List.append_nil];exact Y⟩
 case round =>
  obtain ⟨i,hi,rfl,F⟩:=hrel;clear c2 c3 M Y;by_cases hlt:i<n
  ·have h1:(i:Int)<n:=by omega
   obtain ⟨d0,d1,d2⟩:=T _ F.out.mem;obtain ⟨b,d,rfl,q⟩:=E.out _ F.out.mem i hlt;have m:xs.getD i []∈xs:=by
    rw [List.getD_eq_getElem?_getD,List.getElem?_eq_getElem (by omega),Option.getD_some];exact List.getElem_mem _
   have K:Hid (∀ V ge,Out w V u0 (l++cat enc i) ((ge,.cells (xs.getD i []).toArray 122)::L)->Calls prog s (#[u0,.pointer (some ⟨ge,0,none⟩)]++J) V fun e D=>∃ k,e=.returned k/\Out w D k (l++cat enc (i+1)) L):=by
    intro V ge I;have:=hw i hlt ge u0 _ V I (by rw [List.length_append];have:=jan enc i n hlt;omega);rwa [a8] at this
   have t:=X.out _ m;generalize xs.getD i []=x at q t K;clear hw m E X;obtain ⟨y,z,rfl⟩:=t;have d3:wr.cell? ⟨b,d+i*2,none⟩=some (.int .u32 y):=by have:=q 0 _ rfl;simpa using this
   have d4:wr.cell? ⟨b,d+i*2+1,none⟩=some (.int .u32 z):=by have:=q 1 _ rfl;simpa using this
   have r:=F.out.add (o:=.cells #[.int .u32 y,.int .u32 z] 122) (g:=wr.heap.size) rfl;have d5:=(T _ r.mem.sub).1;go_wp2_with fail;refine (K.out _ wr.heap.size r).mono ?_;rintro e V ⟨k,rfl,Q⟩;have HH:Hid (Out w V k (l++cat enc (i+1)) L):=Q;clear Q K F r;go_wp2_with fail;go_roundw
   case rel=>exact ⟨i+1,by omega,by go_num,HH⟩
   case measure=>simp [intOf];omega
  ·have h1:¬((i:Int)<n):=by omega
   obtain rfl:i=n:=by omega
   go_wp2_with fail;go_ret;exact ⟨_,rfl,F.out⟩
theorem jo9 {σ:Type} {J:σ->World->Prop} (y:∀ s V F,J s V->Below V.heap.size V F->J s F) (k:∀ s V,J s V->Mem w V L) (X q E Z d ks:Nat) (cw u cs:Array Value) (p p':Addr)
  (O:Option Addr) (n sc:Nat) (hn:n<=255) (hb:Nat) (I:0<n->O=some ⟨hb,0,none⟩)
  (S:∀ V,Mem w V L->V.cell? ⟨X,0,none⟩=some (.func (.func E) #[] #[]))
  (T:∀ V,Mem w V L->V.cell? ⟨q,0,none⟩=some (.func (.func Z) #[] cw)/\V.cell? ⟨q,1,none⟩=some (.func (.func d) #[] u)/\V.cell? ⟨q,2,none⟩=some (.func (.func ks) #[] cs))
  (eo:∀ args V,(callFunc E args).run prog V=.ok (.enter E args) V) (ho:∀ V,Calls prog E #[.pointer (some p)] V fun e F=>e=.returned (.pointer (some p'))/\V=F)
  (er:∀ args V,(callFunc d args).run prog V=.ok (.enter d args) V)
  (dec:Nat->List Int->σ->Option (σ×List Int))
  (hr:∀ i,i<n->∀ s l a c V,J s V->Sl w a l c->Calls prog d (#[.slice a l.length c,.pointer (some ⟨hb,i*2,none⟩)]++u) V (kt w L J (dec i l s)))
  (s:σ) (l:List Int) (a:Option Addr) (c:Nat) (W:World) (h:J s W) (P:Sl w a l c) (cx:W.cell? p'=some (.slice O n sc)) :
  Calls prog 304 #[.slice a l.length c,.pointer (some p),.pointer (some ⟨X,0,none⟩),.pointer (some ⟨q,0,none⟩)] W (kt w L J (sq dec 0 n l s)):=by
 have c0:=S _ (k _ _ h);obtain ⟨R,M⟩:∃ R,sq dec 0 n l s=R:=⟨_,rfl⟩;rw [M];have g:Hid (∀ V,Mem w V L->V.cell? ⟨q,1,none⟩=some (.func (.func d) #[] u)):=fun V K=>(T V K).2.1;have t:Hid (∀ s V,J s V->Mem w V L):=k;clear T S k;go_enter func304,ntmps304;go_wp2_with fail;refine (ho _).mono ?_;rintro e V ⟨rfl,rfl⟩;go_wp2_with fail
 go_loopw [0,19] (fun u0 u19 w'=>∃ (i:Nat) (s':σ) (f:List Int) (C:Option Addr) (B:Nat),i<=n/\u19=.int .i64 i/\u0=.slice C f.length B/\Hid (J s' w'/\Sl w C f B/\sq dec i (n-i) f s'=R)) (fun u0 u19 w'=>n-(intOf u19).toNat)
 case atStart=>exact ⟨0,s,l,a,c,a6 _,rfl,rfl,h,P,by simpa using M⟩
 case round =>
  obtain ⟨i,s',f,C,B,hi,rfl,rfl,N⟩:=hrel;obtain ⟨A,j,b⟩:=N.out;clear c0 cx;by_cases hlt:i<n
  ·have h1:(i:Int)<n:=by omega
   obtain rfl:=I (by omega);have d1:=g.out _ (t.out _ _ A);have d2:=g.out _ (t.out _ _ A).drew;have r:Hid (∀ V,Below wr.heap.size wr V->Calls prog d (#[.slice C f.length B,.pointer (some ⟨hb,i*2,none⟩)]++u) V (kt w L J (dec i f s'))):=fun V K=>hr i hlt s' f C B V (y _ _ _ A K) j;rw [show n-i=(n-(i+1))+1 by omega,sq] at b;clear hr y A j M N h P;generalize f.length=m at r;cases hd:dec i f s' with
   | none =>
    rw [hd] at b r;simp only at b;subst b;have D:=r.out _ ((ab _ wr).drew);go_upto_region 5 with fail
    go_region_held3 (fun V=>V.cell? ⟨q,1,none⟩=some (.func (.func d) #[] u)) (first|assumption|exact g.out _ Q|go_keep)
     (first|(go_at_fn d;refine D.mono ?_;rintro e V ⟨rfl,Q⟩))
    clear r D;go_wp2_with fail;go_ret2;exact ⟨rfl,Q⟩
   | some x =>
    obtain ⟨G,H⟩:=x;rw [hd] at b r;simp only at b;have D:=r.out _ ((ab _ wr).drew);go_upto_region 5 with fail
    go_region_held3 (fun V=>V.cell? ⟨q,1,none⟩=some (.func (.func d) #[] u)) (first|assumption|exact g.out _ (t.out _ _ o)|go_keep)
     (first|(go_at_fn d;refine D.mono ?_;rintro e V ⟨Y,U,rfl,z,o⟩))
    have HH:Hid (J G V/\Sl w Y H U/\sq dec (i+1) (n-(i+1)) H G=R):=⟨o,z,b⟩;clear r D o z b hd;go_wp2_with fail;go_roundw
    case rel=>exact ⟨i+1,G,H,Y,U,by omega,by go_num,rfl,HH⟩
    case measure=>simp [intOf];omega
  ·have h1:¬((i:Int)<n):=by omega
   obtain rfl:i=n:=by omega
   rw [Nat.sub_self,sq] at b;subst b;clear N;go_wp2_with fail;go_ret2;exact ⟨_,_,rfl,j,A⟩
def j8m (bo:Nat):Fv:=⟨273,274,275,#[.pointer (some ⟨bo,0,none⟩)],#[.pointer (some ⟨bo,0,none⟩)],#[.pointer (some ⟨bo,0,none⟩)]⟩
theorem ji3 {α ρ:Type} {I:Rp α ρ} {J:St' α} (m i o:Nat) (h:α->ByteArray) (q:α->ByteArray->α)
  (s:(m,.cells #[.func (.func i) #[] #[]] 290)∈L)
  (B:Ent i) (t:∀ V g d,Calls prog i #[.pointer (some ⟨g,d,none⟩)] V fun e f=>e=.returned (.pointer (some ⟨g,d+o,none⟩))/\V=f)
  (z:∀ x r V g d,I x r V g d->(h x).size<=140737488351232/\V.cell? ⟨g,d+o,none⟩=some (.string (h x)))
  (G:∀ x g T b post V K,J w x g T b post V K->∃ A M,Lens w J o x g T b post V K M A/\A[b.length+o]?=some (.string (h x)) /\
   ∀ y f,Mem w f ((g,.cells (A.setIfInBounds (b.length+o) (.string y)) T (0,0))::M)->J w (q x y) g T b post f K) :
  Fd w L I J (j8m m) (jb6 h q):=by
 refine ⟨enters_of func273 (by kernel_rfl) rfl,enters_of func274 (by kernel_rfl) rfl,enters_of func275 (by kernel_rfl) rfl,?_,?_⟩
 ·intro K p x r g d hx v l V u hb;exact jpk u m i ⟨g,d,none⟩ ⟨g,d+o,none⟩ (h x) (z _ _ _ _ _ (hx V u.mem)).1 (fun V k=>by rw [j8 k (p _ s)];rfl) B (fun V=>t V g d) (fun V k=>(z _ _ _ _ _ (hx V k)).2) hb
 ·intro K p x g T b post a l c V D E;obtain ⟨A,M,n,H,j⟩:=G x g T b post V K D;have:=jpl n.mem E m i (b.length+o) ⟨g,b.length,none⟩ (h x) H (fun V k=>by rw [j8 k (n.sub _ (p _ s))];rfl) B (fun V=>t V g b.length);refine this.mono ?_;intro e f F;exact F.mono (q x) rfl (n.back f) (fun y C=>j y f C)
theorem jha (h:Mem w W L) (a:Nat) :
  Calls prog 231 #[.func (.func a) #[] #[]] W fun e g=>∃ d,e=.returned (j8m d).val/\Mem w g ((d,.cells #[.func (.func a) #[] #[]] 290)::L):=by
 have b:Mem w (W.alloc (.cells #[.func (.func a) #[] #[]] 290)) ((W.heap.size,.cells #[.func (.func a) #[] #[]] 290)::L):=(h.push W.heap.size (.cells #[.func (.func a) #[] #[]] 290) rfl).perm a9;have f:∀ (c:Fn) (first cap:Array Value) (w:World),(a3 c first cap).run prog w=.ok (.func c first cap) w:=fun _ _ _ _=>rfl;have i:Hid (Mem w (W.alloc (.cells #[.func (.func a) #[] #[]] 290)) ((W.heap.size,.cells #[.func (.func a) #[] #[]] 290)::L)):=b;clear b h;go_enter func231,ntmps231;go_wp2_with fail;refine bodyPost_ret (v:=(j8m W.heap.size).val) ?_ rfl ⟨_,rfl,i.out.after ((ab _ _).alloc (a7 _) _)⟩;exact results_cell_row (p:=2) (ty:=246) rfl _ _ (W.heap.size+1) 246 _ (0,0) _ rfl (heap_alloc2_new _ _ _) underlying246 rfl (by kernel_rfl)
def j0i (bs bo:Nat):Fv:=⟨315,316,317,#[.pointer (some ⟨bs,0,none⟩),.pointer (some ⟨bo,0,none⟩)],#[.pointer (some ⟨bs,0,none⟩),.pointer (some ⟨bo,0,none⟩)],#[.pointer (some ⟨bo,0,none⟩)]⟩
theorem jeq {α ρ:Type} {I:Rp α ρ} {J:St' α} (bs s sz i o:Nat) (hs:sz<=4) (m:∀ q,0<=q->q<256 ^ sz->ac.wrap q=q) (n:α->Int) (u:α->Int->α)
  (mb:(bs,.cells #[.int .i64 sz] 3)∈L) (z:(s,.cells #[.func (.func i) #[] #[]] 331)∈L)
  (C:Ent i) (B:∀ V g d,Calls prog i #[.pointer (some ⟨g,d,none⟩)] V fun e h=>e=.returned (.pointer (some ⟨g,d+o,none⟩))/\V=h)
  (O:∀ x r V g d,I x r V g d->V.cell? ⟨g,d+o,none⟩=some (.int .u32 (n x)))
  (N:∀ x g T b post V K,J w x g T b post V K->∃ A M,Lens w J o x g T b post V K M A/\A[b.length+o]?=some (.int .u32 (n x)) /\
   ∀ y h,Mem w h ((g,.cells (A.setIfInBounds (b.length+o) (.int .u32 y)) T (0,0))::M)->J w (u x y) g T b post h K) :
  Fd w L I J (j0i bs s) (jw sz n u):=by
 refine ⟨enters_of func315 (by kernel_rfl) rfl,enters_of func316 (by kernel_rfl) rfl,enters_of func317 (by kernel_rfl) rfl,?_,?_⟩
 ·intro K k x r g d hx v l V H hb;have t:l.length+sz<=1000000000:=by simpa [jw,jq] using hb
  have:=ja3 315 (by simp) H bs s sz i ⟨g,d,none⟩ ⟨g,d+o,none⟩ (n x) (by omega) (fun V f=>by rw [j8 f (k _ mb)];rfl) (fun V f=>by rw [j8 f (k _ z)];rfl) C (fun V=>B V g d) (fun V f=>O _ _ _ _ _ (hx V f)) t;rw [j1t sz (by omega)] at this;exact this
 ·intro K k x g T b post a l c V E F;obtain ⟨A,M,p,P,j⟩:=N x g T b post V K E;have:=ja5 316 (by simp) p.mem F bs s sz i (b.length+o) ⟨g,b.length,none⟩ (n x) hs m P (fun V f=>by rw [j8 f (p.sub _ (k _ mb))];rfl) (fun V f=>by rw [j8 f (p.sub _ (k _ z))];rfl) C (fun V=>B V g b.length);refine this.mono ?_;intro e h G;refine G.mono (u x) ?_ (p.back h) (fun y D=>j y h D);simp only [jw];split<;>rfl
theorem jdt (h:Mem w W L) (sz a:Nat) :
  Calls prog 301 #[.int .i64 sz,.func (.func a) #[] #[]] W fun e i=>∃ bs d,e=.returned (j0i bs d).val/\Mem w i ((bs,.cells #[.int .i64 sz] 3)::(d,.cells #[.func (.func a) #[] #[]] 331)::L):=by
 have b:Mem w ((W.alloc (.cells #[.int .i64 sz] 3)).alloc (.cells #[.func (.func a) #[] #[]] 331)) ((W.heap.size,.cells #[.int .i64 sz] 3)::(W.heap.size+1,.cells #[.func (.func a) #[] #[]] 331)::L):=by
  have g:=(h.push W.heap.size (.cells #[.int .i64 sz] 3) rfl).push (W.heap.size+1) (.cells #[.func (.func a) #[] #[]] 331) (by simp);refine g.perm ?_;rw [a8];exact a9
 have f:∀ (c:Fn) (first cap:Array Value) (w:World),(a3 c first cap).run prog w=.ok (.func c first cap) w:=fun _ _ _ _=>rfl;have j:Hid (Mem w ((W.alloc (.cells #[.int .i64 sz] 3)).alloc (.cells #[.func (.func a) #[] #[]] 331)) ((W.heap.size,.cells #[.int .i64 sz] 3)::(W.heap.size+1,.cells #[.func (.func a) #[] #[]] 331)::L)):=b;clear b h;go_enter func301,ntmps301;go_wp2_with fail;refine bodyPost_ret (v:=(j0i W.heap.size (W.heap.size+1)).val) ?_ rfl ⟨_,_,rfl,j.out.after ((ab _ _).alloc (a7 _) _)⟩;exact results_cell_row (p:=4) (ty:=308) rfl _ _ (W.heap.size+1+1) 308 _ (0,0) _ rfl (jm _ _ _ _) underlying308 rfl (by kernel_rfl)
def j19 (bs bo:Nat):Fv:=⟨321,322,323,#[.pointer (some ⟨bs,0,none⟩),.pointer (some ⟨bo,0,none⟩)],#[.pointer (some ⟨bs,0,none⟩),.pointer (some ⟨bo,0,none⟩)],#[.pointer (some ⟨bo,0,none⟩)]⟩
theorem j6y {α ρ:Type} {I:Rp α ρ} {J:St' α} (bs s sz i o:Nat) (hs:sz<=4) (m:∀ q,0<=q->q<256 ^ sz->ac.wrap q=q) (n:α->Int) (u:α->Int->α)
  (mb:(bs,.cells #[.int .i64 sz] 3)∈L) (z:(s,.cells #[.func (.func i) #[] #[]] 337)∈L)
  (C:Ent i) (B:∀ V g d,Calls prog i #[.pointer (some ⟨g,d,none⟩)] V fun e h=>e=.returned (.pointer (some ⟨g,d+o,none⟩))/\V=h)
  (O:∀ x r V g d,I x r V g d->V.cell? ⟨g,d+o,none⟩=some (.int .u32 (n x)))
  (N:∀ x g T b post V K,J w x g T b post V K->∃ A M,Lens w J o x g T b post V K M A/\A[b.length+o]?=some (.int .u32 (n x)) /\
   ∀ y h,Mem w h ((g,.cells (A.setIfInBounds (b.length+o) (.int .u32 y)) T (0,0))::M)->J w (u x y) g T b post h K) :
  Fd w L I J (j19 bs s) (jw sz n u):=by
 refine ⟨enters_of func321 (by kernel_rfl) rfl,enters_of func322 (by kernel_rfl) rfl,enters_of func323 (by kernel_rfl) rfl,?_,?_⟩
 ·intro K k x r g d hx v l V H hb;have t:l.length+sz<=1000000000:=by simpa [jw,jq] using hb
  have:=ja3 321 (by simp) H bs s sz i ⟨g,d,none⟩ ⟨g,d+o,none⟩ (n x) (by omega) (fun V f=>by rw [j8 f (k _ mb)];rfl) (fun V f=>by rw [j8 f (k _ z)];rfl) C (fun V=>B V g d) (fun V f=>O _ _ _ _ _ (hx V f)) t;rw [j1t sz (by omega)] at this;exact this
 ·intro K k x g T b post a l c V E F;obtain ⟨A,M,p,P,j⟩:=N x g T b post V K E;have:=ja5 322 (by simp) p.mem F bs s sz i (b.length+o) ⟨g,b.length,none⟩ (n x) hs m P (fun V f=>by rw [j8 f (p.sub _ (k _ mb))];rfl) (fun V f=>by rw [j8 f (p.sub _ (k _ z))];rfl) C (fun V=>B V g b.length);refine this.mono ?_;intro e h G;refine G.mono (u x) ?_ (p.back h) (fun y D=>j y h D);simp only [jw];split<;>rfl
theorem j6i (h:Mem w W L) (sz a:Nat) :
  Calls prog 309 #[.int .i64 sz,.func (.func a) #[] #[]] W fun e i=>∃ bs d,e=.returned (j19 bs d).val/\Mem w i ((bs,.cells #[.int .i64 sz] 3)::(d,.cells #[.func (.func a) #[] #[]] 337)::L):=by
 have b:Mem w ((W.alloc (.cells #[.int .i64 sz] 3)).alloc (.cells #[.func (.func a) #[] #[]] 337)) ((W.heap.size,.cells #[.int .i64 sz] 3)::(W.heap.size+1,.cells #[.func (.func a) #[] #[]] 337)::L):=by
  have g:=(h.push W.heap.size (.cells #[.int .i64 sz] 3) rfl).push (W.heap.size+1) (.cells #[.func (.func a) #[] #[]] 337) (by simp);refine g.perm ?_;rw [a8];exact a9
 have f:∀ (c:Fn) (first cap:Array Value) (w:World),(a3 c first cap).run prog w=.ok (.func c first cap) w:=fun _ _ _ _=>rfl;have j:Hid (Mem w ((W.alloc (.cells #[.int .i64 sz] 3)).alloc (.cells #[.func (.func a) #[] #[]] 337)) ((W.heap.size,.cells #[.int .i64 sz] 3)::(W.heap.size+1,.cells #[.func (.func a) #[] #[]] 337)::L)):=b;clear b h;go_enter func309,ntmps309;go_wp2_with fail;refine bodyPost_ret (v:=(j19 W.heap.size (W.heap.size+1)).val) ?_ rfl ⟨_,_,rfl,j.out.after ((ab _ _).alloc (a7 _) _)⟩;exact results_cell_row (p:=4) (ty:=315) rfl _ _ (W.heap.size+1+1) 315 _ (0,0) _ rfl (jm _ _ _ _) underlying315 rfl (by kernel_rfl)
def j5m (bo:Nat):Fv:=⟨288,290,291,#[.pointer (some ⟨bo,0,none⟩)],#[.pointer (some ⟨bo,0,none⟩)],#[.pointer (some ⟨bo,0,none⟩)]⟩
theorem jes {α ρ:Type} {I:Rp α ρ} {J:St' α} (p i o:Nat) (n:α->Nat) (u:α->Nat->α)
  (B:(p,.cells #[.func (.func i) #[] #[]] 284)∈L)
  (G:Ent i) (C:∀ V g f,Calls prog i #[.pointer (some ⟨g,f,none⟩)] V fun e h=>e=.returned (.pointer (some ⟨g,f+o,none⟩))/\V=h)
  (z:ρ->Value) (F:∀ x r V g f,I x r V g f->(∃ a c,z r=.slice a (n x) c/\n x<=c/\c<=9223372036854775807/\(a=none->c=0))/\V.cell? ⟨g,f+o,none⟩=some (z r))
  (O:∀ x g T d post V K,J w x g T d post V K->∃ A M y,Lens w J o x g T d post V K M A/\A[d.length+o]?=some y /\
   ∀ m h,m<=255->j5x w h g A T (d.length+o) M m->J w (u x m) g T d post h K) :
  Fd w L I J (j5m p) (j0z n u):=by
 refine ⟨enters_of func288 (by kernel_rfl) rfl,enters_of func290 (by kernel_rfl) rfl,enters_of func291 (by kernel_rfl) rfl,?_,?_⟩
 ·intro K t x r g f hx v l V E hb;obtain ⟨⟨a,c,e,S,R,Q⟩,-⟩:=F _ _ _ _ _ (hx V E.mem);exact joq E p i ⟨g,f,none⟩ ⟨g,f+o,none⟩ a (n x) c S R Q (fun V k=>by rw [j8 k (t _ B)];rfl) G (fun V=>C V g f) (fun V k=>by rw [<-e];exact (F _ _ _ _ _ (hx V k)).2) (by simpa [j0z] using hb)
 ·intro K t x g T d post a l c V H D;obtain ⟨A,M,y,s,P,j⟩:=O x g T d post V K H;have:=jot s.mem D p i (d.length+o) ⟨g,d.length,none⟩ y P (fun V k=>by rw [j8 k (s.sub _ (t _ B))];rfl) G (fun V=>C V g d.length);refine this.mono ?_;intro e h N;refine N.mono2 (u x) ?_ (s.back h) (fun m U q hc=>?_)
  ·cases l<;>rfl
  ·cases l with
   | nil=>cases q
   | cons b r =>
    simp only [a5.injEq,Prod.mk.injEq] at q;obtain ⟨rfl,rfl⟩:=q;have:=D.row.bytes 0;simp only [aa] at this;exact j _ h (by omega) hc
theorem jdw (h:Mem w W L) (a:Nat) :
  Calls prog 249 #[.func (.func a) #[] #[]] W fun e g=>∃ d,e=.returned (j5m d).val/\Mem w g ((d,.cells #[.func (.func a) #[] #[]] 284)::L):=by
 have b:Mem w (W.alloc (.cells #[.func (.func a) #[] #[]] 284)) ((W.heap.size,.cells #[.func (.func a) #[] #[]] 284)::L):=(h.push W.heap.size (.cells #[.func (.func a) #[] #[]] 284) rfl).perm a9;have f:∀ (c:Fn) (first cap:Array Value) (w:World),(a3 c first cap).run prog w=.ok (.func c first cap) w:=fun _ _ _ _=>rfl;have i:Hid (Mem w (W.alloc (.cells #[.func (.func a) #[] #[]] 284)) ((W.heap.size,.cells #[.func (.func a) #[] #[]] 284)::L)):=b;clear b h;go_enter func249,ntmps249;go_wp2_with fail;refine bodyPost_ret (v:=(j5m W.heap.size).val) ?_ rfl ⟨_,rfl,i.out.after ((ab _ _).alloc (a7 _) _)⟩;exact results_cell_row (p:=2) (ty:=246) rfl _ _ (W.heap.size+1) 246 _ (0,0) _ rfl (heap_alloc2_new _ _ _) underlying246 rfl (by kernel_rfl)
def j5n (bo:Nat):Fv:=⟨292,294,295,#[.pointer (some ⟨bo,0,none⟩)],#[.pointer (some ⟨bo,0,none⟩)],#[.pointer (some ⟨bo,0,none⟩)]⟩
theorem j71 {α ρ:Type} {I:Rp α ρ} {J:St' α} (p i o:Nat) (n:α->Nat) (u:α->Nat->α)
  (B:(p,.cells #[.func (.func i) #[] #[]] 286)∈L)
  (G:Ent i) (C:∀ V g f,Calls prog i #[.pointer (some ⟨g,f,none⟩)] V fun e h=>e=.returned (.pointer (some ⟨g,f+o,none⟩))/\V=h)
  (z:ρ->Value) (F:∀ x r V g f,I x r V g f->(∃ a c,z r=.slice a (n x) c/\n x<=c/\c<=9223372036854775807/\(a=none->c=0))/\V.cell? ⟨g,f+o,none⟩=some (z r))
  (O:∀ x g T d post V K,J w x g T d post V K->∃ A M y,Lens w J o x g T d post V K M A/\A[d.length+o]?=some y /\
   ∀ m h,m<=255->j2l w h g A T (d.length+o) M m->J w (u x m) g T d post h K) :
  Fd w L I J (j5n p) (j0z n u):=by
 refine ⟨enters_of func292 (by kernel_rfl) rfl,enters_of func294 (by kernel_rfl) rfl,enters_of func295 (by kernel_rfl) rfl,?_,?_⟩
 ·intro K t x r g f hx v l V E hb;obtain ⟨⟨a,c,e,S,R,Q⟩,-⟩:=F _ _ _ _ _ (hx V E.mem);exact jor E p i ⟨g,f,none⟩ ⟨g,f+o,none⟩ a (n x) c S R Q (fun V k=>by rw [j8 k (t _ B)];rfl) G (fun V=>C V g f) (fun V k=>by rw [<-e];exact (F _ _ _ _ _ (hx V k)).2) (by simpa [j0z] using hb)
 ·intro K t x g T d post a l c V H D;obtain ⟨A,M,y,s,P,j⟩:=O x g T d post V K H;have:=jou s.mem D p i (d.length+o) ⟨g,d.length,none⟩ y P (fun V k=>by rw [j8 k (s.sub _ (t _ B))];rfl) G (fun V=>C V g d.length);refine this.mono ?_;intro e h N;refine N.mono2 (u x) ?_ (s.back h) (fun m U q hc=>?_)
  ·cases l<;>rfl
  ·cases l with
   | nil=>cases q
   | cons b r =>
    simp only [a5.injEq,Prod.mk.injEq] at q;obtain ⟨rfl,rfl⟩:=q;have:=D.row.bytes 0;simp only [aa] at this;exact j _ h (by omega) hc
theorem j6l (h:Mem w W L) (a:Nat) :
  Calls prog 250 #[.func (.func a) #[] #[]] W fun e g=>∃ d,e=.returned (j5n d).val/\Mem w g ((d,.cells #[.func (.func a) #[] #[]] 286)::L):=by
 have b:Mem w (W.alloc (.cells #[.func (.func a) #[] #[]] 286)) ((W.heap.size,.cells #[.func (.func a) #[] #[]] 286)::L):=(h.push W.heap.size (.cells #[.func (.func a) #[] #[]] 286) rfl).perm a9;have f:∀ (c:Fn) (first cap:Array Value) (w:World),(a3 c first cap).run prog w=.ok (.func c first cap) w:=fun _ _ _ _=>rfl;have i:Hid (Mem w (W.alloc (.cells #[.func (.func a) #[] #[]] 286)) ((W.heap.size,.cells #[.func (.func a) #[] #[]] 286)::L)):=b;clear b h;go_enter func250,ntmps250;go_wp2_with fail;refine bodyPost_ret (v:=(j5n W.heap.size).val) ?_ rfl ⟨_,rfl,i.out.after ((ab _ _).alloc (a7 _) _)⟩;exact results_cell_row (p:=2) (ty:=246) rfl _ _ (W.heap.size+1) 246 _ (0,0) _ rfl (heap_alloc2_new _ _ _) underlying246 rfl (by kernel_rfl)
def j5f (bs bo:Nat):Fv:=⟨276,277,278,#[.pointer (some ⟨bs,0,none⟩),.pointer (some ⟨bo,0,none⟩)],#[.pointer (some ⟨bs,0,none⟩),.pointer (some ⟨bo,0,none⟩)],#[.pointer (some ⟨bo,0,none⟩)]⟩
theorem j1b {α ρ:Type} {I:Rp α ρ} {J:St' α} (bs s sz i o:Nat) (hs:sz<=4) (m:∀ q,0<=q->q<256 ^ sz->ac.wrap q=q) (n:α->Int) (u:α->Int->α)
  (mb:(bs,.cells #[.int .i64 sz] 3)∈L) (z:(s,.cells #[.func (.func i) #[] #[]] 292)∈L)
  (C:Ent i) (B:∀ V g d,Calls prog i #[.pointer (some ⟨g,d,none⟩)] V fun e h=>e=.returned (.pointer (some ⟨g,d+o,none⟩))/\V=h)
  (O:∀ x r V g d,I x r V g d->V.cell? ⟨g,d+o,none⟩=some (.int .u32 (n x)))
  (N:∀ x g T b post V K,J w x g T b post V K->∃ A M,Lens w J o x g T b post V K M A/\A[b.length+o]?=some (.int .u32 (n x)) /\
   ∀ y h,Mem w h ((g,.cells (A.setIfInBounds (b.length+o) (.int .u32 y)) T (0,0))::M)->J w (u x y) g T b post h K) :
  Fd w L I J (j5f bs s) (jw sz n u):=by
 refine ⟨enters_of func276 (by kernel_rfl) rfl,enters_of func277 (by kernel_rfl) rfl,enters_of func278 (by kernel_rfl) rfl,?_,?_⟩
 ·intro K k x r g d hx v l V H hb;have t:l.length+sz<=1000000000:=by simpa [jw,jq] using hb
  have:=ja3 276 (by simp) H bs s sz i ⟨g,d,none⟩ ⟨g,d+o,none⟩ (n x) (by omega) (fun V f=>by rw [j8 f (k _ mb)];rfl) (fun V f=>by rw [j8 f (k _ z)];rfl) C (fun V=>B V g d) (fun V f=>O _ _ _ _ _ (hx V f)) t;rw [j1t sz (by omega)] at this;exact this
 ·intro K k x g T b post a l c V E F;obtain ⟨A,M,p,P,j⟩:=N x g T b post V K E;have:=ja5 277 (by simp) p.mem F bs s sz i (b.length+o) ⟨g,b.length,none⟩ (n x) hs m P (fun V f=>by rw [j8 f (p.sub _ (k _ mb))];rfl) (fun V f=>by rw [j8 f (p.sub _ (k _ z))];rfl) C (fun V=>B V g b.length);refine this.mono ?_;intro e h G;refine G.mono (u x) ?_ (p.back h) (fun y D=>j y h D);simp only [jw];split<;>rfl
theorem j14 (h:Mem w W L) (sz a:Nat) :
  Calls prog 233 #[.int .i64 sz,.func (.func a) #[] #[]] W fun e i=>∃ bs d,e=.returned (j5f bs d).val/\Mem w i ((bs,.cells #[.int .i64 sz] 3)::(d,.cells #[.func (.func a) #[] #[]] 292)::L):=by
 have b:Mem w ((W.alloc (.cells #[.int .i64 sz] 3)).alloc (.cells #[.func (.func a) #[] #[]] 292)) ((W.heap.size,.cells #[.int .i64 sz] 3)::(W.heap.size+1,.cells #[.func (.func a) #[] #[]] 292)::L):=by
  have g:=(h.push W.heap.size (.cells #[.int .i64 sz] 3) rfl).push (W.heap.size+1) (.cells #[.func (.func a) #[] #[]] 292) (by simp);refine g.perm ?_;rw [a8];exact a9
 have f:∀ (c:Fn) (first cap:Array Value) (w:World),(a3 c first cap).run prog w=.ok (.func c first cap) w:=fun _ _ _ _=>rfl;have j:Hid (Mem w ((W.alloc (.cells #[.int .i64 sz] 3)).alloc (.cells #[.func (.func a) #[] #[]] 292)) ((W.heap.size,.cells #[.int .i64 sz] 3)::(W.heap.size+1,.cells #[.func (.func a) #[] #[]] 292)::L)):=b;clear b h;go_enter func233,ntmps233;go_wp2_with fail;refine bodyPost_ret (v:=(j5f W.heap.size (W.heap.size+1)).val) ?_ rfl ⟨_,_,rfl,j.out.after ((ab _ _).alloc (a7 _) _)⟩;exact results_cell_row (p:=4) (ty:=246) rfl _ _ (W.heap.size+1+1) 246 _ (0,0) _ rfl (jm _ _ _ _) underlying246 rfl (by kernel_rfl)
def j5h (bs bo:Nat):Fv:=⟨282,283,284,#[.pointer (some ⟨bs,0,none⟩),.pointer (some ⟨bo,0,none⟩)],#[.pointer (some ⟨bs,0,none⟩),.pointer (some ⟨bo,0,none⟩)],#[.pointer (some ⟨bo,0,none⟩)]⟩
theorem j6x {α ρ:Type} {I:Rp α ρ} {J:St' α} (bs s sz i o:Nat) (hs:sz<=4) (m:∀ q,0<=q->q<256 ^ sz->ad.wrap q=q) (n:α->Int) (u:α->Int->α)
  (mb:(bs,.cells #[.int .i64 sz] 3)∈L) (z:(s,.cells #[.func (.func i) #[] #[]] 297)∈L)
  (C:Ent i) (B:∀ V g d,Calls prog i #[.pointer (some ⟨g,d,none⟩)] V fun e h=>e=.returned (.pointer (some ⟨g,d+o,none⟩))/\V=h)
  (O:∀ x r V g d,I x r V g d->V.cell? ⟨g,d+o,none⟩=some (.int .u16 (n x)))
  (N:∀ x g T b post V K,J w x g T b post V K->∃ A M,Lens w J o x g T b post V K M A/\A[b.length+o]?=some (.int .u16 (n x)) /\
   ∀ y h,Mem w h ((g,.cells (A.setIfInBounds (b.length+o) (.int .u16 y)) T (0,0))::M)->J w (u x y) g T b post h K) :
  Fd w L I J (j5h bs s) (jw sz n u):=by
 refine ⟨enters_of func282 (by kernel_rfl) rfl,enters_of func283 (by kernel_rfl) rfl,enters_of func284 (by kernel_rfl) rfl,?_,?_⟩
 ·intro K k x r g d hx v l V H hb;have t:l.length+sz<=1000000000:=by simpa [jw,jq] using hb
  have:=jns H bs s sz i ⟨g,d,none⟩ ⟨g,d+o,none⟩ (n x) (by omega) (fun V f=>by rw [j8 f (k _ mb)];rfl) (fun V f=>by rw [j8 f (k _ z)];rfl) C (fun V=>B V g d) (fun V f=>O _ _ _ _ _ (hx V f)) t;rw [j1t sz (by omega)] at this;exact this
 ·intro K k x g T b post a l c V E F;obtain ⟨A,M,p,P,j⟩:=N x g T b post V K E;have:=jnu p.mem F bs s sz i (b.length+o) ⟨g,b.length,none⟩ (n x) hs m P (fun V f=>by rw [j8 f (p.sub _ (k _ mb))];rfl) (fun V f=>by rw [j8 f (p.sub _ (k _ z))];rfl) C (fun V=>B V g b.length);refine this.mono ?_;intro e h G;refine G.mono (u x) ?_ (p.back h) (fun y D=>j y h D);simp only [jw];split<;>rfl
theorem j6h (h:Mem w W L) (sz a:Nat) :
  Calls prog 240 #[.int .i64 sz,.func (.func a) #[] #[]] W fun e i=>∃ bs d,e=.returned (j5h bs d).val/\Mem w i ((bs,.cells #[.int .i64 sz] 3)::(d,.cells #[.func (.func a) #[] #[]] 297)::L):=by
 have b:Mem w ((W.alloc (.cells #[.int .i64 sz] 3)).alloc (.cells #[.func (.func a) #[] #[]] 297)) ((W.heap.size,.cells #[.int .i64 sz] 3)::(W.heap.size+1,.cells #[.func (.func a) #[] #[]] 297)::L):=by
  have g:=(h.push W.heap.size (.cells #[.int .i64 sz] 3) rfl).push (W.heap.size+1) (.cells #[.func (.func a) #[] #[]] 297) (by simp);refine g.perm ?_;rw [a8];exact a9
 have f:∀ (c:Fn) (first cap:Array Value) (w:World),(a3 c first cap).run prog w=.ok (.func c first cap) w:=fun _ _ _ _=>rfl;have j:Hid (Mem w ((W.alloc (.cells #[.int .i64 sz] 3)).alloc (.cells #[.func (.func a) #[] #[]] 297)) ((W.heap.size,.cells #[.int .i64 sz] 3)::(W.heap.size+1,.cells #[.func (.func a) #[] #[]] 297)::L)):=b;clear b h;go_enter func240,ntmps240;go_wp2_with fail;refine bodyPost_ret (v:=(j5h W.heap.size (W.heap.size+1)).val) ?_ rfl ⟨_,_,rfl,j.out.after ((ab _ _).alloc (a7 _) _)⟩;exact results_cell_row (p:=4) (ty:=246) rfl _ _ (W.heap.size+1+1) 246 _ (0,0) _ rfl (jm _ _ _ _) underlying246 rfl (by kernel_rfl)
def j8n (bo:Nat):Fv:=⟨279,280,281,#[.pointer (some ⟨bo,0,none⟩)],#[.pointer (some ⟨bo,0,none⟩)],#[.pointer (some ⟨bo,0,none⟩)]⟩
theorem j5q {α ρ:Type} {I:Rp α ρ} {J:St' α} (q n i o:Nat) (G:n<=8) (s:0<n) (p:α->List Int) (u:α->List Int->α)
  (z:(q,.cells #[.func (.func i) #[] #[]] 294)∈L)
  (F:Ent i) (B:∀ V g d,Calls prog i #[.pointer (some ⟨g,d,none⟩)] V fun e f=>e=.returned (.slice (some ⟨g,d+o,none⟩) n n)/\V=f)
  (E:∀ x r V g d,I x r V g d->(p x).length=n/\Row V (some ⟨g,d+o,none⟩) (p x))
  (P:∀ x g T b post V K,J w x g T b post V K->∃ A M,Lens w J o x g T b post V K M A/\b.length+o+n<=A.size /\
   ∀ y f,y.length=n->j6 y->Mem w f ((g,.cells (spl A (b.length+o) y) T (0,0))::M)->J w (u x y) g T b post f K) :
  Fd w L I J (j8n q) (j0p n p u):=by
 refine ⟨enters_of func279 (by kernel_rfl) rfl,enters_of func280 (by kernel_rfl) rfl,enters_of func281 (by kernel_rfl) rfl,?_,?_⟩
 ·intro K t x r g d hx v l V D hb;obtain ⟨h,-⟩:=E _ _ _ _ _ (hx V D.mem);exact jnl 279 (by simp) D q i n ⟨g,d,none⟩ ⟨g,d+o,none⟩ (p x) h (fun V m=>by rw [j8 m (t _ z)];rfl) F (fun V=>B V g d) (fun V m=>(E _ _ _ _ _ (hx V m)).2) (by rw [<-h];exact hb)
 ·intro K t x g T b post a l c V N C;obtain ⟨A,M,h,Q,k⟩:=P x g T b post V K N;have:=jnn 280 (by simp) h.mem C q n i (b.length+o) ⟨g,b.length,none⟩ G s Q (fun V m=>by rw [j8 m (h.sub _ (t _ z))];rfl) F (fun V=>B V g b.length);refine this.mono ?_;intro e f O;refine O.mono2 (u x) ?_ (h.back f) (fun y R j H=>?_)
  ·simp only [j0p];split<;>rfl
  ·by_cases hlt:l.length<n
   ·rw [if_pos hlt] at j;cases j
   ·rw [if_neg hlt] at j;simp only [a5.injEq,Prod.mk.injEq] at j;obtain ⟨rfl,rfl⟩:=j;exact k _ f (by rw [List.length_take];omega) (zw C.row.bytes n) H
theorem j55 (h:Mem w W L) (a:Nat) :
  Calls prog 235 #[.func (.func a) #[] #[]] W fun e g=>∃ d,e=.returned (j8n d).val/\Mem w g ((d,.cells #[.func (.func a) #[] #[]] 294)::L):=by
 have b:Mem w (W.alloc (.cells #[.func (.func a) #[] #[]] 294)) ((W.heap.size,.cells #[.func (.func a) #[] #[]] 294)::L):=(h.push W.heap.size (.cells #[.func (.func a) #[] #[]] 294) rfl).perm a9;have f:∀ (c:Fn) (first cap:Array Value) (w:World),(a3 c first cap).run prog w=.ok (.func c first cap) w:=fun _ _ _ _=>rfl;have i:Hid (Mem w (W.alloc (.cells #[.func (.func a) #[] #[]] 294)) ((W.heap.size,.cells #[.func (.func a) #[] #[]] 294)::L)):=b;clear b h;go_enter func235,ntmps235;go_wp2_with fail;refine bodyPost_ret (v:=(j8n W.heap.size).val) ?_ rfl ⟨_,rfl,i.out.after ((ab _ _).alloc (a7 _) _)⟩;exact results_cell_row (p:=2) (ty:=246) rfl _ _ (W.heap.size+1) 246 _ (0,0) _ rfl (heap_alloc2_new _ _ _) underlying246 rfl (by kernel_rfl)
def j5o (bo:Nat):Fv:=⟨218,220,221,#[.pointer (some ⟨bo,0,none⟩)],#[.pointer (some ⟨bo,0,none⟩)],#[.pointer (some ⟨bo,0,none⟩)]⟩
theorem jet {α ρ:Type} {I:Rp α ρ} {J:St' α} (p i o:Nat) (n:α->Nat) (u:α->Nat->α)
  (B:(p,.cells #[.func (.func i) #[] #[]] 233)∈L)
  (G:Ent i) (C:∀ V g f,Calls prog i #[.pointer (some ⟨g,f,none⟩)] V fun e h=>e=.returned (.pointer (some ⟨g,f+o,none⟩))/\V=h)
  (z:ρ->Value) (F:∀ x r V g f,I x r V g f->(∃ a c,z r=.slice a (n x) c/\n x<=c/\c<=9223372036854775807/\(a=none->c=0))/\V.cell? ⟨g,f+o,none⟩=some (z r))
  (O:∀ x g T d post V K,J w x g T d post V K->∃ A M y,Lens w J o x g T d post V K M A/\A[d.length+o]?=some y /\
   ∀ m h,m<=255->j5y w h g A T (d.length+o) M m->J w (u x m) g T d post h K) :
  Fd w L I J (j5o p) (j0z n u):=by
 refine ⟨enters_of func218 (by kernel_rfl) rfl,enters_of func220 (by kernel_rfl) rfl,enters_of func221 (by kernel_rfl) rfl,?_,?_⟩
 ·intro K t x r g f hx v l V E hb;obtain ⟨⟨a,c,e,S,R,Q⟩,-⟩:=F _ _ _ _ _ (hx V E.mem);exact jos E p i ⟨g,f,none⟩ ⟨g,f+o,none⟩ a (n x) c S R Q (fun V k=>by rw [j8 k (t _ B)];rfl) G (fun V=>C V g f) (fun V k=>by rw [<-e];exact (F _ _ _ _ _ (hx V k)).2) (by simpa [j0z] using hb)
 ·intro K t x g T d post a l c V H D;obtain ⟨A,M,y,s,P,j⟩:=O x g T d post V K H;have:=jov s.mem D p i (d.length+o) ⟨g,d.length,none⟩ y P (fun V k=>by rw [j8 k (s.sub _ (t _ B))];rfl) G (fun V=>C V g d.length);refine this.mono ?_;intro e h N;refine N.mono2 (u x) ?_ (s.back h) (fun m U q hc=>?_)
  ·cases l<;>rfl
  ·cases l with
   | nil=>cases q
   | cons b r =>
    simp only [a5.injEq,Prod.mk.injEq] at q;obtain ⟨rfl,rfl⟩:=q;have:=D.row.bytes 0;simp only [aa] at this;exact j _ h (by omega) hc
theorem jdx (h:Mem w W L) (a:Nat) :
  Calls prog 158 #[.func (.func a) #[] #[]] W fun e g=>∃ d,e=.returned (j5o d).val/\Mem w g ((d,.cells #[.func (.func a) #[] #[]] 233)::L):=by
 have b:Mem w (W.alloc (.cells #[.func (.func a) #[] #[]] 233)) ((W.heap.size,.cells #[.func (.func a) #[] #[]] 233)::L):=(h.push W.heap.size (.cells #[.func (.func a) #[] #[]] 233) rfl).perm a9;have f:∀ (c:Fn) (first cap:Array Value) (w:World),(a3 c first cap).run prog w=.ok (.func c first cap) w:=fun _ _ _ _=>rfl;have i:Hid (Mem w (W.alloc (.cells #[.func (.func a) #[] #[]] 233)) ((W.heap.size,.cells #[.func (.func a) #[] #[]] 233)::L)):=b;clear b h;go_enter func158,ntmps158;go_wp2_with fail;refine bodyPost_ret (v:=(j5o W.heap.size).val) ?_ rfl ⟨_,rfl,i.out.after ((ab _ _).alloc (a7 _) _)⟩;exact results_cell_row (p:=2) (ty:=189) rfl _ _ (W.heap.size+1) 189 _ (0,0) _ rfl (heap_alloc2_new _ _ _) underlying189 rfl (by kernel_rfl)
def j5i (bs bo:Nat):Fv:=⟨208,210,213,#[.pointer (some ⟨bs,0,none⟩),.pointer (some ⟨bo,0,none⟩)],#[.pointer (some ⟨bs,0,none⟩),.pointer (some ⟨bo,0,none⟩)],#[.pointer (some ⟨bo,0,none⟩)]⟩
theorem j6z {α ρ:Type} {I:Rp α ρ} {J:St' α} (bs s sz i o:Nat) (hs:sz<=4) (m:∀ q,0<=q->q<256 ^ sz->ac.wrap q=q) (n:α->Int) (u:α->Int->α)
  (mb:(bs,.cells #[.int .i64 sz] 3)∈L) (z:(s,.cells #[.func (.func i) #[] #[]] 237)∈L)
  (C:Ent i) (B:∀ V g d,Calls prog i #[.pointer (some ⟨g,d,none⟩)] V fun e h=>e=.returned (.pointer (some ⟨g,d+o,none⟩))/\V=h)
  (O:∀ x r V g d,I x r V g d->V.cell? ⟨g,d+o,none⟩=some (.int .u32 (n x)))
  (N:∀ x g T b post V K,J w x g T b post V K->∃ A M,Lens w J o x g T b post V K M A/\A[b.length+o]?=some (.int .u32 (n x)) /\
   ∀ y h,Mem w h ((g,.cells (A.setIfInBounds (b.length+o) (.int .u32 y)) T (0,0))::M)->J w (u x y) g T b post h K) :
  Fd w L I J (j5i bs s) (jw sz n u):=by
 refine ⟨enters_of func208 (by kernel_rfl) rfl,enters_of func210 (by kernel_rfl) rfl,enters_of func213 (by kernel_rfl) rfl,?_,?_⟩
 ·intro K k x r g d hx v l V H hb;have t:l.length+sz<=1000000000:=by simpa [jw,jq] using hb
  have:=ja3 208 (by simp) H bs s sz i ⟨g,d,none⟩ ⟨g,d+o,none⟩ (n x) (by omega) (fun V f=>by rw [j8 f (k _ mb)];rfl) (fun V f=>by rw [j8 f (k _ z)];rfl) C (fun V=>B V g d) (fun V f=>O _ _ _ _ _ (hx V f)) t;rw [j1t sz (by omega)] at this;exact this
 ·intro K k x g T b post a l c V E F;obtain ⟨A,M,p,P,j⟩:=N x g T b post V K E;have:=ja5 210 (by simp) p.mem F bs s sz i (b.length+o) ⟨g,b.length,none⟩ (n x) hs m P (fun V f=>by rw [j8 f (p.sub _ (k _ mb))];rfl) (fun V f=>by rw [j8 f (p.sub _ (k _ z))];rfl) C (fun V=>B V g b.length);refine this.mono ?_;intro e h G;refine G.mono (u x) ?_ (p.back h) (fun y D=>j y h D);simp only [jw];split<;>rfl
theorem j6j (h:Mem w W L) (sz a:Nat) :
  Calls prog 150 #[.int .i64 sz,.func (.func a) #[] #[]] W fun e i=>∃ bs d,e=.returned (j5i bs d).val/\Mem w i ((bs,.cells #[.int .i64 sz] 3)::(d,.cells #[.func (.func a) #[] #[]] 237)::L):=by
 have b:Mem w ((W.alloc (.cells #[.int .i64 sz] 3)).alloc (.cells #[.func (.func a) #[] #[]] 237)) ((W.heap.size,.cells #[.int .i64 sz] 3)::(W.heap.size+1,.cells #[.func (.func a) #[] #[]] 237)::L):=by
  have g:=(h.push W.heap.size (.cells #[.int .i64 sz] 3) rfl).push (W.heap.size+1) (.cells #[.func (.func a) #[] #[]] 237) (by simp);refine g.perm ?_;rw [a8];exact a9
 have f:∀ (c:Fn) (first cap:Array Value) (w:World),(a3 c first cap).run prog w=.ok (.func c first cap) w:=fun _ _ _ _=>rfl;have j:Hid (Mem w ((W.alloc (.cells #[.int .i64 sz] 3)).alloc (.cells #[.func (.func a) #[] #[]] 237)) ((W.heap.size,.cells #[.int .i64 sz] 3)::(W.heap.size+1,.cells #[.func (.func a) #[] #[]] 237)::L)):=b;clear b h;go_enter func150,ntmps150;go_wp2_with fail;refine bodyPost_ret (v:=(j5i W.heap.size (W.heap.size+1)).val) ?_ rfl ⟨_,_,rfl,j.out.after ((ab _ _).alloc (a7 _) _)⟩;exact results_cell_row (p:=4) (ty:=189) rfl _ _ (W.heap.size+1+1) 189 _ (0,0) _ rfl (jm _ _ _ _) underlying189 rfl (by kernel_rfl)
def j3f (cb:Nat):Fv:=⟨270,271,272,#[.pointer (some ⟨cb,0,none⟩)],#[.pointer (some ⟨cb,0,none⟩)],#[.pointer (some ⟨cb,0,none⟩)]⟩
theorem ji1 {α ρ:Type} {I:Rp α ρ} {J:St' α} (t lb n:Nat) (b:List Fv) (ss:List (Sp α)) (E:b.length=n) (p:n<=1000)
  (D:(t,.cells #[.slice (some ⟨lb,0,none⟩) n n] 317)∈L) (z:(lb,.cells (b.flatMap Fv.cells).toArray 246)∈L)
  (j:FdAll w L I J b ss) (A:∀ x g T d post V u K,J w x g T d post V K->Below V.heap.size V u->J w x g T d post u K) (s:∀ x g T d post V K,J w x g T d post V K->Mem w V K) :
  Fd w L I J (j3f t) (j04 ss):=by
 have m:ss.length=n:=by rw [<-j.len];exact E
 have k:∀ K,Sub L K->∀ V,Mem w V K->V.cell? ⟨t,0,none⟩=some (.slice (some ⟨lb,0,none⟩) n n):=fun K f V q=>by rw [j8 q (f _ D)];rfl
 have e:∀ K,Sub L K->∀ V,Mem w V K->∀ i,i<n->V.cell? ⟨lb,i*3,none⟩=some (.func (.func (b.getD i fv0).kw) #[] (b.getD i fv0).cw) /\
   V.cell? ⟨lb,i*3+1,none⟩=some (.func (.func (b.getD i fv0).kr) #[] (b.getD i fv0).cr)/\V.cell? ⟨lb,i*3+2,none⟩=some (.func (.func (b.getD i fv0).ks) #[] (b.getD i fv0).cs):=by
  intro K f V q i hi;obtain ⟨O,N,M⟩:=flat_get b i (by omega);refine ⟨?_,?_,?_⟩
  ·rw [j8 q (f _ z)];simpa using O
  ·rw [j8 q (f _ z)];simpa using N
  ·rw [j8 q (f _ z)];simpa using M
 refine ⟨enters_of func270 (by kernel_rfl) rfl,enters_of func271 (by kernel_rfl) rfl,enters_of func272 (by kernel_rfl) rfl,?_,?_⟩
 ·intro K f x r g o hx v l V G hb;have:=jmg 270 (by simp) (H:=fun v l V=>Out w V v l K) (fun v l V u h C=>h.after C) ⟨g,o,none⟩ t lb n p (fun i=>(b.getD i fv0).kw) (fun i=>(b.getD i fv0).kr) (fun i=>(b.getD i fv0).ks) (fun i=>(b.getD i fv0).cw) (fun i=>(b.getD i fv0).cr) (fun i=>(b.getD i fv0).cs)
   (fun v l V h=>k K f V h.mem) (fun v l V h=>e K f V h.mem) (fun i=>(ss.getD i sp0).enc x) (fun i hi=>(j.at_ i (by omega)).ew) (fun i hi v l V h hb=>(j.at_ i (by omega)).wr K f x r g o hx v l V h hb) v l V G (by simp only [j04,m] at hb;exact hb)
  simp only [j04,m];exact this
 ·intro K f x g T d post a l c V F B;have:=jmh 271 (by simp) (w:=w) (L:=K) (J:=fun y V=>J w y g T d post V K) (fun y V u h C=>A y g T d post V u K h C) ⟨g,d.length,none⟩ t lb n p (fun i=>(b.getD i fv0).kw) (fun i=>(b.getD i fv0).kr) (fun i=>(b.getD i fv0).ks) (fun i=>(b.getD i fv0).cw) (fun i=>(b.getD i fv0).cr) (fun i=>(b.getD i fv0).cs)
   (fun y V h=>k K f V (s _ _ _ _ _ _ _ h)) (fun y V h=>e K f V (s _ _ _ _ _ _ _ h)) (fun i=>(ss.getD i sp0).dec) (fun i hi=>(j.at_ i (by omega)).er) (fun i hi y l a c V h B=>(j.at_ i (by omega)).rd K f y g T d post a l c V h B) x l a c V F B
  simp only [j04,m];exact this
theorem jh7 (h:Mem w W L) (lb n:Nat) :
  Calls prog 230 #[.slice (some ⟨lb,0,none⟩) n n] W fun e f=>∃ c,e=.returned (j3f c).val/\Mem w f ((c,.cells #[.slice (some ⟨lb,0,none⟩) n n] 317)::L):=by
 have a:Mem w (W.alloc (.cells #[.slice (some ⟨lb,0,none⟩) n n] 317)) ((W.heap.size,.cells #[.slice (some ⟨lb,0,none⟩) n n] 317)::L):=(h.push W.heap.size (.cells #[.slice (some ⟨lb,0,none⟩) n n] 317) rfl).perm a9;have d:∀ (b:Fn) (first cap:Array Value) (w:World),(a3 b first cap).run prog w=.ok (.func b first cap) w:=fun _ _ _ _=>rfl;have g:Hid (Mem w (W.alloc (.cells #[.slice (some ⟨lb,0,none⟩) n n] 317)) ((W.heap.size,.cells #[.slice (some ⟨lb,0,none⟩) n n] 317)::L)):=a;clear a h;go_enter func230,ntmps230;go_wp2_with fail;refine bodyPost_ret (v:=(j3f W.heap.size).val) ?_ rfl ⟨_,rfl,g.out.after ((ab _ _).alloc (a7 _) _)⟩;exact results_cell_row (p:=2) (ty:=246) rfl _ _ (W.heap.size+1) 246 _ (0,0) _ rfl (heap_alloc2_new _ _ _) underlying246 rfl (by kernel_rfl)
end
end Go.Proofs.YtdigofgjhaakmaaGreatDoor
