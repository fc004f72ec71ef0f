/- Parts of the proof. -/
import Derived.Test.YtdigofgjhaakmaaGreatDoorF04
import Derived.Test.YtdigofgjhaakmaaGreatDoorF05
set_option linter.all false
set_option maxHeartbeats 40000000
set_option maxRecDepth 20000
open Go.Proofs.Tryz
open Nat renaming min_le_right->a2,zero_add->a7,le_refl->a8
open Go.IntKind renaming u8->a9,i64->aa,wrap_i64->ab,u64->ac
open Go.Act renaming eval->ae
open Go.Value renaming agg->af,int->ag
open List renaming take_succ_cons->ah,take_zero->ai,drop_succ_cons->aj,drop_zero->ak,perm_append_comm->al,getElem?_take->am,nil_append->an,size_toArray->ao,length_append->ap,toList_toArray->aq,take_left'->ar,map_append->au
open Int renaming cast_ofNat_Int->av,toNat_zero->aw,toNat_natCast->ax
open Or renaming inl->ay,inr->az
open Go.Instr renaming makeSlice->aA
open List.Perm renaming trans->aB,swap->aD
open Go.Builtin renaming append_->aE,zeroCells->aF
namespace Go.Proofs.YtdigofgjhaakmaaGreatDoor
variable {L X K:List (Nat×Obj)} {l b:List Int} {v:Value} {w W W':World} {A args:Array Value} {a:Option Addr} {T t:TypeId} {g c n:Nat} {e:Ending}
section
open Go.RowKit Sm Cf
theorem zh (d:Nat) (f:d=293\/d=289\/d=219) (W:World) (a:Option Addr) (n c:Nat) (hc:n<=c) (hb:c<=9223372036854775807) (i:a=none->c=0) :
  Calls prog d #[.slice a n c] W fun e W'=>e=.returned (.slice a (min n 255) c)/\W=W':=by
 rcases f with rfl|rfl|rfl
 all_goals
 by_cases h:n<=255
 ·have o:(n:Int)<=255:=by omega
  have k:¬((255:Int)<n):=by omega
  have j:(n:Int)<=c:=by omega
  rw [Nat.min_eq_left h];cases a with
  | none =>
   obtain rfl:c=0:=i rfl;obtain rfl:n=0:=by omega
   first|go_enter func293,ntmps293|go_enter func289,ntmps289|go_enter func219,ntmps219
   go_wp2_with fail;go_ret;exact ⟨rfl,rfl⟩
  | some ad =>
   first|go_enter func293,ntmps293|go_enter func289,ntmps289|go_enter func219,ntmps219
   go_wp2_with fail;go_ret;exact ⟨rfl,rfl⟩
 ·have o:¬((n:Int)<=255):=by omega
  have k:(255:Int)<n:=by omega
  have j:(255:Int)<=c:=by omega
  rw [Nat.min_eq_right (by omega)];cases a with
  | none =>
   obtain rfl:c=0:=i rfl;omega
  | some ad =>
   first|go_enter func293,ntmps293|go_enter func289,ntmps289|go_enter func219,ntmps219
   go_wp2_with fail;go_ret;exact ⟨rfl,rfl⟩
theorem jrt (h:Out w W v l L) (s f:Nat) (p p':Addr) (a:Option Addr) (n c:Nat) (hc:n<=c) (j:c<=9223372036854775807) (B:a=none->c=0)
  (r:∀ V,Mem w V L->V.cell? ⟨s,0,none⟩=some (.func (.func f) #[] #[]))
  (G:∀ args V,(callFunc f args).run prog V=.ok (.enter f args) V) (y:∀ V,Calls prog f #[.pointer (some p)] V fun e D=>e=.returned (.pointer (some p'))/\V=D)
  (q:∀ V,Mem w V L->V.cell? p'=some (.slice a n c)) (hb:l.length+1<=1000000000) :
  Calls prog 292 #[v,.pointer (some p),.pointer (some ⟨s,0,none⟩)] W fun e W'=>∃ o,e=.returned o/\Out w W' o (l++[((min n 255:Nat):Int)]) L:=by
 have M:=r _ h.mem;have J:=q _ h.mem;have u:=zh 293 (by simp) W a n c hc j B;have z:min n 255<=255:=a2 _ _;generalize min n 255=k at u z;have I:a9.wrap (k:Int)=k:=by rw [yo];omega
 have H:(k:Int) % 256=k:=by omega
 obtain ⟨x,C,i,d⟩:=j1b h (k:Int) (by omega) (by omega) 86;have F:Hid (Out w C x (l++[(k:Int)]) L):=d;clear h r q d;go_enter func292,ntmps292;go_wp2_with fail;refine (y _).mono ?_;rintro e V ⟨rfl,rfl⟩;go_wp2_with fail;refine u.mono ?_;rintro e V ⟨rfl,rfl⟩;go_wp2_with (at_builtin;refine wpList_append_run (.tmp 6) (.tmp 15) 86 86 (by with_reducible rfl) i rfl rfl (by simp [ae]) (by simp [ae]) ?_)
 go_ret;exact ⟨_,rfl,F.out⟩
def j3g (w W:World) (g:Nat) (A:Array Value) (T:TypeId) (j:Nat) (L:List (Nat×Obj)) (m:Nat):Prop :=
 (m=0/\Mem w W ((g,.cells A T (0,0))::L))\/(0<m/\∃ h,Mem w W ((g,.cells (A.setIfInBounds j (.slice (some ⟨h,0,none⟩) m m)) T (0,0))::(h,.cells (madeCells (af #[.int .u32 0,.int .u32 0]).cells (m*2)) 122)::L))
theorem jrw (O:Mem w W ((g,.cells A T (0,0))::L)) (I:Sl w a l c) (Z z j:Nat) (p:Addr) (y:Value)
  (hj:A[j]?=some y)
  (co:∀ V,Mem w V L->V.cell? ⟨Z,0,none⟩=some (.func (.func z) #[] #[]))
  (eo:∀ args V,(callFunc z args).run prog V=.ok (.enter z args) V) (ho:∀ V,Calls prog z #[.pointer (some p)] V fun e V'=>e=.returned (.pointer (some ⟨g,j,none⟩))/\V=V') :
  Calls prog 294 #[.slice a l.length c,.pointer (some p),.pointer (some ⟨Z,0,none⟩)] W (qh w L (fun m W'=>j3g w W' g A T j L m) (match l with | []=>none|b::r=>some (b.toNat,r))):=by
 cases l with
 | nil =>
  have C:=yu W a 0 c 1 (by omega) (by omega);go_enter func294,ntmps294;go_wp2_with fail;refine C.mono ?_;rintro e V ⟨rfl,rfl⟩;go_wp2_with fail;go_ret2;exact ⟨rfl,O.sub⟩
 | cons b r =>
  have C:=qd (O.sl I) 1 (by simp) (by omega);have a6:0<=b/\b<=255:=by have:=I.row.bytes 0;simpa using this
  obtain ⟨n,hn⟩:∃ n:Nat,(b:Int)=n:=⟨b.toNat,by omega⟩;subst hn;have s:∀ V,Mem w V ((g,.cells A T (0,0))::L)->∀ Q R F B,(∀ V,Sl V a ((n:Int)::r) c->Sl V Q (((n:Int)::r).take 1) R/\Sl V F (((n:Int)::r).drop 1) B) ->
    Sl w F r B/\∃ x f,Q=some ⟨x,f,none⟩/\∀ V,Mem w V L->V.cell? ⟨x,f,none⟩=some (.int .u8 n):=by
   intro V d Q R F B h;have hp:=(h w I).1;have H:=(h w I).2;simp only [ah,ai,aj,ak] at hp H;refine ⟨H,?_⟩;rcases hp.row.cells with e|⟨x,f,e,hc⟩
   ·simp at e
   ·refine ⟨x,f,e,fun V U=>?_⟩;have h1:=hc 0 (by simp);rw [U.old (j9 h1)];simpa using h1
  by_cases h0:n=0
  ·subst h0;simp only [av,aw] at *;go_enter func294,ntmps294;go_wp2_with fail;refine C.mono ?_;rintro e V ⟨v1,v2,rfl,⟨Q,R,F,B,rfl,rfl,h⟩,q,rfl⟩;have d:=O.drewN q;generalize W.drewN q=V at d;obtain ⟨H,x,f,rfl,i⟩:=s V d _ _ _ _ h;have c0:=i V d.sub;clear h I C s i;go_wp2_with fail;go_ret2;exact ⟨F,B,rfl,H,ay ⟨rfl,d⟩⟩
  ·have a3:(0:Int)<n:=by omega
   have D:0<n:=by omega
   simp only [ax];go_enter func294,ntmps294;go_wp2_with fail;refine C.mono ?_;rintro e V ⟨v1,v2,rfl,⟨Q,R,F,B,rfl,rfl,h⟩,q,rfl⟩;have d:=O.drewN q;generalize W.drewN q=V at d;obtain ⟨H,x,f,rfl,i⟩:=s V d _ _ _ _ h;have c0:=i V d.sub;have k:=d.drew;have c1:=i _ k.sub;have c2:=co _ k.sub;have c3:=(k.cell 0 rfl j).trans hj;have f3:=k.free 0 rfl j;have KS:Hid (∀ V,Mem w V L->V.cell? ⟨Z,0,none⟩=some (.func (.func z) #[] #[])/\V.cell? ⟨x,f,none⟩=some (.int .u8 n)):=fun V U=>⟨co V U,i V U⟩;obtain ⟨i0,N,hz0,J,u⟩:=info_parts jgj;have M:∀ V:World,(aA 44 (.int .u8 (n:Int)) (.int .u8 (n:Int))).run prog V=.ok (.slice (some ⟨V.heap.size,0,none⟩) n n) (V.alloc (.cells (madeCells (af #[.int .u32 0,.int .u32 0]).cells (n*2)) 122)):=by
    intro V;have:=run_make (P:=prog) V 44 122 i0 (af #[.int .u32 0,.int .u32 0]) underlying44 N hz0 .u8 .u8 n n (by omega) (by omega) (by rw [u];omega) (by omega);rw [J,ax] at this;exact this
   clear N hz0 J u;have o:Mem w (V.drew.alloc (.cells (madeCells (af #[.int .u32 0,.int .u32 0]).cells (n*2)) 122)) ((g,.cells A T (0,0))::(V.heap.size,.cells (madeCells (af #[.int .u32 0,.int .u32 0]).cells (n*2)) 122)::L) :=
    (k.push V.heap.size _ rfl).perm (by
     refine aB al ?_;exact aD _ _ _)
   have G:Hid (Mem w ((V.drew.alloc (.cells (madeCells (af #[.int .u32 0,.int .u32 0]).cells (n*2)) 122)).setCell ⟨g,j,none⟩ (.slice (some ⟨V.heap.size,0,none⟩) n n)) ((g,.cells (A.setIfInBounds j (.slice (some ⟨V.heap.size,0,none⟩) n n)) T (0,0))::(V.heap.size,.cells (madeCells (af #[.int .u32 0,.int .u32 0]).cells (n*2)) 122)::L)):=by
    have:=o.set 0 rfl j (.slice (some ⟨V.heap.size,0,none⟩) n n);exact this
   have c5:=(o.cell 0 rfl j).trans hj;have f5:=o.free 0 rfl j;have c6:(V.alloc (.cells (madeCells (af #[.int .u32 0,.int .u32 0]).cells (n*2)) 122)).cell? ⟨g,j,none⟩=some y:=c5;have f6:(V.alloc (.cells (madeCells (af #[.int .u32 0,.int .u32 0]).cells (n*2)) 122)).frozen? ⟨g,j,none⟩=false:=f5;have c7:V.cell? ⟨g,j,none⟩=some y:=c3;have f7:V.frozen? ⟨g,j,none⟩=false:=f3;have a0:g≠V.heap.size:=by have:=j9 c7;simp at this;omega
   have a4:V.heap.size≠g:=fun e=>a0 e.symm;have HA:Hid (Mem w (V.drew.alloc (.cells (madeCells (af #[.int .u32 0,.int .u32 0]).cells (n*2)) 122)) L):=o.sub.sub;clear h I C s i O d hj co k o h0;obtain ⟨Y,S⟩:∃ Y,madeCells (af #[.int .u32 0,.int .u32 0]).cells (n*2)=Y:=⟨_,rfl⟩;rw [S] at G c5 f5 HA c6 f6;simp only [S] at M;have HY:Hid (madeCells (af #[.int .u32 0,.int .u32 0]).cells (n*2)=Y):=S;clear S;have a5:=M V.drew;go_upto_region 3 with fail
   go_region_held3 (fun V=>V.cell? ⟨Z,0,none⟩=some (.func (.func z) #[] #[])/\V.cell? ⟨x,f,none⟩=some (.int .u8 n)) (first|assumption|exact KS.out _ HA.out|exact KS.out _ G.out.sub.sub|go_keep)
    (first|(go_at_fn z;refine (ho _).mono ?_;rintro e V ⟨rfl,rfl⟩))
   all_goals
    go_wp2_with fail;go_ret2;refine ⟨F,B,rfl,H,az ⟨D,V.heap.size,?_⟩⟩;rw [HY.out];exact G.out
theorem jrs (h:Out w W v l L) (s f:Nat) (p p':Addr) (a:Option Addr) (n c:Nat) (hc:n<=c) (j:c<=9223372036854775807) (B:a=none->c=0)
  (r:∀ V,Mem w V L->V.cell? ⟨s,0,none⟩=some (.func (.func f) #[] #[]))
  (G:∀ args V,(callFunc f args).run prog V=.ok (.enter f args) V) (y:∀ V,Calls prog f #[.pointer (some p)] V fun e D=>e=.returned (.pointer (some p'))/\V=D)
  (q:∀ V,Mem w V L->V.cell? p'=some (.slice a n c)) (hb:l.length+1<=1000000000) :
  Calls prog 288 #[v,.pointer (some p),.pointer (some ⟨s,0,none⟩)] W fun e W'=>∃ o,e=.returned o/\Out w W' o (l++[((min n 255:Nat):Int)]) L:=by
 have M:=r _ h.mem;have J:=q _ h.mem;have u:=zh 289 (by simp) W a n c hc j B;have z:min n 255<=255:=a2 _ _;generalize min n 255=k at u z;have I:a9.wrap (k:Int)=k:=by rw [yo];omega
 have H:(k:Int) % 256=k:=by omega
 obtain ⟨x,C,i,d⟩:=j1b h (k:Int) (by omega) (by omega) 86;have F:Hid (Out w C x (l++[(k:Int)]) L):=d;clear h r q d;go_enter func288,ntmps288;go_wp2_with fail;refine (y _).mono ?_;rintro e V ⟨rfl,rfl⟩;go_wp2_with fail;refine u.mono ?_;rintro e V ⟨rfl,rfl⟩;go_wp2_with (at_builtin;refine wpList_append_run (.tmp 6) (.tmp 15) 86 86 (by with_reducible rfl) i rfl rfl (by simp [ae]) (by simp [ae]) ?_)
 go_ret;exact ⟨_,rfl,F.out⟩
def j75 (w W:World) (g:Nat) (A:Array Value) (T:TypeId) (j:Nat) (L:List (Nat×Obj)) (m:Nat):Prop :=
 (m=0/\Mem w W ((g,.cells A T (0,0))::L))\/(0<m/\∃ h,Mem w W ((g,.cells (A.setIfInBounds j (.slice (some ⟨h,0,none⟩) m m)) T (0,0))::(h,.cells (madeCells (ag .u32 0).cells (m*1)) 33)::L))
theorem jrv (O:Mem w W ((g,.cells A T (0,0))::L)) (I:Sl w a l c) (Z z j:Nat) (p:Addr) (y:Value)
  (hj:A[j]?=some y)
  (co:∀ V,Mem w V L->V.cell? ⟨Z,0,none⟩=some (.func (.func z) #[] #[]))
  (eo:∀ args V,(callFunc z args).run prog V=.ok (.enter z args) V) (ho:∀ V,Calls prog z #[.pointer (some p)] V fun e V'=>e=.returned (.pointer (some ⟨g,j,none⟩))/\V=V') :
  Calls prog 290 #[.slice a l.length c,.pointer (some p),.pointer (some ⟨Z,0,none⟩)] W (qh w L (fun m W'=>j75 w W' g A T j L m) (match l with | []=>none|b::r=>some (b.toNat,r))):=by
 cases l with
 | nil =>
  have C:=yu W a 0 c 1 (by omega) (by omega);go_enter func290,ntmps290;go_wp2_with fail;refine C.mono ?_;rintro e V ⟨rfl,rfl⟩;go_wp2_with fail;go_ret2;exact ⟨rfl,O.sub⟩
 | cons b r =>
  have C:=qd (O.sl I) 1 (by simp) (by omega);have a6:0<=b/\b<=255:=by have:=I.row.bytes 0;simpa using this
  obtain ⟨n,hn⟩:∃ n:Nat,(b:Int)=n:=⟨b.toNat,by omega⟩;subst hn;have s:∀ V,Mem w V ((g,.cells A T (0,0))::L)->∀ Q R F B,(∀ V,Sl V a ((n:Int)::r) c->Sl V Q (((n:Int)::r).take 1) R/\Sl V F (((n:Int)::r).drop 1) B) ->
    Sl w F r B/\∃ x f,Q=some ⟨x,f,none⟩/\∀ V,Mem w V L->V.cell? ⟨x,f,none⟩=some (.int .u8 n):=by
   intro V d Q R F B h;have hp:=(h w I).1;have H:=(h w I).2;simp only [ah,ai,aj,ak] at hp H;refine ⟨H,?_⟩;rcases hp.row.cells with e|⟨x,f,e,hc⟩
   ·simp at e
   ·refine ⟨x,f,e,fun V U=>?_⟩;have h1:=hc 0 (by simp);rw [U.old (j9 h1)];simpa using h1
  by_cases h0:n=0
  ·subst h0;simp only [av,aw] at *;go_enter func290,ntmps290;go_wp2_with fail;refine C.mono ?_;rintro e V ⟨v1,v2,rfl,⟨Q,R,F,B,rfl,rfl,h⟩,q,rfl⟩;have d:=O.drewN q;generalize W.drewN q=V at d;obtain ⟨H,x,f,rfl,i⟩:=s V d _ _ _ _ h;have c0:=i V d.sub;clear h I C s i;go_wp2_with fail;go_ret2;exact ⟨F,B,rfl,H,ay ⟨rfl,d⟩⟩
  ·have a3:(0:Int)<n:=by omega
   have D:0<n:=by omega
   simp only [ax];go_enter func290,ntmps290;go_wp2_with fail;refine C.mono ?_;rintro e V ⟨v1,v2,rfl,⟨Q,R,F,B,rfl,rfl,h⟩,q,rfl⟩;have d:=O.drewN q;generalize W.drewN q=V at d;obtain ⟨H,x,f,rfl,i⟩:=s V d _ _ _ _ h;have c0:=i V d.sub;have k:=d.drew;have c1:=i _ k.sub;have c2:=co _ k.sub;have c3:=(k.cell 0 rfl j).trans hj;have f3:=k.free 0 rfl j;have KS:Hid (∀ V,Mem w V L->V.cell? ⟨Z,0,none⟩=some (.func (.func z) #[] #[])/\V.cell? ⟨x,f,none⟩=some (.int .u8 n)):=fun V U=>⟨co V U,i V U⟩;obtain ⟨i0,N,hz0,J,u⟩:=info_parts j86;have M:∀ V:World,(aA 43 (.int .u8 (n:Int)) (.int .u8 (n:Int))).run prog V=.ok (.slice (some ⟨V.heap.size,0,none⟩) n n) (V.alloc (.cells (madeCells (ag .u32 0).cells (n*1)) 33)):=by
    intro V;have:=run_make (P:=prog) V 43 33 i0 (ag .u32 0) underlying43 N hz0 .u8 .u8 n n (by omega) (by omega) (by rw [u];omega) (by omega);rw [J,ax] at this;exact this
   clear N hz0 J u;have o:Mem w (V.drew.alloc (.cells (madeCells (ag .u32 0).cells (n*1)) 33)) ((g,.cells A T (0,0))::(V.heap.size,.cells (madeCells (ag .u32 0).cells (n*1)) 33)::L) :=
    (k.push V.heap.size _ rfl).perm (by
     refine aB al ?_;exact aD _ _ _)
   have G:Hid (Mem w ((V.drew.alloc (.cells (madeCells (ag .u32 0).cells (n*1)) 33)).setCell ⟨g,j,none⟩ (.slice (some ⟨V.heap.size,0,none⟩) n n)) ((g,.cells (A.setIfInBounds j (.slice (some ⟨V.heap.size,0,none⟩) n n)) T (0,0))::(V.heap.size,.cells (madeCells (ag .u32 0).cells (n*1)) 33)::L)):=by
    have:=o.set 0 rfl j (.slice (some ⟨V.heap.size,0,none⟩) n n);exact this
   have c5:=(o.cell 0 rfl j).trans hj;have f5:=o.free 0 rfl j;have c6:(V.alloc (.cells (madeCells (ag .u32 0).cells (n*1)) 33)).cell? ⟨g,j,none⟩=some y:=c5;have f6:(V.alloc (.cells (madeCells (ag .u32 0).cells (n*1)) 33)).frozen? ⟨g,j,none⟩=false:=f5;have c7:V.cell? ⟨g,j,none⟩=some y:=c3;have f7:V.frozen? ⟨g,j,none⟩=false:=f3;have a0:g≠V.heap.size:=by have:=j9 c7;simp at this;omega
   have a4:V.heap.size≠g:=fun e=>a0 e.symm;have HA:Hid (Mem w (V.drew.alloc (.cells (madeCells (ag .u32 0).cells (n*1)) 33)) L):=o.sub.sub;clear h I C s i O d hj co k o h0;obtain ⟨Y,S⟩:∃ Y,madeCells (ag .u32 0).cells (n*1)=Y:=⟨_,rfl⟩;rw [S] at G c5 f5 HA c6 f6;simp only [S] at M;have HY:Hid (madeCells (ag .u32 0).cells (n*1)=Y):=S;clear S;have a5:=M V.drew;go_upto_region 3 with fail
   go_region_held3 (fun V=>V.cell? ⟨Z,0,none⟩=some (.func (.func z) #[] #[])/\V.cell? ⟨x,f,none⟩=some (.int .u8 n)) (first|assumption|exact KS.out _ HA.out|exact KS.out _ G.out.sub.sub|go_keep)
    (first|(go_at_fn z;refine (ho _).mono ?_;rintro e V ⟨rfl,rfl⟩))
   all_goals
    go_wp2_with fail;go_ret2;refine ⟨F,B,rfl,H,az ⟨D,V.heap.size,?_⟩⟩;rw [HY.out];exact G.out
theorem jru (h:Out w W v l L) (s f:Nat) (p p':Addr) (a:Option Addr) (n c:Nat) (hc:n<=c) (j:c<=9223372036854775807) (B:a=none->c=0)
  (r:∀ V,Mem w V L->V.cell? ⟨s,0,none⟩=some (.func (.func f) #[] #[]))
  (G:∀ args V,(callFunc f args).run prog V=.ok (.enter f args) V) (y:∀ V,Calls prog f #[.pointer (some p)] V fun e D=>e=.returned (.pointer (some p'))/\V=D)
  (q:∀ V,Mem w V L->V.cell? p'=some (.slice a n c)) (hb:l.length+1<=1000000000) :
  Calls prog 218 #[v,.pointer (some p),.pointer (some ⟨s,0,none⟩)] W fun e W'=>∃ o,e=.returned o/\Out w W' o (l++[((min n 255:Nat):Int)]) L:=by
 have M:=r _ h.mem;have J:=q _ h.mem;have u:=zh 219 (by simp) W a n c hc j B;have z:min n 255<=255:=a2 _ _;generalize min n 255=k at u z;have I:a9.wrap (k:Int)=k:=by rw [yo];omega
 have H:(k:Int) % 256=k:=by omega
 obtain ⟨x,C,i,d⟩:=j1b h (k:Int) (by omega) (by omega) 86;have F:Hid (Out w C x (l++[(k:Int)]) L):=d;clear h r q d;go_enter func218,ntmps218;go_wp2_with fail;refine (y _).mono ?_;rintro e V ⟨rfl,rfl⟩;go_wp2_with fail;refine u.mono ?_;rintro e V ⟨rfl,rfl⟩;go_wp2_with (at_builtin;refine wpList_append_run (.tmp 6) (.tmp 15) 86 86 (by with_reducible rfl) i rfl rfl (by simp [ae]) (by simp [ae]) ?_)
 go_ret;exact ⟨_,rfl,F.out⟩
def j76 (w W:World) (g:Nat) (A:Array Value) (T:TypeId) (j:Nat) (L:List (Nat×Obj)) (m:Nat):Prop :=
 (m=0/\Mem w W ((g,.cells A T (0,0))::L))\/(0<m/\∃ h,Mem w W ((g,.cells (A.setIfInBounds j (.slice (some ⟨h,0,none⟩) m m)) T (0,0))::(h,.cells (madeCells (af (tc ten0 nilV nilV nilV).toArray).cells (m*33)) 46)::L))
theorem jrx (O:Mem w W ((g,.cells A T (0,0))::L)) (I:Sl w a l c) (Z z j:Nat) (p:Addr) (y:Value)
  (hj:A[j]?=some y)
  (co:∀ V,Mem w V L->V.cell? ⟨Z,0,none⟩=some (.func (.func z) #[] #[]))
  (eo:∀ args V,(callFunc z args).run prog V=.ok (.enter z args) V) (ho:∀ V,Calls prog z #[.pointer (some p)] V fun e V'=>e=.returned (.pointer (some ⟨g,j,none⟩))/\V=V') :
  Calls prog 220 #[.slice a l.length c,.pointer (some p),.pointer (some ⟨Z,0,none⟩)] W (qh w L (fun m W'=>j76 w W' g A T j L m) (match l with | []=>none|b::r=>some (b.toNat,r))):=by
 cases l with
 | nil =>
  have C:=yu W a 0 c 1 (by omega) (by omega);go_enter func220,ntmps220;go_wp2_with fail;refine C.mono ?_;rintro e V ⟨rfl,rfl⟩;go_wp2_with fail;go_ret2;exact ⟨rfl,O.sub⟩
 | cons b r =>
  have C:=qd (O.sl I) 1 (by simp) (by omega);have a6:0<=b/\b<=255:=by have:=I.row.bytes 0;simpa using this
  obtain ⟨n,hn⟩:∃ n:Nat,(b:Int)=n:=⟨b.toNat,by omega⟩;subst hn;have s:∀ V,Mem w V ((g,.cells A T (0,0))::L)->∀ Q R F B,(∀ V,Sl V a ((n:Int)::r) c->Sl V Q (((n:Int)::r).take 1) R/\Sl V F (((n:Int)::r).drop 1) B) ->
    Sl w F r B/\∃ x f,Q=some ⟨x,f,none⟩/\∀ V,Mem w V L->V.cell? ⟨x,f,none⟩=some (.int .u8 n):=by
   intro V d Q R F B h;have hp:=(h w I).1;have H:=(h w I).2;simp only [ah,ai,aj,ak] at hp H;refine ⟨H,?_⟩;rcases hp.row.cells with e|⟨x,f,e,hc⟩
   ·simp at e
   ·refine ⟨x,f,e,fun V U=>?_⟩;have h1:=hc 0 (by simp);rw [U.old (j9 h1)];simpa using h1
  by_cases h0:n=0
  ·subst h0;simp only [av,aw] at *;go_enter func220,ntmps220;go_wp2_with fail;refine C.mono ?_;rintro e V ⟨v1,v2,rfl,⟨Q,R,F,B,rfl,rfl,h⟩,q,rfl⟩;have d:=O.drewN q;generalize W.drewN q=V at d;obtain ⟨H,x,f,rfl,i⟩:=s V d _ _ _ _ h;have c0:=i V d.sub;clear h I C s i;go_wp2_with fail;go_ret2;exact ⟨F,B,rfl,H,ay ⟨rfl,d⟩⟩
  ·have a3:(0:Int)<n:=by omega
   have D:0<n:=by omega
   simp only [ax];go_enter func220,ntmps220;go_wp2_with fail;refine C.mono ?_;rintro e V ⟨v1,v2,rfl,⟨Q,R,F,B,rfl,rfl,h⟩,q,rfl⟩;have d:=O.drewN q;generalize W.drewN q=V at d;obtain ⟨H,x,f,rfl,i⟩:=s V d _ _ _ _ h;have c0:=i V d.sub;have k:=d.drew;have c1:=i _ k.sub;have c2:=co _ k.sub;have c3:=(k.cell 0 rfl j).trans hj;have f3:=k.free 0 rfl j;have KS:Hid (∀ V,Mem w V L->V.cell? ⟨Z,0,none⟩=some (.func (.func z) #[] #[])/\V.cell? ⟨x,f,none⟩=some (.int .u8 n)):=fun V U=>⟨co V U,i V U⟩;obtain ⟨i0,N,hz0,J,u⟩:=info_parts j87;have M:∀ V:World,(aA 37 (.int .u8 (n:Int)) (.int .u8 (n:Int))).run prog V=.ok (.slice (some ⟨V.heap.size,0,none⟩) n n) (V.alloc (.cells (madeCells (af (tc ten0 nilV nilV nilV).toArray).cells (n*33)) 46)):=by
    intro V;have:=run_make (P:=prog) V 37 46 i0 (af (tc ten0 nilV nilV nilV).toArray) underlying37 N hz0 .u8 .u8 n n (by omega) (by omega) (by rw [u];omega) (by omega);rw [J,ax] at this;exact this
   clear N hz0 J u;have o:Mem w (V.drew.alloc (.cells (madeCells (af (tc ten0 nilV nilV nilV).toArray).cells (n*33)) 46)) ((g,.cells A T (0,0))::(V.heap.size,.cells (madeCells (af (tc ten0 nilV nilV nilV).toArray).cells (n*33)) 46)::L) :=
    (k.push V.heap.size _ rfl).perm (by
     refine aB al ?_;exact aD _ _ _)
   have G:Hid (Mem w ((V.drew.alloc (.cells (madeCells (af (tc ten0 nilV nilV nilV).toArray).cells (n*33)) 46)).setCell ⟨g,j,none⟩ (.slice (some ⟨V.heap.size,0,none⟩) n n)) ((g,.cells (A.setIfInBounds j (.slice (some ⟨V.heap.size,0,none⟩) n n)) T (0,0))::(V.heap.size,.cells (madeCells (af (tc ten0 nilV nilV nilV).toArray).cells (n*33)) 46)::L)):=by
    have:=o.set 0 rfl j (.slice (some ⟨V.heap.size,0,none⟩) n n);exact this
   have c5:=(o.cell 0 rfl j).trans hj;have f5:=o.free 0 rfl j;have c6:(V.alloc (.cells (madeCells (af (tc ten0 nilV nilV nilV).toArray).cells (n*33)) 46)).cell? ⟨g,j,none⟩=some y:=c5;have f6:(V.alloc (.cells (madeCells (af (tc ten0 nilV nilV nilV).toArray).cells (n*33)) 46)).frozen? ⟨g,j,none⟩=false:=f5;have c7:V.cell? ⟨g,j,none⟩=some y:=c3;have f7:V.frozen? ⟨g,j,none⟩=false:=f3;have a0:g≠V.heap.size:=by have:=j9 c7;simp at this;omega
   have a4:V.heap.size≠g:=fun e=>a0 e.symm;have HA:Hid (Mem w (V.drew.alloc (.cells (madeCells (af (tc ten0 nilV nilV nilV).toArray).cells (n*33)) 46)) L):=o.sub.sub;clear h I C s i O d hj co k o h0;obtain ⟨Y,S⟩:∃ Y,madeCells (af (tc ten0 nilV nilV nilV).toArray).cells (n*33)=Y:=⟨_,rfl⟩;rw [S] at G c5 f5 HA c6 f6;simp only [S] at M;have HY:Hid (madeCells (af (tc ten0 nilV nilV nilV).toArray).cells (n*33)=Y):=S;clear S;have a5:=M V.drew;go_upto_region 3 with fail
   go_region_held3 (fun V=>V.cell? ⟨Z,0,none⟩=some (.func (.func z) #[] #[])/\V.cell? ⟨x,f,none⟩=some (.int .u8 n)) (first|assumption|exact KS.out _ HA.out|exact KS.out _ G.out.sub.sub|go_keep)
    (first|(go_at_fn z;refine (ho _).mono ?_;rintro e V ⟨rfl,rfl⟩))
   all_goals
    go_wp2_with fail;go_ret2;refine ⟨F,B,rfl,H,az ⟨D,V.heap.size,?_⟩⟩;rw [HY.out];exact G.out
end
section
open Go.RowKit Sm
theorem qy {P:Program} {f:FuncId} (h:Calls P f args (w.drewN n) fun e w'=>e=.returned v/\w.drewN n=w'):Calls P f args (w.drewN n) fun e d=>e=.returned v/\∃ m,d=w.drewN m :=
 h.mono fun _ _ ⟨j,i⟩=>⟨j,n,i.symm⟩
abbrev pcT:TypeId:=184
abbrev pcA (t c i n:Int) (v:Value):Array Value:=#[.int .u64 t,.int .i64 c,.int .i64 i,.int .i64 n,v]
abbrev pc0:Array Value:=pcA 0 0 0 0 (.slice none 0 0)
theorem Row.sl {d:Nat} (h:Row w (some ⟨g,d,none⟩) l) (f hi:Nat) (j:f<=hi) (i:hi<=l.length):Row w (some ⟨g,d+f,none⟩) (sl l f hi):=h.part f (hi-f) (by omega)
section
variable {W:World} {g c m:Nat} {b:List Int} {E:Value}
theorem jmh (r:b.length=m) (N:256<=m) (M:m<=65536) (hr:Row W (some ⟨g,0,none⟩) b) (u:m<=c) (h:W.cell? ⟨0,0,none⟩=some (.iface t v))
  (f:b.getD 0 0≠165\/b.getD (m-1) 0≠165\/(m:Int)-64<gt (sl b 23 27)) :
  Calls prog 162 #[.slice (some ⟨g,0,none⟩) m c] W fun e W'=>e=.returned (.tuple #[.agg pc0,.iface t v])/\∃ K,Mem W W' K:=by
 have j:Mem W (W.alloc (.cells pc0 pcT)) [(W.heap.size,.cells pc0 pcT (0,0))]:=(Mem.nil W).push1 rfl;have d:Row (W.alloc (.cells pc0 pcT)) (some ⟨g,0,none⟩) b:=yh hr;have s:(W.alloc (.cells pc0 pcT)).cell? ⟨0,0,none⟩=some (.iface t v):=by rw [<-h];exact j.old (j9 h)
 have p:=j.cell 0 rfl;have S:=j.free 0 rfl;have z:Hid (Mem W (W.alloc (.cells pc0 pcT)) [(W.heap.size,.cells pc0 pcT (0,0))]):=j;have J:=j9 h;generalize I:W.alloc (.cells pc0 pcT)=B at *;have O:=d.cellAt 0 (by omega);have cl:=d.cellAt (m-1) (by omega);simp only [a7] at O cl;have x:=j0y (n:=4) (by rw [jw _ _ _ (by omega)]) (d.sl 23 27 (by omega) (by omega)) (by omega) (c-23);simp only [a7] at x;have k:=j0z (sl b 23 27) (kh hr.bytes 23 27);rw [jw _ _ _ (by omega)] at k;have H:gt (sl b 23 27)<4294967296:=k.2;have hz0:=k.1;generalize b.getD 0 0=o at *;generalize b.getD (m-1) 0=q at *;generalize gt (sl b 23 27)=Z at *;have G:(23:Int)<c:=by omega
 have F:(27:Int)<=c:=by omega
 have R:(0:Int)<m:=by omega
 have D:((m:Int)-1).toNat=m-1:=by omega
 have Q:aa.wrap ((m:Int)-1)=(m:Int)-1:=by rw [ab];omega
 clear j hr d k h;go_enter func162,ntmps162;go_wp2_with fail;refine x.mono ?_;rintro e w' ⟨rfl,rfl⟩;have i:Hid (Mem W (((((B.setCell ⟨W.heap.size,0,none⟩ (.int .u64 0)).setCell ⟨W.heap.size,1,none⟩ (.int .i64 0)).setCell ⟨W.heap.size,2,none⟩ (.int .i64 0)).setCell ⟨W.heap.size,3,none⟩ (.int .i64 0)).setCell ⟨W.heap.size,4,none⟩ (.slice none 0 0)).drew _) :=
  (((((z.out.set 0 rfl 0 _).set 0 rfl 1 _).set 0 rfl 2 _).set 0 rfl 3 _).set 0 rfl 4 _).drew
 clear z;by_cases h0:o=165
 ·by_cases hl:q=165
  ·have U:(m:Int)-64<Z:=by simpa [h0,hl] using f
   have y:(o != 165)=false:=by simpa using h0
   have P:(q != 165)=false:=by simpa using hl
   have C:ac.wrap ((m:Int)-64)=(m:Int)-64:=wraps_u64 _ (by omega) (by omega);clear f hl h0;go_wp2_with fail
   go_region
   all_goals go_wp2
   exact bodyPost_ret (v:=.tuple #[.agg pc0,.iface t v]) (by simp [results,results162,go_sem,p]) rfl ⟨rfl,_,i.out⟩
  ·have y:(o != 165)=false:=by simpa using h0
   have P:(q != 165)=true:=by simpa using hl
   clear f hl h0;go_wp2_with fail
   go_region
   all_goals go_wp2
   exact bodyPost_ret (v:=.tuple #[.agg pc0,.iface t v]) (by simp [results,results162,go_sem,p]) rfl ⟨rfl,_,i.out⟩
 ·have y:(o != 165)=true:=by simpa using h0
  clear f;go_wp2_with fail
  go_region
  all_goals go_wp2
  exact bodyPost_ret (v:=.tuple #[.agg pc0,.iface t v]) (by simp [results,results162,go_sem,p]) rfl ⟨rfl,_,i.out⟩
theorem jmd (C:b.length=m) (a0:256<=m) (Z:m<=65536) (hr:Row W (some ⟨g,0,none⟩) b) (H:m<=c) (f:W.cell? ⟨0,0,none⟩=some (.iface t v))
  (J:b.getD 0 0=165) (D:b.getD (m-1) 0=165) {L:Nat} (I:gt (sl b 23 27)=L) (hL:L+64<=m) (j:crc (sl b 5 (63+L))≠gt (sl b 1 5)) :
  Calls prog 162 #[.slice (some ⟨g,0,none⟩) m c] W fun e W'=>e=.returned (.tuple #[.agg pc0,.iface t v])/\∃ K,Mem W W' K:=by
 have o:Mem W (W.alloc (.cells pc0 pcT)) [(W.heap.size,.cells pc0 pcT (0,0))]:=(Mem.nil W).push1 rfl;have d:Row (W.alloc (.cells pc0 pcT)) (some ⟨g,0,none⟩) b:=yh hr;have i:(W.alloc (.cells pc0 pcT)).cell? ⟨0,0,none⟩=some (.iface t v):=by rw [<-f];exact o.old (j9 f)
 have u:=o.cell 0 rfl;have B:=o.free 0 rfl;have M:Hid (Mem W (W.alloc (.cells pc0 pcT)) [(W.heap.size,.cells pc0 pcT (0,0))]):=o;have Y:=j9 f;generalize U:W.alloc (.cells pc0 pcT)=r at *;have y:=d.cellAt 0 (by omega);have cl:=d.cellAt (m-1) (by omega);simp only [a7] at y cl;have s:=j0y (n:=4) (by rw [jw _ _ _ (by omega)]) (d.sl 23 27 (by omega) (by omega)) (by omega) (c-23);simp only [a7] at s;have q:Hid (∀ k,Calls prog 256 #[.slice (some ⟨g,1,none⟩) 4 (c-1)] (r.drewN k) fun e w'=>e=.returned (.int .u64 (gt (sl b 1 5)))/\r.drewN k=w'):=fun k=>by
  have:=j0y (n:=4) (by rw [jw _ _ _ (by omega)]) (yg (n:=k) (d.sl 1 5 (by omega) (by omega))) (by omega) (c-1);simpa only [a7] using this
 have p:Hid (∀ k,Calls prog 147 #[.slice (some ⟨g,5,none⟩) (63+L-5) (c-5)] (r.drewN k) fun e w'=>e=.returned (.int .u32 (crc (sl b 5 (63+L))))/\r.drewN k=w'):=fun k=>by
  have:=j6g (n:=63+L-5) (by rw [jw _ _ _ (by omega)]) (yg (n:=k) (d.sl 5 (63+L) (by omega) (by omega))) (c-5);simpa only [a7] using this
 rw [J] at y;rw [D] at cl;rw [I] at s;have x:=j1y (sl b 5 (63+L)) (kh hr.bytes _ _);generalize crc (sl b 5 (63+L))=S at *;generalize gt (sl b 1 5)=T at *;have bn:(S != T)=true:=by simpa using j
 have R:(23:Int)<c:=by omega
 have Q:(27:Int)<=c:=by omega
 have q1:(1:Int)<c:=by omega
 have q5:(5:Int)<c:=by omega
 have qm:(0:Int)<m:=by omega
 have P:((m:Int)-1).toNat=m-1:=by omega
 have qw:aa.wrap ((m:Int)-1)=(m:Int)-1:=by rw [ab];omega
 have O:ac.wrap ((m:Int)-64)=(m:Int)-64:=wraps_u64 _ (by omega) (by omega);have qz:¬((m:Int)-64<(L:Int)):=by omega
 obtain ⟨G,F⟩:=x;clear o hr d f j J D I u B;go_enter func162,ntmps162;go_wp2_with fail;refine s.mono ?_;rintro e w' ⟨rfl,rfl⟩;go_upto_region 5 with fail
 go_quiet (first|(go_at_call 147;exact qy (p.out _))|(go_at_call 256;exact qy (q.out _)))
 go_upto_region 6 with fail;refine j5 (fun V=>Mem W V [(W.heap.size,.cells pc0 pcT (0,0))]/\V.cell? ⟨0,0,none⟩=some (.iface t v)) ⟨M.out.drewN _,i⟩ ?_;rintro N ⟨h,a1⟩;have u:=h.cell 0 rfl;have B:=h.free 0 rfl;have z:Hid (Mem W N [(W.heap.size,.cells pc0 pcT (0,0))]):=h;clear h M p q s i y cl
 go_region
 all_goals go_wp2
 exact bodyPost_ret (v:=.tuple #[.agg pc0,.iface t v]) (by simp [results,results162,go_sem,u]) rfl ⟨rfl,_,(((((z.out.set 0 rfl 0 _).set 0 rfl 1 _).set 0 rfl 2 _).set 0 rfl 3 _).set 0 rfl 4 _).drew⟩
end
def OwnV (v:Value) (b:List Int) (X:List (Nat×Obj)):Prop :=
 (v=.slice none 0 0/\b=[]/\X=[])\/∃ k:Bk,v=.slice (some ⟨k.g,0,none⟩) b.length k.cap/\k.b=b/\k.Ok b.length/\X=[k.ob]
theorem OwnV.shape (h:OwnV v b X):∃ a c,v=.slice a b.length c/\b.length<=c:=by
 rcases h with ⟨rfl,rfl,rfl⟩|⟨k,rfl,_,o,rfl⟩
 ·exact ⟨none,0,rfl,a8 _⟩
 ·exact ⟨_,_,rfl,o.cap⟩
theorem OwnV.row {R:List (Nat×Obj)} (h:OwnV v b X) (s:Mem w W (X++R)) (q:b.length<=140737488351232):∃ a c,v=.slice a b.length c/\b.length<=c/\Row W a b:=by
 rcases h with ⟨rfl,rfl,rfl⟩|⟨k,rfl,e,o,rfl⟩
 ·exact ⟨none,0,rfl,a8 _,⟨fun i=>by simp,by simp,ay rfl⟩⟩
 ·refine ⟨_,_,rfl,o.cap,⟨by rw [<-e];exact o.bytes,q,az ⟨k.g,0,rfl,fun j f=>?_⟩⟩⟩;have r:W.heap[k.g]?=some (.cells k.cur 5):=s.get 0 rfl;rw [a7,cell_of r];have p:=congrArg (fun l=>l[j]?) o.here;have d:j<k.b.length:=by rw [e];exact f
  simp only [List.getElem?_map,am,if_pos f,Array.getElem?_toList,List.getElem?_eq_getElem d,Option.map_some] at p;rw [p,j1c f];simp only [e]
theorem j4n (W:World) (ad:Addr) (c:Nat) (ty:TypeId):(aE #[86,86] ty #[.slice none 0 0,.slice (some ad) 0 c]).run prog W=.ok (.slice none 0 0) W:=by
 obtain ⟨i,hi,j,d,h⟩:=info_parts jdg;have f:=run_firstCells_some (P:=prog) W i.size 0 ad 0 c [] (by simp) (by simp);simp [aE,run_underlying underlying86,sizeOf,typeInfo,hi,Builtin.lenOf,f]
theorem je2 {R:List (Nat×Obj)} (z:Mem w W (X++R)) (O:OwnV v b X) {r j:Nat} (x:l.length=j) (hr:Row W (some ⟨g,r,none⟩) l) (hb:b.length+j<=1000000000) (ty:TypeId) :
  ∃ I M W',(aE #[86,86] ty #[v,.slice (some ⟨g,r,none⟩) j c]).run prog W=.ok I W'/\OwnV I (b++l) M/\Mem w W' (M++R):=by
 obtain ⟨i,hi,N,f,H⟩:=info_parts jdg;rcases O with ⟨rfl,rfl,rfl⟩|⟨k,rfl,e,o,rfl⟩
 ·by_cases hj:j=0
  ·subst hj;have:l=[]:=List.eq_nil_of_length_eq_zero x;subst this;exact ⟨_,[],W,j4n W _ _ _,ay ⟨rfl,rfl,rfl⟩,z⟩
  ·obtain ⟨J,cap,W',B,C,U,S⟩:=je3 W x hr (by omega) c ty;refine ⟨_,[(J,.cells C 5)],W',B,az ⟨Bk.mk J cap C l,by rw [an,x],rfl,by rw [an,x];exact S,rfl⟩,?_⟩;exact (z.join U).perm al
 ·have G:W.heap[k.g]?=some (.cells k.cur 5):=z.get 0 rfl;have d:(b++l).length=b.length+j:=by simp [x]
  have Q:=o.here;have p:(l.map (ag .u8)).length=j:=by simp [x]
  have h:(k.cur.toList.take b.length).length=b.length:=by rw [o.here,List.length_map,e]
  by_cases hroom:b.length+j<=k.cap
  ·have B:=run_append_room (P:=prog) W 86 ty 5 i underlying86 hi k.g b.length k.cap k.cur G ⟨g,r,none⟩ j c (l.map (ag .u8)) (by rw [f];simp;omega) hr.news (ints_oneCell _ _) hroom (by rw [f,p];have:=o.size;omega);refine ⟨_,_,_,B,az ⟨Bk.mk k.g k.cap (k.cur.toList.take (b.length*i.size)++l.map (ag .u8)++k.cur.toList.drop (b.length*i.size+(l.map (ag .u8)).length)).toArray (b++l),by rw [d],rfl,⟨by rw [d];exact hroom,?_,?_,rfl,jp (by rw [<-e];exact o.bytes) hr.bytes⟩,rfl⟩,?_⟩
   ·have:=o.size;simp only [ao,ap,List.length_take,List.length_drop,Array.length_toList,p,f];omega
   ·rw [d,aq,f,Nat.mul_one,ar (by rw [ap,h,p]),au,o.here,e]
   ·exact z.wrote 0 rfl (j8 W k.g k.cur _ 5 G)
  ·have s:∀ q u,(k.cur.toList.take b.length)[q]?=some u->W.cell? ((⟨k.g,0,none⟩:Addr).add q)=some u:=by
    intro q u D;have y:=(List.getElem?_eq_some_iff.mp D).1;rw [h] at y;have e:((⟨k.g,0,none⟩:Addr).add q)=⟨k.g,q,none⟩:=by
     by_cases e:q=0
     ·subst e;simp [Addr.add]
     ·simp [Addr.add,e]
    rw [e,cell_of G];rw [am,if_pos y] at D;simpa using D
   have B:=run_append_grow (P:=prog) W 86 ty 5 i (.int .u8 0) underlying86 hi N ⟨k.g,0,none⟩ b.length k.cap (k.cur.toList.take b.length) (by rw [f,h];omega) s ⟨g,r,none⟩ j c (l.map (ag .u8)) (by rw [f];simp;omega) hr.news (by omega) (by omega) (growslice_fits (by omega) (by rw [H];omega));have F:=grownCap_ge W (b.length+j) k.cap 5;refine ⟨_,_,_,B,az ⟨Bk.mk W.heap.size (grownCap W (b.length+j) k.cap 5) ((k.cur.toList.take b.length).toArray++(l.map (ag .u8)).toArray++aF (ag .u8 0).cells (grownCap W (b.length+j) k.cap 5-(b.length+j))) (b++l),by rw [d],rfl,⟨by rw [d];exact F,?_,?_,rfl,jp (by rw [<-e];exact o.bytes) hr.bytes⟩,rfl⟩,?_⟩
   ·simp only [Array.size_append,ao,size_zeroCells,h,p,Value.cells];simp;omega
   ·rw [d,Array.toList_append,Array.toList_append,aq,aq,ar (by rw [ap,h,p]),au,o.here,e]
   ·exact (z.sub.drew.alloc _).perm al
end
section
open Go.RowKit Sm Cf
structure Fv where
 kw:Nat
 kr:Nat
 ks:Nat
 cw:Array Value
 cr:Array Value
 cs:Array Value
def Fv.cells (f:Fv):List Value:=[.func (.func f.kw) #[] f.cw,.func (.func f.kr) #[] f.cr,.func (.func f.ks) #[] f.cs]
def Fv.val (f:Fv):Value:=.agg #[.func (.func f.kw) #[] f.cw,.func (.func f.kr) #[] f.cr,.func (.func f.ks) #[] f.cs]
def Ent (k:Nat):Prop:=∀ args V,(callFunc k args).run prog V=.ok (.enter k args) V
abbrev Rp (α ρ:Type):=α->ρ->World->Nat->Nat->Prop
abbrev St' (α:Type):=World->α->Nat->TypeId->List Value->List Value->World->List (Nat×Obj)->Prop
structure Sp (α:Type) where
 enc:α->List Int
 dec:List Int->α->Option (α×List Int)
 eq:α->α->Bool
def Sub (L K:List (Nat×Obj)):Prop:=∀ q∈L,q∈K
theorem Sub.refl (L:List (Nat×Obj)):Sub L L:=fun _ h=>h
theorem Sub.trans {A B C:List (Nat×Obj)} (h:Sub A B) (k:Sub B C):Sub A C:=fun q d=>k q (h q d)
theorem Sub.cons (h:Sub L K) (p:Nat×Obj):Sub L (p::K):=fun q d=>List.mem_cons_of_mem _ (h q d)
theorem Sub.app (h:Sub L K) (M:List (Nat×Obj)):Sub L (M++K):=fun q d=>List.mem_append_right _ (h q d)
structure Fd {α ρ:Type} (w:World) (L:List (Nat×Obj)) (I:Rp α ρ) (J:St' α) (f:Fv) (s:Sp α):Prop where
 ew:Ent f.kw
 er:Ent f.kr
 es:Ent f.ks
 wr:∀ K,Sub L K->∀ x r g off,(∀ V,Mem w V K->I x r V g off)->∀ v l V,Out w V v l K->l.length+(s.enc x).length<=1000000000 ->
  Calls prog f.kw (#[v,.pointer (some ⟨g,off,none⟩)]++f.cw) V fun e V'=>∃ v',e=.returned v'/\Out w V' v' (l++s.enc x) K
 rd:∀ K,Sub L K->∀ x g T pre post a l c V,J w x g T pre post V K->Sl w a l c ->
  Calls prog f.kr (#[.slice a l.length c,.pointer (some ⟨g,pre.length,none⟩)]++f.cr) V (qh w K (fun y V'=>J w y g T pre post V' K) (s.dec l x))
theorem Fd.more {α ρ:Type} {I:Rp α ρ} {J:St' α} {f:Fv} {s:Sp α} (h:Fd w L I J f s) (hs:Sub L K):Fd w K I J f s :=
 ⟨h.ew,h.er,h.es,fun M d=>h.wr M (hs.trans d),fun M d=>h.rd M (hs.trans d)⟩
inductive FdAll {α ρ:Type} (w:World) (L:List (Nat×Obj)) (I:Rp α ρ) (J:St' α):List Fv->List (Sp α)->Prop
 | nil:FdAll w L I J [] []
 | cons {f:Fv} {s:Sp α} {fs:List Fv} {ss:List (Sp α)}:Fd w L I J f s->FdAll w L I J fs ss->FdAll w L I J (f::fs) (s::ss)
def fv0:Fv:=⟨0,0,0,#[],#[],#[]⟩
def sp0 {α:Type}:Sp α:=⟨fun _=>[],fun _ _=>none,fun _ _=>false⟩
theorem FdAll.at_ {α ρ:Type} {I:Rp α ρ} {J:St' α} {d:List Fv} {ss:List (Sp α)} (h:FdAll w L I J d ss):∀ i,i<d.length->Fd w L I J (d.getD i fv0) (ss.getD i sp0):=by
 induction h with
 | nil=>intro i hi;simp at hi
 | cons h1 h2 ih =>
  intro i hi;cases i with
  | zero=>exact h1
  | succ i=>exact ih i (by simpa using hi)
theorem FdAll.len {α ρ:Type} {I:Rp α ρ} {J:St' α} {d:List Fv} {ss:List (Sp α)} (h:FdAll w L I J d ss):d.length=ss.length:=by
 induction h with
 | nil=>rfl
 | cons _ _ ih=>simp [ih]
def j0j {α:Type} (ss:List (Sp α)):Sp α :=
 ⟨fun x=>cat (fun i=>(ss.getD i sp0).enc x) ss.length,fun l x=>sq (fun i=>(ss.getD i sp0).dec) 0 ss.length l x,fun x y=>decide (∀ i,i<ss.length->(ss.getD i sp0).eq x y=true)⟩
theorem flat_get (d:List Fv):∀ i,i<d.length->(d.flatMap Fv.cells)[i*3]?=some (.func (.func (d.getD i fv0).kw) #[] (d.getD i fv0).cw) /\
  (d.flatMap Fv.cells)[i*3+1]?=some (.func (.func (d.getD i fv0).kr) #[] (d.getD i fv0).cr)/\(d.flatMap Fv.cells)[i*3+2]?=some (.func (.func (d.getD i fv0).ks) #[] (d.getD i fv0).cs):=by
 induction d with
 | nil=>intro i hi;simp at hi
 | cons f d ih =>
  intro i hi;cases i with
  | zero=>exact ⟨rfl,rfl,rfl⟩
  | succ i =>
   obtain ⟨o,j,h⟩:=ih i (by simpa using hi);have e:∀ k,((f::d).flatMap Fv.cells)[(i+1)*3+k]?=(d.flatMap Fv.cells)[i*3+k]?:=by
    intro k;rw [List.flatMap_cons,List.getElem?_append_right (by simp [Fv.cells];omega)];congr 1;simp [Fv.cells];omega
   refine ⟨?_,?_,?_⟩
   ·rw [show (i+1)*3=(i+1)*3+0 by omega,e 0];exact o
   ·rw [e 1];exact j
   ·rw [e 2];exact h
theorem ja {V:World} {b:Nat} (d:Mem w V L) (h:(b,.cells A t (0,0))∈L) (j:Nat):V.cell? ⟨b,j,none⟩=A[j]?:=cell_of (d.at_ _ h) j
theorem j2k (n:Nat) (h:n<=7) (x:Int):be n (ac.wrap x)=be n x:=by
 have key:∀ k:Nat,k<=7->(x % 18446744073709551616) / 256 ^ k % 256=x / 256 ^ k % 256:=by
  intro k d
  match k,d with
  | 0,_=>omega
  | 1,_=>omega
  | 2,_=>omega
  | 3,_=>omega
  | 4,_=>omega
  | 5,_=>omega
  | 6,_=>omega
  | 7,_=>omega
 rw [qj]
 induction n with
 | zero=>rfl
 | succ n ih=>rw [be,be,key n (by omega),ih (by omega)]
def jz {α:Type} (sz:Nat) (fg:α->Int) (fs:α->Int->α):Sp α :=
 ⟨fun x=>be sz (fg x),fun l x=>if l.length<sz then none else some (fs x (num (l.take sz)),l.drop sz),fun x y=>decide (fg x=fg y)⟩
theorem jn (w:World) (a b c:Obj):(((w.alloc a).alloc b).alloc c).heap[w.heap.size+1+1]?=some c:=by
 have h:=heap_alloc_new ((w.alloc a).alloc b) c;have e:((w.alloc a).alloc b).heap.size=w.heap.size+1+1:=by
  show ((w.heap.push a).push b).size=_;simp
 rwa [e] at h
theorem qh.mono2 {σ τ:Type} {J:σ->World->Prop} {H:τ->World->Prop} {r:Option (σ×List Int)} {q:Option (τ×List Int)} (f:σ->τ) (i:q=r.map (fun x=>(f x.1,x.2)))
  (h:qh w L J r e W') (j:Mem w W' L->Mem w W' K) (hs:∀ s d,r=some (s,d)->J s W'->H (f s) W'):qh w K H q e W':=by
 subst i;cases r with
 | none=>exact ⟨h.1,j h.2⟩
 | some x=>obtain ⟨a,c,p,o,k⟩:=h;exact ⟨a,c,p,o,hs _ _ rfl k⟩
def j18 {α:Type} (n:Nat) (fg:α->List Int) (fs:α->List Int->α):Sp α :=
 ⟨fg,fun l x=>if l.length<n then none else some (fs x (l.take n),l.drop n),fun x y=>decide (fg x=fg y)⟩
def jct {α:Type} (fg:α->ByteArray) (fs:α->ByteArray->α):Sp α :=
 ⟨fun x=>nm (fg x),fun l x=>(dtxt l).map (fun q=>(fs x q.1,q.2)),fun x y=>decide (sb (fg x)=sb (fg y))⟩
def j1l {α:Type} (fl:α->Nat) (fs:α->Nat->α):Sp α :=
 ⟨fun x=>[((min (fl x) 255:Nat):Int)],fun l x=>match l with | []=>none|b::r=>some (fs x b.toNat,r),fun x y=>decide (fl x=fl y)⟩
def itd {β:Type} (d:β) (se:Sp β):Nat->List Int->List β->Option (List β×List Int):=fun i l xs=>(se.dec l (xs.getD i d)).map (fun q=>(xs.set i q.1,q.2))
def j5w {α β:Type} [DecidableEq β] (d:β) (se:Sp β) (fl:α->List β) (fs:α->List β->α):Sp α :=
 ⟨fun x=>cat (fun i=>se.enc ((fl x).getD i d)) (min (fl x).length 255),fun l x=>(sq (itd d se) 0 (fl x).length l (fl x)).map (fun q=>(fs x q.1,q.2)),fun x y=>decide (fl x=fl y)⟩
structure Lens {α:Type} (w:World) (J:St' α) (o:Nat) (x:α) (g:Nat) (T:TypeId) (pre post:List Value) (V:World) (K M:List (Nat×Obj)) (A:Array Value):Prop where
 mem:Mem w V ((g,.cells A T (0,0))::M)
 sub:Sub K M
 back:∀ V',Mem w V' M->Mem w V' K
end
end Go.Proofs.YtdigofgjhaakmaaGreatDoor
