/-
  Settings as bytes: the field of a list's length (lych/api.Tenant, lych/api.Pair).
  Settings as bytes: the field of a list's length (lych/api.Tenant, uint32).
  Settings as bytes: the field of a list's length (lych/api.Config, lych/api.Tenant).
  What package log's unframed answers.
  Of no one layer: a row of bytes of the call's own, or none yet, to which bytes are put.
  Settings as bytes: what is asked of a field: its three functions, in every world that keeps what they captured.
-/
import Derived.Test.YtdigofgjhaakmaaGreatDoorW04
import Derived.Test.YtdigofgjhaakmaaGreatDoorW05
import Derived.BigQuiet
import Derived.Deep.QuietTactic
import Derived.Deep.RegionHeld3
import Derived.Deep.DeepCutAuto
import Derived.Test.YtdigofgjhaakmaaGreatDoorW01
set_option linter.unusedVariables false
set_option maxRecDepth 20000
set_option maxHeartbeats 40000000
namespace Go.Proofs.YtdigofgjhaakmaaGreatDoor
open Go.RowKit
open Sm
open Cf
theorem counted_TP (W:World) (a:Option Addr) (n c:Nat) (hc:n≤c) (hb:c≤9223372036854775807) (ha:a=none→c=0) :
  Calls Tryz.prog 293 #[.slice a n c] W fun e W'=>e=.returned (.slice a (min n 255) c)∧W=W':=by
 by_cases h:n≤255
 ·have h1:(n:Int)≤255:=by omega
  have h2:¬ ((255:Int) < n):=by omega
  have h3:(n:Int)≤c:=by omega
  rw [Nat.min_eq_left h]
  cases a with
  | none =>
   obtain rfl:c=0:=ha rfl
   obtain rfl:n=0:=by omega
   go_enter Tryz.func293,Tryz.ntmps293
   go_wp2_with fail
   go_ret
   exact ⟨rfl,rfl⟩
  | some ad =>
   go_enter Tryz.func293,Tryz.ntmps293
   go_wp2_with fail
   go_ret
   exact ⟨rfl,rfl⟩
 ·have h1:¬ ((n:Int)≤255):=by omega
  have h2:(255:Int) < n:=by omega
  have h3:(255:Int)≤c:=by omega
  rw [Nat.min_eq_right (by omega)]
  cases a with
  | none =>
   obtain rfl:c=0:=ha rfl
   omega
  | some ad =>
   go_enter Tryz.func293,Tryz.ntmps293
   go_wp2_with fail
   go_ret
   exact ⟨rfl,rfl⟩
theorem cwr_TP {w W:World} {v:Value} {l:List Int} {L:List (Nat×Obj)} (h:Out w W v l L) (bo ko:Nat) (p p':Addr) (a:Option Addr) (n c:Nat) (hc:n≤c) (hcb:c≤9223372036854775807) (ha:a=none→c=0)
  (co:∀ V,Mem w V L→V.cell? ⟨bo,0,none⟩=some (.func (.func ko) #[] #[]))
  (eo:∀ args V,(callFunc ko args).run Tryz.prog V=.ok (.enter ko args) V) (ho:∀ V,Calls Tryz.prog ko #[.pointer (some p)] V fun e V'=>e=.returned (.pointer (some p'))∧V=V')
  (cx:∀ V,Mem w V L→V.cell? p'=some (.slice a n c)) (hb:l.length+1≤1000000000) :
  Calls Tryz.prog 292 #[v,.pointer (some p),.pointer (some ⟨bo,0,none⟩)] W fun e W'=>∃ v',e=.returned v'∧Out w W' v' (l++[((min n 255:Nat):Int)]) L:=by
 have c2:=co _ h.mem
 have c3:=cx _ h.mem
 have CC:=counted_TP W a n c hc hcb ha
 have hk:min n 255≤255:=Nat.min_le_right _ _
 generalize min n 255=k at CC hk
 have e1:IntKind.u8.wrap (k:Int)=k:=by rw [wrapu8];omega
 have e2:(k:Int) % 256=k:=by omega
 obtain ⟨v1,W1,hr1,hO1⟩:=out_one h (k:Int) (by omega) (by omega) 86
 have HO:Hid (Out w W1 v1 (l++[(k:Int)]) L):=hO1
 clear h co cx hO1
 go_enter Tryz.func292,Tryz.ntmps292
 go_wp2_with fail
 refine (ho _).mono ?_
 rintro e V ⟨rfl,rfl⟩
 go_wp2_with fail
 refine CC.mono ?_
 rintro e V ⟨rfl,rfl⟩
 go_wp2_with (at_builtin;refine wpList_append_run (.tmp 6) (.tmp 15) 86 86 (by with_reducible rfl) hr1 rfl rfl (by simp [Act.eval]) (by simp [Act.eval]) ?_)
 go_ret
 exact ⟨_,rfl,HO.out⟩
theorem csm_TP {w W:World} {L:List (Nat×Obj)} (h:Mem w W L) (bo ko:Nat) (p p' q q':Addr) (a a':Option Addr) (n n' c c':Nat)
  (co:∀ V,Mem w V L→V.cell? ⟨bo,0,none⟩=some (.func (.func ko) #[] #[]))
  (eo:∀ args V,(callFunc ko args).run Tryz.prog V=.ok (.enter ko args) V) (ho:∀ V,Calls Tryz.prog ko #[.pointer (some p)] V fun e V'=>e=.returned (.pointer (some p'))∧V=V')
  (hq:∀ V,Calls Tryz.prog ko #[.pointer (some q)] V fun e V'=>e=.returned (.pointer (some q'))∧V=V')
  (cx:∀ V,Mem w V L→V.cell? p'=some (.slice a n c)) (cy:∀ V,Mem w V L→V.cell? q'=some (.slice a' n' c')) :
  Calls Tryz.prog 295 #[.pointer (some p),.pointer (some q),.pointer (some ⟨bo,0,none⟩)] W fun e W'=>e=.returned (.bool (decide (n=n')))∧Mem w W' L:=by
 have HM:Hid (Mem w W.drew L):=h.drew
 have c2:=co _ HM.out
 have c3:=cx _ HM.out
 have c4:=cy _ HM.out
 obtain ⟨D,hD⟩:∃ D,decide (n=n')=D:=⟨_,rfl⟩
 have hD2:((n:Int) == (n':Int))=D:=by
  rw [←hD]
  by_cases e:n=n'
  ·subst e;simp
  ·rw [decide_eq_false e];simp;omega
 rw [hD]
 clear h co cx cy hD
 go_enter Tryz.func295,Tryz.ntmps295
 go_upto_region 1 with fail
 go_region_held3 (fun V=>V.cell? ⟨bo,0,none⟩=some (.func (.func ko) #[] #[])∧V.cell? p'=some (.slice a n c)∧V.cell? q'=some (.slice a' n' c')) (go_keep)
  (first | (go_at_fn ko;with_reducible refine (ho _).mono ?_;rintro e V ⟨rfl,rfl⟩) | (go_at_fn ko;with_reducible refine (hq _).mono ?_;rintro e V ⟨rfl,rfl⟩))
 go_wp2_with fail
 go_ret
 exact ⟨rfl,HM.out⟩
def CMade_TP (w W:World) (g:Nat) (A:Array Value) (T:TypeId) (j:Nat) (L:List (Nat×Obj)) (m:Nat):Prop :=
 (m=0∧Mem w W ((g,.cells A T (0,0))::L))∨(0 < m∧∃ h,Mem w W ((g,.cells (A.setIfInBounds j (.slice (some ⟨h,0,none⟩) m m)) T (0,0))::(h,.cells (madeCells (Value.agg #[.int .u32 0,.int .u32 0]).cells (m * 2)) 122)::L))
theorem crd_TP {w W:World} {a:Option Addr} {l:List Int} {c:Nat} {L:List (Nat×Obj)} {g:Nat} {A:Array Value} {T:TypeId} (hM:Mem w W ((g,.cells A T (0,0))::L)) (hS:Sl w a l c) (bo ko j:Nat) (p:Addr) (y:Value)
  (hj:A[j]? = some y)
  (co:∀ V,Mem w V L→V.cell? ⟨bo,0,none⟩=some (.func (.func ko) #[] #[]))
  (eo:∀ args V,(callFunc ko args).run Tryz.prog V=.ok (.enter ko args) V) (ho:∀ V,Calls Tryz.prog ko #[.pointer (some p)] V fun e V'=>e=.returned (.pointer (some ⟨g,j,none⟩))∧V=V') :
  Calls Tryz.prog 294 #[.slice a l.length c,.pointer (some p),.pointer (some ⟨bo,0,none⟩)] W (RPost w L (fun m W'=>CMade_TP w W' g A T j L m) (match l with | []=>none | b::r=>some (b.toNat,r))):=by
 cases l with
 | nil =>
  have C:=split_no W a 0 c 1 (by omega) (by omega)
  go_enter Tryz.func294,Tryz.ntmps294
  go_wp2_with fail
  refine C.mono ?_
  rintro e V ⟨rfl,rfl⟩
  go_wp2_with fail
  go_ret2
  exact ⟨rfl,hM.sub⟩
 | cons b r =>
  have C:=split_yes (hM.sl hS) 1 (by simp) (by omega)
  have hbb:0≤b∧b≤255:=by have:=hS.row.bytes 0;simpa using this
  obtain ⟨n,hn⟩:∃ n:Nat,(b:Int)=n:=⟨b.toNat,by omega⟩
  subst hn
  have hSP:∀ V,Mem w V ((g,.cells A T (0,0))::L)→∀ a1 k1 a2 k2,(∀ V,Sl V a ((n:Int)::r) c→Sl V a1 (((n:Int)::r).take 1) k1∧Sl V a2 (((n:Int)::r).drop 1) k2) →
    Sl w a2 r k2∧∃ b0 off,a1=some ⟨b0,off,none⟩∧∀ V,Mem w V L→V.cell? ⟨b0,off,none⟩=some (.int .u8 n):=by
   intro V hM1 a1 k1 a2 k2 hSp
   have hp:=(hSp w hS).1
   have hq:=(hSp w hS).2
   simp only [List.take_succ_cons,List.take_zero,List.drop_succ_cons,List.drop_zero] at hp hq
   refine ⟨hq,?_⟩
   rcases hp.row.cells with e | ⟨b0,off,e,hc⟩
   ·simp at e
   ·refine ⟨b0,off,e,fun V hV=>?_⟩
    have h1:=hc 0 (by simp)
    rw [hV.old (cell_lt h1)]
    simpa using h1
  by_cases h0:n=0
  ·subst h0
   simp only [Int.cast_ofNat_Int,Int.toNat_zero] at *
   go_enter Tryz.func294,Tryz.ntmps294
   go_wp2_with fail
   refine C.mono ?_
   rintro e V ⟨v1,v2,rfl,⟨a1,k1,a2,k2,rfl,rfl,hSp⟩,q,rfl⟩
   have hM1:=hM.drewN q
   generalize W.drewN q=V at hM1
   obtain ⟨hq,b0,off,rfl,hc0⟩:=hSP V hM1 _ _ _ _ hSp
   have c0:=hc0 V hM1.sub
   clear hSp hS C hSP hc0
   go_wp2_with fail
   go_ret2
   exact ⟨a2,k2,rfl,hq,Or.inl ⟨rfl,hM1⟩⟩
  ·have hpos:(0:Int) < n:=by omega
   have hpos2:0 < n:=by omega
   simp only [Int.toNat_natCast]
   go_enter Tryz.func294,Tryz.ntmps294
   go_wp2_with fail
   refine C.mono ?_
   rintro e V ⟨v1,v2,rfl,⟨a1,k1,a2,k2,rfl,rfl,hSp⟩,q,rfl⟩
   have hM1:=hM.drewN q
   generalize W.drewN q=V at hM1
   obtain ⟨hq,b0,off,rfl,hc0⟩:=hSP V hM1 _ _ _ _ hSp
   have c0:=hc0 V hM1.sub
   have hM2:=hM1.drew
   have c1:=hc0 _ hM2.sub
   have c2:=co _ hM2.sub
   have c3:=(hM2.cell 0 rfl j).trans hj
   have f3:=hM2.free 0 rfl j
   have KS:Hid (∀ V,Mem w V L→V.cell? ⟨bo,0,none⟩=some (.func (.func ko) #[] #[])∧V.cell? ⟨b0,off,none⟩=some (.int .u8 n)):=fun V hV=>⟨co V hV,hc0 V hV⟩
   obtain ⟨i0,hi0,hz0,hs0,hby0⟩:=info_parts infoP
   have hmk:∀ V:World,(Instr.makeSlice 44 (.int .u8 (n:Int)) (.int .u8 (n:Int))).run Tryz.prog V=.ok (.slice (some ⟨V.heap.size,0,none⟩) n n) (V.alloc (.cells (madeCells (Value.agg #[.int .u32 0,.int .u32 0]).cells (n * 2)) 122)):=by
    intro V
    have:=run_make (P:=Tryz.prog) V 44 122 i0 (Value.agg #[.int .u32 0,.int .u32 0]) Tryz.underlying44 hi0 hz0 .u8 .u8 n n (by omega) (by omega) (by rw [hby0];omega) (by omega)
    rw [hs0,Int.toNat_natCast] at this
    exact this
   clear hi0 hz0 hs0 hby0
   have hM3:Mem w (V.drew.alloc (.cells (madeCells (Value.agg #[.int .u32 0,.int .u32 0]).cells (n * 2)) 122)) ((g,.cells A T (0,0))::(V.heap.size,.cells (madeCells (Value.agg #[.int .u32 0,.int .u32 0]).cells (n * 2)) 122)::L) :=
    (hM2.push V.heap.size _ rfl).perm (by
     refine List.Perm.trans List.perm_append_comm ?_
     exact List.Perm.swap _ _ _)
   have HM4:Hid (Mem w ((V.drew.alloc (.cells (madeCells (Value.agg #[.int .u32 0,.int .u32 0]).cells (n * 2)) 122)).setCell ⟨g,j,none⟩ (.slice (some ⟨V.heap.size,0,none⟩) n n)) ((g,.cells (A.setIfInBounds j (.slice (some ⟨V.heap.size,0,none⟩) n n)) T (0,0))::(V.heap.size,.cells (madeCells (Value.agg #[.int .u32 0,.int .u32 0]).cells (n * 2)) 122)::L)):=by
    have:=hM3.set 0 rfl j (.slice (some ⟨V.heap.size,0,none⟩) n n)
    exact this
   have c5:=(hM3.cell 0 rfl j).trans hj
   have f5:=hM3.free 0 rfl j
   have c6:(V.alloc (.cells (madeCells (Value.agg #[.int .u32 0,.int .u32 0]).cells (n * 2)) 122)).cell? ⟨g,j,none⟩=some y:=c5
   have f6:(V.alloc (.cells (madeCells (Value.agg #[.int .u32 0,.int .u32 0]).cells (n * 2)) 122)).frozen? ⟨g,j,none⟩=false:=f5
   have c7:V.cell? ⟨g,j,none⟩=some y:=c3
   have f7:V.frozen? ⟨g,j,none⟩=false:=f3
   have hne:g≠V.heap.size:=by have:=cell_lt c7;simp at this;omega
   have hne2:V.heap.size≠g:=fun e=>hne e.symm
   have HA:Hid (Mem w (V.drew.alloc (.cells (madeCells (Value.agg #[.int .u32 0,.int .u32 0]).cells (n * 2)) 122)) L):=hM3.sub.sub
   clear hSp hS C hSP hc0 hM hM1 hj co hM2 hM3 h0
   obtain ⟨Y,hY⟩:∃ Y,madeCells (Value.agg #[.int .u32 0,.int .u32 0]).cells (n * 2)=Y:=⟨_,rfl⟩
   rw [hY] at HM4 c5 f5 HA c6 f6
   simp only [hY] at hmk
   have HY:Hid (madeCells (Value.agg #[.int .u32 0,.int .u32 0]).cells (n * 2)=Y):=hY
   clear hY
   have hmk2:=hmk V.drew
   go_upto_region 3 with fail
   go_region_held3 (fun V=>V.cell? ⟨bo,0,none⟩=some (.func (.func ko) #[] #[])∧V.cell? ⟨b0,off,none⟩=some (.int .u8 n)) (first | assumption | exact KS.out _ HA.out | exact KS.out _ HM4.out.sub.sub | go_keep)
    (first | (go_at_fn ko;refine (ho _).mono ?_;rintro e V ⟨rfl,rfl⟩))
   all_goals
    go_wp2_with fail
    go_ret2
    refine ⟨a2,k2,rfl,hq,Or.inr ⟨hpos2,V.heap.size,?_⟩⟩
    rw [HY.out]
    exact HM4.out
theorem counted_TU (W:World) (a:Option Addr) (n c:Nat) (hc:n≤c) (hb:c≤9223372036854775807) (ha:a=none→c=0) :
  Calls Tryz.prog 289 #[.slice a n c] W fun e W'=>e=.returned (.slice a (min n 255) c)∧W=W':=by
 by_cases h:n≤255
 ·have h1:(n:Int)≤255:=by omega
  have h2:¬ ((255:Int) < n):=by omega
  have h3:(n:Int)≤c:=by omega
  rw [Nat.min_eq_left h]
  cases a with
  | none =>
   obtain rfl:c=0:=ha rfl
   obtain rfl:n=0:=by omega
   go_enter Tryz.func289,Tryz.ntmps289
   go_wp2_with fail
   go_ret
   exact ⟨rfl,rfl⟩
  | some ad =>
   go_enter Tryz.func289,Tryz.ntmps289
   go_wp2_with fail
   go_ret
   exact ⟨rfl,rfl⟩
 ·have h1:¬ ((n:Int)≤255):=by omega
  have h2:(255:Int) < n:=by omega
  have h3:(255:Int)≤c:=by omega
  rw [Nat.min_eq_right (by omega)]
  cases a with
  | none =>
   obtain rfl:c=0:=ha rfl
   omega
  | some ad =>
   go_enter Tryz.func289,Tryz.ntmps289
   go_wp2_with fail
   go_ret
   exact ⟨rfl,rfl⟩
theorem cwr_TU {w W:World} {v:Value} {l:List Int} {L:List (Nat×Obj)} (h:Out w W v l L) (bo ko:Nat) (p p':Addr) (a:Option Addr) (n c:Nat) (hc:n≤c) (hcb:c≤9223372036854775807) (ha:a=none→c=0)
  (co:∀ V,Mem w V L→V.cell? ⟨bo,0,none⟩=some (.func (.func ko) #[] #[]))
  (eo:∀ args V,(callFunc ko args).run Tryz.prog V=.ok (.enter ko args) V) (ho:∀ V,Calls Tryz.prog ko #[.pointer (some p)] V fun e V'=>e=.returned (.pointer (some p'))∧V=V')
  (cx:∀ V,Mem w V L→V.cell? p'=some (.slice a n c)) (hb:l.length+1≤1000000000) :
  Calls Tryz.prog 288 #[v,.pointer (some p),.pointer (some ⟨bo,0,none⟩)] W fun e W'=>∃ v',e=.returned v'∧Out w W' v' (l++[((min n 255:Nat):Int)]) L:=by
 have c2:=co _ h.mem
 have c3:=cx _ h.mem
 have CC:=counted_TU W a n c hc hcb ha
 have hk:min n 255≤255:=Nat.min_le_right _ _
 generalize min n 255=k at CC hk
 have e1:IntKind.u8.wrap (k:Int)=k:=by rw [wrapu8];omega
 have e2:(k:Int) % 256=k:=by omega
 obtain ⟨v1,W1,hr1,hO1⟩:=out_one h (k:Int) (by omega) (by omega) 86
 have HO:Hid (Out w W1 v1 (l++[(k:Int)]) L):=hO1
 clear h co cx hO1
 go_enter Tryz.func288,Tryz.ntmps288
 go_wp2_with fail
 refine (ho _).mono ?_
 rintro e V ⟨rfl,rfl⟩
 go_wp2_with fail
 refine CC.mono ?_
 rintro e V ⟨rfl,rfl⟩
 go_wp2_with (at_builtin;refine wpList_append_run (.tmp 6) (.tmp 15) 86 86 (by with_reducible rfl) hr1 rfl rfl (by simp [Act.eval]) (by simp [Act.eval]) ?_)
 go_ret
 exact ⟨_,rfl,HO.out⟩
theorem csm_TU {w W:World} {L:List (Nat×Obj)} (h:Mem w W L) (bo ko:Nat) (p p' q q':Addr) (a a':Option Addr) (n n' c c':Nat)
  (co:∀ V,Mem w V L→V.cell? ⟨bo,0,none⟩=some (.func (.func ko) #[] #[]))
  (eo:∀ args V,(callFunc ko args).run Tryz.prog V=.ok (.enter ko args) V) (ho:∀ V,Calls Tryz.prog ko #[.pointer (some p)] V fun e V'=>e=.returned (.pointer (some p'))∧V=V')
  (hq:∀ V,Calls Tryz.prog ko #[.pointer (some q)] V fun e V'=>e=.returned (.pointer (some q'))∧V=V')
  (cx:∀ V,Mem w V L→V.cell? p'=some (.slice a n c)) (cy:∀ V,Mem w V L→V.cell? q'=some (.slice a' n' c')) :
  Calls Tryz.prog 291 #[.pointer (some p),.pointer (some q),.pointer (some ⟨bo,0,none⟩)] W fun e W'=>e=.returned (.bool (decide (n=n')))∧Mem w W' L:=by
 have HM:Hid (Mem w W.drew L):=h.drew
 have c2:=co _ HM.out
 have c3:=cx _ HM.out
 have c4:=cy _ HM.out
 obtain ⟨D,hD⟩:∃ D,decide (n=n')=D:=⟨_,rfl⟩
 have hD2:((n:Int) == (n':Int))=D:=by
  rw [←hD]
  by_cases e:n=n'
  ·subst e;simp
  ·rw [decide_eq_false e];simp;omega
 rw [hD]
 clear h co cx cy hD
 go_enter Tryz.func291,Tryz.ntmps291
 go_upto_region 1 with fail
 go_region_held3 (fun V=>V.cell? ⟨bo,0,none⟩=some (.func (.func ko) #[] #[])∧V.cell? p'=some (.slice a n c)∧V.cell? q'=some (.slice a' n' c')) (go_keep)
  (first | (go_at_fn ko;with_reducible refine (ho _).mono ?_;rintro e V ⟨rfl,rfl⟩) | (go_at_fn ko;with_reducible refine (hq _).mono ?_;rintro e V ⟨rfl,rfl⟩))
 go_wp2_with fail
 go_ret
 exact ⟨rfl,HM.out⟩
def CMade_TU (w W:World) (g:Nat) (A:Array Value) (T:TypeId) (j:Nat) (L:List (Nat×Obj)) (m:Nat):Prop :=
 (m=0∧Mem w W ((g,.cells A T (0,0))::L))∨(0 < m∧∃ h,Mem w W ((g,.cells (A.setIfInBounds j (.slice (some ⟨h,0,none⟩) m m)) T (0,0))::(h,.cells (madeCells (Value.int .u32 0).cells (m * 1)) 33)::L))
theorem crd_TU {w W:World} {a:Option Addr} {l:List Int} {c:Nat} {L:List (Nat×Obj)} {g:Nat} {A:Array Value} {T:TypeId} (hM:Mem w W ((g,.cells A T (0,0))::L)) (hS:Sl w a l c) (bo ko j:Nat) (p:Addr) (y:Value)
  (hj:A[j]? = some y)
  (co:∀ V,Mem w V L→V.cell? ⟨bo,0,none⟩=some (.func (.func ko) #[] #[]))
  (eo:∀ args V,(callFunc ko args).run Tryz.prog V=.ok (.enter ko args) V) (ho:∀ V,Calls Tryz.prog ko #[.pointer (some p)] V fun e V'=>e=.returned (.pointer (some ⟨g,j,none⟩))∧V=V') :
  Calls Tryz.prog 290 #[.slice a l.length c,.pointer (some p),.pointer (some ⟨bo,0,none⟩)] W (RPost w L (fun m W'=>CMade_TU w W' g A T j L m) (match l with | []=>none | b::r=>some (b.toNat,r))):=by
 cases l with
 | nil =>
  have C:=split_no W a 0 c 1 (by omega) (by omega)
  go_enter Tryz.func290,Tryz.ntmps290
  go_wp2_with fail
  refine C.mono ?_
  rintro e V ⟨rfl,rfl⟩
  go_wp2_with fail
  go_ret2
  exact ⟨rfl,hM.sub⟩
 | cons b r =>
  have C:=split_yes (hM.sl hS) 1 (by simp) (by omega)
  have hbb:0≤b∧b≤255:=by have:=hS.row.bytes 0;simpa using this
  obtain ⟨n,hn⟩:∃ n:Nat,(b:Int)=n:=⟨b.toNat,by omega⟩
  subst hn
  have hSP:∀ V,Mem w V ((g,.cells A T (0,0))::L)→∀ a1 k1 a2 k2,(∀ V,Sl V a ((n:Int)::r) c→Sl V a1 (((n:Int)::r).take 1) k1∧Sl V a2 (((n:Int)::r).drop 1) k2) →
    Sl w a2 r k2∧∃ b0 off,a1=some ⟨b0,off,none⟩∧∀ V,Mem w V L→V.cell? ⟨b0,off,none⟩=some (.int .u8 n):=by
   intro V hM1 a1 k1 a2 k2 hSp
   have hp:=(hSp w hS).1
   have hq:=(hSp w hS).2
   simp only [List.take_succ_cons,List.take_zero,List.drop_succ_cons,List.drop_zero] at hp hq
   refine ⟨hq,?_⟩
   rcases hp.row.cells with e | ⟨b0,off,e,hc⟩
   ·simp at e
   ·refine ⟨b0,off,e,fun V hV=>?_⟩
    have h1:=hc 0 (by simp)
    rw [hV.old (cell_lt h1)]
    simpa using h1
  by_cases h0:n=0
  ·subst h0
   simp only [Int.cast_ofNat_Int,Int.toNat_zero] at *
   go_enter Tryz.func290,Tryz.ntmps290
   go_wp2_with fail
   refine C.mono ?_
   rintro e V ⟨v1,v2,rfl,⟨a1,k1,a2,k2,rfl,rfl,hSp⟩,q,rfl⟩
   have hM1:=hM.drewN q
   generalize W.drewN q=V at hM1
   obtain ⟨hq,b0,off,rfl,hc0⟩:=hSP V hM1 _ _ _ _ hSp
   have c0:=hc0 V hM1.sub
   clear hSp hS C hSP hc0
   go_wp2_with fail
   go_ret2
   exact ⟨a2,k2,rfl,hq,Or.inl ⟨rfl,hM1⟩⟩
  ·have hpos:(0:Int) < n:=by omega
   have hpos2:0 < n:=by omega
   simp only [Int.toNat_natCast]
   go_enter Tryz.func290,Tryz.ntmps290
   go_wp2_with fail
   refine C.mono ?_
   rintro e V ⟨v1,v2,rfl,⟨a1,k1,a2,k2,rfl,rfl,hSp⟩,q,rfl⟩
   have hM1:=hM.drewN q
   generalize W.drewN q=V at hM1
   obtain ⟨hq,b0,off,rfl,hc0⟩:=hSP V hM1 _ _ _ _ hSp
   have c0:=hc0 V hM1.sub
   have hM2:=hM1.drew
   have c1:=hc0 _ hM2.sub
   have c2:=co _ hM2.sub
   have c3:=(hM2.cell 0 rfl j).trans hj
   have f3:=hM2.free 0 rfl j
   have KS:Hid (∀ V,Mem w V L→V.cell? ⟨bo,0,none⟩=some (.func (.func ko) #[] #[])∧V.cell? ⟨b0,off,none⟩=some (.int .u8 n)):=fun V hV=>⟨co V hV,hc0 V hV⟩
   obtain ⟨i0,hi0,hz0,hs0,hby0⟩:=info_parts infoU
   have hmk:∀ V:World,(Instr.makeSlice 43 (.int .u8 (n:Int)) (.int .u8 (n:Int))).run Tryz.prog V=.ok (.slice (some ⟨V.heap.size,0,none⟩) n n) (V.alloc (.cells (madeCells (Value.int .u32 0).cells (n * 1)) 33)):=by
    intro V
    have:=run_make (P:=Tryz.prog) V 43 33 i0 (Value.int .u32 0) Tryz.underlying43 hi0 hz0 .u8 .u8 n n (by omega) (by omega) (by rw [hby0];omega) (by omega)
    rw [hs0,Int.toNat_natCast] at this
    exact this
   clear hi0 hz0 hs0 hby0
   have hM3:Mem w (V.drew.alloc (.cells (madeCells (Value.int .u32 0).cells (n * 1)) 33)) ((g,.cells A T (0,0))::(V.heap.size,.cells (madeCells (Value.int .u32 0).cells (n * 1)) 33)::L) :=
    (hM2.push V.heap.size _ rfl).perm (by
     refine List.Perm.trans List.perm_append_comm ?_
     exact List.Perm.swap _ _ _)
   have HM4:Hid (Mem w ((V.drew.alloc (.cells (madeCells (Value.int .u32 0).cells (n * 1)) 33)).setCell ⟨g,j,none⟩ (.slice (some ⟨V.heap.size,0,none⟩) n n)) ((g,.cells (A.setIfInBounds j (.slice (some ⟨V.heap.size,0,none⟩) n n)) T (0,0))::(V.heap.size,.cells (madeCells (Value.int .u32 0).cells (n * 1)) 33)::L)):=by
    have:=hM3.set 0 rfl j (.slice (some ⟨V.heap.size,0,none⟩) n n)
    exact this
   have c5:=(hM3.cell 0 rfl j).trans hj
   have f5:=hM3.free 0 rfl j
   have c6:(V.alloc (.cells (madeCells (Value.int .u32 0).cells (n * 1)) 33)).cell? ⟨g,j,none⟩=some y:=c5
   have f6:(V.alloc (.cells (madeCells (Value.int .u32 0).cells (n * 1)) 33)).frozen? ⟨g,j,none⟩=false:=f5
   have c7:V.cell? ⟨g,j,none⟩=some y:=c3
   have f7:V.frozen? ⟨g,j,none⟩=false:=f3
   have hne:g≠V.heap.size:=by have:=cell_lt c7;simp at this;omega
   have hne2:V.heap.size≠g:=fun e=>hne e.symm
   have HA:Hid (Mem w (V.drew.alloc (.cells (madeCells (Value.int .u32 0).cells (n * 1)) 33)) L):=hM3.sub.sub
   clear hSp hS C hSP hc0 hM hM1 hj co hM2 hM3 h0
   obtain ⟨Y,hY⟩:∃ Y,madeCells (Value.int .u32 0).cells (n * 1)=Y:=⟨_,rfl⟩
   rw [hY] at HM4 c5 f5 HA c6 f6
   simp only [hY] at hmk
   have HY:Hid (madeCells (Value.int .u32 0).cells (n * 1)=Y):=hY
   clear hY
   have hmk2:=hmk V.drew
   go_upto_region 3 with fail
   go_region_held3 (fun V=>V.cell? ⟨bo,0,none⟩=some (.func (.func ko) #[] #[])∧V.cell? ⟨b0,off,none⟩=some (.int .u8 n)) (first | assumption | exact KS.out _ HA.out | exact KS.out _ HM4.out.sub.sub | go_keep)
    (first | (go_at_fn ko;refine (ho _).mono ?_;rintro e V ⟨rfl,rfl⟩))
   all_goals
    go_wp2_with fail
    go_ret2
    refine ⟨a2,k2,rfl,hq,Or.inr ⟨hpos2,V.heap.size,?_⟩⟩
    rw [HY.out]
    exact HM4.out
theorem counted_CT (W:World) (a:Option Addr) (n c:Nat) (hc:n≤c) (hb:c≤9223372036854775807) (ha:a=none→c=0) :
  Calls Tryz.prog 219 #[.slice a n c] W fun e W'=>e=.returned (.slice a (min n 255) c)∧W=W':=by
 by_cases h:n≤255
 ·have h1:(n:Int)≤255:=by omega
  have h2:¬ ((255:Int) < n):=by omega
  have h3:(n:Int)≤c:=by omega
  rw [Nat.min_eq_left h]
  cases a with
  | none =>
   obtain rfl:c=0:=ha rfl
   obtain rfl:n=0:=by omega
   go_enter Tryz.func219,Tryz.ntmps219
   go_wp2_with fail
   go_ret
   exact ⟨rfl,rfl⟩
  | some ad =>
   go_enter Tryz.func219,Tryz.ntmps219
   go_wp2_with fail
   go_ret
   exact ⟨rfl,rfl⟩
 ·have h1:¬ ((n:Int)≤255):=by omega
  have h2:(255:Int) < n:=by omega
  have h3:(255:Int)≤c:=by omega
  rw [Nat.min_eq_right (by omega)]
  cases a with
  | none =>
   obtain rfl:c=0:=ha rfl
   omega
  | some ad =>
   go_enter Tryz.func219,Tryz.ntmps219
   go_wp2_with fail
   go_ret
   exact ⟨rfl,rfl⟩
theorem cwr_CT {w W:World} {v:Value} {l:List Int} {L:List (Nat×Obj)} (h:Out w W v l L) (bo ko:Nat) (p p':Addr) (a:Option Addr) (n c:Nat) (hc:n≤c) (hcb:c≤9223372036854775807) (ha:a=none→c=0)
  (co:∀ V,Mem w V L→V.cell? ⟨bo,0,none⟩=some (.func (.func ko) #[] #[]))
  (eo:∀ args V,(callFunc ko args).run Tryz.prog V=.ok (.enter ko args) V) (ho:∀ V,Calls Tryz.prog ko #[.pointer (some p)] V fun e V'=>e=.returned (.pointer (some p'))∧V=V')
  (cx:∀ V,Mem w V L→V.cell? p'=some (.slice a n c)) (hb:l.length+1≤1000000000) :
  Calls Tryz.prog 218 #[v,.pointer (some p),.pointer (some ⟨bo,0,none⟩)] W fun e W'=>∃ v',e=.returned v'∧Out w W' v' (l++[((min n 255:Nat):Int)]) L:=by
 have c2:=co _ h.mem
 have c3:=cx _ h.mem
 have CC:=counted_CT W a n c hc hcb ha
 have hk:min n 255≤255:=Nat.min_le_right _ _
 generalize min n 255=k at CC hk
 have e1:IntKind.u8.wrap (k:Int)=k:=by rw [wrapu8];omega
 have e2:(k:Int) % 256=k:=by omega
 obtain ⟨v1,W1,hr1,hO1⟩:=out_one h (k:Int) (by omega) (by omega) 86
 have HO:Hid (Out w W1 v1 (l++[(k:Int)]) L):=hO1
 clear h co cx hO1
 go_enter Tryz.func218,Tryz.ntmps218
 go_wp2_with fail
 refine (ho _).mono ?_
 rintro e V ⟨rfl,rfl⟩
 go_wp2_with fail
 refine CC.mono ?_
 rintro e V ⟨rfl,rfl⟩
 go_wp2_with (at_builtin;refine wpList_append_run (.tmp 6) (.tmp 15) 86 86 (by with_reducible rfl) hr1 rfl rfl (by simp [Act.eval]) (by simp [Act.eval]) ?_)
 go_ret
 exact ⟨_,rfl,HO.out⟩
theorem csm_CT {w W:World} {L:List (Nat×Obj)} (h:Mem w W L) (bo ko:Nat) (p p' q q':Addr) (a a':Option Addr) (n n' c c':Nat)
  (co:∀ V,Mem w V L→V.cell? ⟨bo,0,none⟩=some (.func (.func ko) #[] #[]))
  (eo:∀ args V,(callFunc ko args).run Tryz.prog V=.ok (.enter ko args) V) (ho:∀ V,Calls Tryz.prog ko #[.pointer (some p)] V fun e V'=>e=.returned (.pointer (some p'))∧V=V')
  (hq:∀ V,Calls Tryz.prog ko #[.pointer (some q)] V fun e V'=>e=.returned (.pointer (some q'))∧V=V')
  (cx:∀ V,Mem w V L→V.cell? p'=some (.slice a n c)) (cy:∀ V,Mem w V L→V.cell? q'=some (.slice a' n' c')) :
  Calls Tryz.prog 221 #[.pointer (some p),.pointer (some q),.pointer (some ⟨bo,0,none⟩)] W fun e W'=>e=.returned (.bool (decide (n=n')))∧Mem w W' L:=by
 have HM:Hid (Mem w W.drew L):=h.drew
 have c2:=co _ HM.out
 have c3:=cx _ HM.out
 have c4:=cy _ HM.out
 obtain ⟨D,hD⟩:∃ D,decide (n=n')=D:=⟨_,rfl⟩
 have hD2:((n:Int) == (n':Int))=D:=by
  rw [←hD]
  by_cases e:n=n'
  ·subst e;simp
  ·rw [decide_eq_false e];simp;omega
 rw [hD]
 clear h co cx cy hD
 go_enter Tryz.func221,Tryz.ntmps221
 go_upto_region 1 with fail
 go_region_held3 (fun V=>V.cell? ⟨bo,0,none⟩=some (.func (.func ko) #[] #[])∧V.cell? p'=some (.slice a n c)∧V.cell? q'=some (.slice a' n' c')) (go_keep)
  (first | (go_at_fn ko;with_reducible refine (ho _).mono ?_;rintro e V ⟨rfl,rfl⟩) | (go_at_fn ko;with_reducible refine (hq _).mono ?_;rintro e V ⟨rfl,rfl⟩))
 go_wp2_with fail
 go_ret
 exact ⟨rfl,HM.out⟩
def CMade_CT (w W:World) (g:Nat) (A:Array Value) (T:TypeId) (j:Nat) (L:List (Nat×Obj)) (m:Nat):Prop :=
 (m=0∧Mem w W ((g,.cells A T (0,0))::L))∨(0 < m∧∃ h,Mem w W ((g,.cells (A.setIfInBounds j (.slice (some ⟨h,0,none⟩) m m)) T (0,0))::(h,.cells (madeCells (Value.agg (tc ten0 nilV nilV nilV).toArray).cells (m * 33)) 46)::L))
theorem crd_CT {w W:World} {a:Option Addr} {l:List Int} {c:Nat} {L:List (Nat×Obj)} {g:Nat} {A:Array Value} {T:TypeId} (hM:Mem w W ((g,.cells A T (0,0))::L)) (hS:Sl w a l c) (bo ko j:Nat) (p:Addr) (y:Value)
  (hj:A[j]? = some y)
  (co:∀ V,Mem w V L→V.cell? ⟨bo,0,none⟩=some (.func (.func ko) #[] #[]))
  (eo:∀ args V,(callFunc ko args).run Tryz.prog V=.ok (.enter ko args) V) (ho:∀ V,Calls Tryz.prog ko #[.pointer (some p)] V fun e V'=>e=.returned (.pointer (some ⟨g,j,none⟩))∧V=V') :
  Calls Tryz.prog 220 #[.slice a l.length c,.pointer (some p),.pointer (some ⟨bo,0,none⟩)] W (RPost w L (fun m W'=>CMade_CT w W' g A T j L m) (match l with | []=>none | b::r=>some (b.toNat,r))):=by
 cases l with
 | nil =>
  have C:=split_no W a 0 c 1 (by omega) (by omega)
  go_enter Tryz.func220,Tryz.ntmps220
  go_wp2_with fail
  refine C.mono ?_
  rintro e V ⟨rfl,rfl⟩
  go_wp2_with fail
  go_ret2
  exact ⟨rfl,hM.sub⟩
 | cons b r =>
  have C:=split_yes (hM.sl hS) 1 (by simp) (by omega)
  have hbb:0≤b∧b≤255:=by have:=hS.row.bytes 0;simpa using this
  obtain ⟨n,hn⟩:∃ n:Nat,(b:Int)=n:=⟨b.toNat,by omega⟩
  subst hn
  have hSP:∀ V,Mem w V ((g,.cells A T (0,0))::L)→∀ a1 k1 a2 k2,(∀ V,Sl V a ((n:Int)::r) c→Sl V a1 (((n:Int)::r).take 1) k1∧Sl V a2 (((n:Int)::r).drop 1) k2) →
    Sl w a2 r k2∧∃ b0 off,a1=some ⟨b0,off,none⟩∧∀ V,Mem w V L→V.cell? ⟨b0,off,none⟩=some (.int .u8 n):=by
   intro V hM1 a1 k1 a2 k2 hSp
   have hp:=(hSp w hS).1
   have hq:=(hSp w hS).2
   simp only [List.take_succ_cons,List.take_zero,List.drop_succ_cons,List.drop_zero] at hp hq
   refine ⟨hq,?_⟩
   rcases hp.row.cells with e | ⟨b0,off,e,hc⟩
   ·simp at e
   ·refine ⟨b0,off,e,fun V hV=>?_⟩
    have h1:=hc 0 (by simp)
    rw [hV.old (cell_lt h1)]
    simpa using h1
  by_cases h0:n=0
  ·subst h0
   simp only [Int.cast_ofNat_Int,Int.toNat_zero] at *
   go_enter Tryz.func220,Tryz.ntmps220
   go_wp2_with fail
   refine C.mono ?_
   rintro e V ⟨v1,v2,rfl,⟨a1,k1,a2,k2,rfl,rfl,hSp⟩,q,rfl⟩
   have hM1:=hM.drewN q
   generalize W.drewN q=V at hM1
   obtain ⟨hq,b0,off,rfl,hc0⟩:=hSP V hM1 _ _ _ _ hSp
   have c0:=hc0 V hM1.sub
   clear hSp hS C hSP hc0
   go_wp2_with fail
   go_ret2
   exact ⟨a2,k2,rfl,hq,Or.inl ⟨rfl,hM1⟩⟩
  ·have hpos:(0:Int) < n:=by omega
   have hpos2:0 < n:=by omega
   simp only [Int.toNat_natCast]
   go_enter Tryz.func220,Tryz.ntmps220
   go_wp2_with fail
   refine C.mono ?_
   rintro e V ⟨v1,v2,rfl,⟨a1,k1,a2,k2,rfl,rfl,hSp⟩,q,rfl⟩
   have hM1:=hM.drewN q
   generalize W.drewN q=V at hM1
   obtain ⟨hq,b0,off,rfl,hc0⟩:=hSP V hM1 _ _ _ _ hSp
   have c0:=hc0 V hM1.sub
   have hM2:=hM1.drew
   have c1:=hc0 _ hM2.sub
   have c2:=co _ hM2.sub
   have c3:=(hM2.cell 0 rfl j).trans hj
   have f3:=hM2.free 0 rfl j
   have KS:Hid (∀ V,Mem w V L→V.cell? ⟨bo,0,none⟩=some (.func (.func ko) #[] #[])∧V.cell? ⟨b0,off,none⟩=some (.int .u8 n)):=fun V hV=>⟨co V hV,hc0 V hV⟩
   obtain ⟨i0,hi0,hz0,hs0,hby0⟩:=info_parts infoT
   have hmk:∀ V:World,(Instr.makeSlice 37 (.int .u8 (n:Int)) (.int .u8 (n:Int))).run Tryz.prog V=.ok (.slice (some ⟨V.heap.size,0,none⟩) n n) (V.alloc (.cells (madeCells (Value.agg (tc ten0 nilV nilV nilV).toArray).cells (n * 33)) 46)):=by
    intro V
    have:=run_make (P:=Tryz.prog) V 37 46 i0 (Value.agg (tc ten0 nilV nilV nilV).toArray) Tryz.underlying37 hi0 hz0 .u8 .u8 n n (by omega) (by omega) (by rw [hby0];omega) (by omega)
    rw [hs0,Int.toNat_natCast] at this
    exact this
   clear hi0 hz0 hs0 hby0
   have hM3:Mem w (V.drew.alloc (.cells (madeCells (Value.agg (tc ten0 nilV nilV nilV).toArray).cells (n * 33)) 46)) ((g,.cells A T (0,0))::(V.heap.size,.cells (madeCells (Value.agg (tc ten0 nilV nilV nilV).toArray).cells (n * 33)) 46)::L) :=
    (hM2.push V.heap.size _ rfl).perm (by
     refine List.Perm.trans List.perm_append_comm ?_
     exact List.Perm.swap _ _ _)
   have HM4:Hid (Mem w ((V.drew.alloc (.cells (madeCells (Value.agg (tc ten0 nilV nilV nilV).toArray).cells (n * 33)) 46)).setCell ⟨g,j,none⟩ (.slice (some ⟨V.heap.size,0,none⟩) n n)) ((g,.cells (A.setIfInBounds j (.slice (some ⟨V.heap.size,0,none⟩) n n)) T (0,0))::(V.heap.size,.cells (madeCells (Value.agg (tc ten0 nilV nilV nilV).toArray).cells (n * 33)) 46)::L)):=by
    have:=hM3.set 0 rfl j (.slice (some ⟨V.heap.size,0,none⟩) n n)
    exact this
   have c5:=(hM3.cell 0 rfl j).trans hj
   have f5:=hM3.free 0 rfl j
   have c6:(V.alloc (.cells (madeCells (Value.agg (tc ten0 nilV nilV nilV).toArray).cells (n * 33)) 46)).cell? ⟨g,j,none⟩=some y:=c5
   have f6:(V.alloc (.cells (madeCells (Value.agg (tc ten0 nilV nilV nilV).toArray).cells (n * 33)) 46)).frozen? ⟨g,j,none⟩=false:=f5
   have c7:V.cell? ⟨g,j,none⟩=some y:=c3
   have f7:V.frozen? ⟨g,j,none⟩=false:=f3
   have hne:g≠V.heap.size:=by have:=cell_lt c7;simp at this;omega
   have hne2:V.heap.size≠g:=fun e=>hne e.symm
   have HA:Hid (Mem w (V.drew.alloc (.cells (madeCells (Value.agg (tc ten0 nilV nilV nilV).toArray).cells (n * 33)) 46)) L):=hM3.sub.sub
   clear hSp hS C hSP hc0 hM hM1 hj co hM2 hM3 h0
   obtain ⟨Y,hY⟩:∃ Y,madeCells (Value.agg (tc ten0 nilV nilV nilV).toArray).cells (n * 33)=Y:=⟨_,rfl⟩
   rw [hY] at HM4 c5 f5 HA c6 f6
   simp only [hY] at hmk
   have HY:Hid (madeCells (Value.agg (tc ten0 nilV nilV nilV).toArray).cells (n * 33)=Y):=hY
   clear hY
   have hmk2:=hmk V.drew
   go_upto_region 3 with fail
   go_region_held3 (fun V=>V.cell? ⟨bo,0,none⟩=some (.func (.func ko) #[] #[])∧V.cell? ⟨b0,off,none⟩=some (.int .u8 n)) (first | assumption | exact KS.out _ HA.out | exact KS.out _ HM4.out.sub.sub | go_keep)
    (first | (go_at_fn ko;refine (ho _).mono ?_;rintro e V ⟨rfl,rfl⟩))
   all_goals
    go_wp2_with fail
    go_ret2
    refine ⟨a2,k2,rfl,hq,Or.inr ⟨hpos2,V.heap.size,?_⟩⟩
    rw [HY.out]
    exact HM4.out
end Go.Proofs.YtdigofgjhaakmaaGreatDoor
namespace Go.Proofs.YtdigofgjhaakmaaGreatDoor
open Go.RowKit
open Sm
theorem quiet_eq {P:Program} {f:FuncId} {args:Array Value} {w:World} {n:Nat} {v:Value} (h:Calls P f args (w.drewN n) fun e w'=>e=.returned v∧w.drewN n=w'):Calls P f args (w.drewN n) fun e w''=>e=.returned v∧∃ m,w''=w.drewN m :=
 h.mono fun _ _ ⟨he,hm⟩=>⟨he,n,hm.symm⟩
abbrev pcT:TypeId:=184
abbrev pcA (t c i n:Int) (v:Value):Array Value:=#[.int .u64 t,.int .i64 c,.int .i64 i,.int .i64 n,v]
abbrev pc0:Array Value:=pcA 0 0 0 0 (.slice none 0 0)
theorem Row.sl {w:World} {g off:Nat} {l:List Int} (h:Row w (some ⟨g,off,none⟩) l) (lo hi:Nat) (h1:lo≤hi) (h2:hi≤l.length):Row w (some ⟨g,off+lo,none⟩) (sl l lo hi):=h.part lo (hi - lo) (by omega)
section
variable {W:World} {g c m:Nat} {b:List Int} {E:Value}
set_option maxRecDepth 20000 in
theorem unf_bad (hlen:b.length=m) (hm0:256≤m) (hm1:m≤65536) (hr:Row W (some ⟨g,0,none⟩) b) (hcap:m≤c) {t:TypeId} {v:Value} (hgl:W.cell? ⟨0,0,none⟩=some (.iface t v))
  (hno:b.getD 0 0≠165∨b.getD (m - 1) 0≠165∨(m:Int) - 64 < gt (sl b 23 27)) :
  Calls Tryz.prog 162 #[.slice (some ⟨g,0,none⟩) m c] W fun e W'=>e=.returned (.tuple #[.agg pc0,.iface t v])∧∃ K,Mem W W' K:=by
 have hM:Mem W (W.alloc (.cells pc0 pcT)) [(W.heap.size,.cells pc0 pcT (0,0))]:=(Mem.nil W).push1 rfl
 have hr1:Row (W.alloc (.cells pc0 pcT)) (some ⟨g,0,none⟩) b:=row_alloc hr
 have hgl1:(W.alloc (.cells pc0 pcT)).cell? ⟨0,0,none⟩=some (.iface t v):=by rw [←hgl];exact hM.old (cell_lt hgl)
 have kr:=hM.cell 0 rfl
 have kf:=hM.free 0 rfl
 have HM:Hid (Mem W (W.alloc (.cells pc0 pcT)) [(W.heap.size,.cells pc0 pcT (0,0))]):=hM
 have hne:=cell_lt hgl
 generalize hw1:W.alloc (.cells pc0 pcT)=w1 at *
 have c0:=hr1.cellAt 0 (by omega)
 have cl:=hr1.cellAt (m - 1) (by omega)
 simp only [Nat.zero_add] at c0 cl
 have hG:=lget_any (n:=4) (by rw [sl_length _ _ _ (by omega)]) (hr1.sl 23 27 (by omega) (by omega)) (by omega) (c - 23)
 simp only [Nat.zero_add] at hG
 have hz:=gt_range (sl b 23 27) (sl_bytes hr.bytes 23 27)
 rw [sl_length _ _ _ (by omega)] at hz
 have hz1:gt (sl b 23 27) < 4294967296:=hz.2
 have hz0:=hz.1
 generalize b.getD 0 0=X0 at *
 generalize b.getD (m - 1) 0=XL at *
 generalize gt (sl b 23 27)=Z at *
 have q23:(23:Int) < c:=by omega
 have q27:(27:Int)≤c:=by omega
 have qm:(0:Int) < m:=by omega
 have qm1:((m:Int) - 1).toNat=m - 1:=by omega
 have qw:IntKind.i64.wrap ((m:Int) - 1)=(m:Int) - 1:=by rw [IntKind.wrap_i64];omega
 clear hM hr hr1 hz hgl
 go_enter Tryz.func162,Tryz.ntmps162
 go_wp2_with fail
 refine hG.mono ?_
 rintro e w' ⟨rfl,rfl⟩
 have fin:Hid (Mem W (((((w1.setCell ⟨W.heap.size,0,none⟩ (.int .u64 0)).setCell ⟨W.heap.size,1,none⟩ (.int .i64 0)).setCell ⟨W.heap.size,2,none⟩ (.int .i64 0)).setCell ⟨W.heap.size,3,none⟩ (.int .i64 0)).setCell ⟨W.heap.size,4,none⟩ (.slice none 0 0)).drew _) :=
  (((((HM.out.set 0 rfl 0 _).set 0 rfl 1 _).set 0 rfl 2 _).set 0 rfl 3 _).set 0 rfl 4 _).drew
 clear HM
 by_cases h0:X0=165
 ·by_cases hl:XL=165
  ·have hZ:(m:Int) - 64 < Z:=by simpa [h0,hl] using hno
   have b0:(X0 != 165)=false:=by simpa using h0
   have b1:(XL != 165)=false:=by simpa using hl
   have qm2:IntKind.u64.wrap ((m:Int) - 64)=(m:Int) - 64:=wraps_u64 _ (by omega) (by omega)
   clear hno hl h0
   go_wp2_with fail
   go_region
   all_goals go_wp2
   exact bodyPost_ret (v:=.tuple #[.agg pc0,.iface t v]) (by simp [results,Tryz.results162,go_sem,kr]) rfl ⟨rfl,_,fin.out⟩
  ·have b0:(X0 != 165)=false:=by simpa using h0
   have b1:(XL != 165)=true:=by simpa using hl
   clear hno hl h0
   go_wp2_with fail
   go_region
   all_goals go_wp2
   exact bodyPost_ret (v:=.tuple #[.agg pc0,.iface t v]) (by simp [results,Tryz.results162,go_sem,kr]) rfl ⟨rfl,_,fin.out⟩
 ·have b0:(X0 != 165)=true:=by simpa using h0
  clear hno
  go_wp2_with fail
  go_region
  all_goals go_wp2
  exact bodyPost_ret (v:=.tuple #[.agg pc0,.iface t v]) (by simp [results,Tryz.results162,go_sem,kr]) rfl ⟨rfl,_,fin.out⟩
set_option maxRecDepth 20000 in
theorem unf_sum (hlen:b.length=m) (hm0:256≤m) (hm1:m≤65536) (hr:Row W (some ⟨g,0,none⟩) b) (hcap:m≤c) {t:TypeId} {v:Value} (hgl:W.cell? ⟨0,0,none⟩=some (.iface t v))
  (h0:b.getD 0 0=165) (hl:b.getD (m - 1) 0=165) {L:Nat} (hZ:gt (sl b 23 27)=L) (hL:L+64≤m) (hno:crc (sl b 5 (63+L))≠gt (sl b 1 5)) :
  Calls Tryz.prog 162 #[.slice (some ⟨g,0,none⟩) m c] W fun e W'=>e=.returned (.tuple #[.agg pc0,.iface t v])∧∃ K,Mem W W' K:=by
 have hM:Mem W (W.alloc (.cells pc0 pcT)) [(W.heap.size,.cells pc0 pcT (0,0))]:=(Mem.nil W).push1 rfl
 have hr1:Row (W.alloc (.cells pc0 pcT)) (some ⟨g,0,none⟩) b:=row_alloc hr
 have hgl1:(W.alloc (.cells pc0 pcT)).cell? ⟨0,0,none⟩=some (.iface t v):=by rw [←hgl];exact hM.old (cell_lt hgl)
 have kr:=hM.cell 0 rfl
 have kf:=hM.free 0 rfl
 have HM:Hid (Mem W (W.alloc (.cells pc0 pcT)) [(W.heap.size,.cells pc0 pcT (0,0))]):=hM
 have hne:=cell_lt hgl
 generalize hw1:W.alloc (.cells pc0 pcT)=w1 at *
 have c0:=hr1.cellAt 0 (by omega)
 have cl:=hr1.cellAt (m - 1) (by omega)
 simp only [Nat.zero_add] at c0 cl
 have hG:=lget_any (n:=4) (by rw [sl_length _ _ _ (by omega)]) (hr1.sl 23 27 (by omega) (by omega)) (by omega) (c - 23)
 simp only [Nat.zero_add] at hG
 have HG1:Hid (∀ k,Calls Tryz.prog 256 #[.slice (some ⟨g,1,none⟩) 4 (c - 1)] (w1.drewN k) fun e w'=>e=.returned (.int .u64 (gt (sl b 1 5)))∧w1.drewN k=w'):=fun k=>by
  have:=lget_any (n:=4) (by rw [sl_length _ _ _ (by omega)]) (row_drewN (n:=k) (hr1.sl 1 5 (by omega) (by omega))) (by omega) (c - 1)
  simpa only [Nat.zero_add] using this
 have HS1:Hid (∀ k,Calls Tryz.prog 147 #[.slice (some ⟨g,5,none⟩) (63+L - 5) (c - 5)] (w1.drewN k) fun e w'=>e=.returned (.int .u32 (crc (sl b 5 (63+L))))∧w1.drewN k=w'):=fun k=>by
  have:=lsum_any (n:=63+L - 5) (by rw [sl_length _ _ _ (by omega)]) (row_drewN (n:=k) (hr1.sl 5 (63+L) (by omega) (by omega))) (c - 5)
  simpa only [Nat.zero_add] using this
 rw [h0] at c0
 rw [hl] at cl
 rw [hZ] at hG
 have hcr:=crc_range (sl b 5 (63+L)) (sl_bytes hr.bytes _ _)
 generalize crc (sl b 5 (63+L))=S at *
 generalize gt (sl b 1 5)=T at *
 have bn:(S != T)=true:=by simpa using hno
 have q23:(23:Int) < c:=by omega
 have q27:(27:Int)≤c:=by omega
 have q1:(1:Int) < c:=by omega
 have q5:(5:Int) < c:=by omega
 have qm:(0:Int) < m:=by omega
 have qm1:((m:Int) - 1).toNat=m - 1:=by omega
 have qw:IntKind.i64.wrap ((m:Int) - 1)=(m:Int) - 1:=by rw [IntKind.wrap_i64];omega
 have qm2:IntKind.u64.wrap ((m:Int) - 64)=(m:Int) - 64:=wraps_u64 _ (by omega) (by omega)
 have qz:¬ ((m:Int) - 64 < (L:Int)):=by omega
 obtain ⟨hcr0,hcr1⟩:=hcr
 clear hM hr hr1 hgl hno h0 hl hZ kr kf
 go_enter Tryz.func162,Tryz.ntmps162
 go_wp2_with fail
 refine hG.mono ?_
 rintro e w' ⟨rfl,rfl⟩
 go_upto_region 5 with fail
 go_quiet (first | (go_at_call 147;exact quiet_eq (HS1.out _)) | (go_at_call 256;exact quiet_eq (HG1.out _)))
 go_upto_region 6 with fail
 refine wp_letter (fun V=>Mem W V [(W.heap.size,.cells pc0 pcT (0,0))]∧V.cell? ⟨0,0,none⟩=some (.iface t v)) ⟨HM.out.drewN _,hgl1⟩ ?_
 rintro wx ⟨hMx,hgx⟩
 have kr:=hMx.cell 0 rfl
 have kf:=hMx.free 0 rfl
 have HMx:Hid (Mem W wx [(W.heap.size,.cells pc0 pcT (0,0))]):=hMx
 clear hMx HM HS1 HG1 hG hgl1 c0 cl
 go_region
 all_goals go_wp2
 exact bodyPost_ret (v:=.tuple #[.agg pc0,.iface t v]) (by simp [results,Tryz.results162,go_sem,kr]) rfl ⟨rfl,_,(((((HMx.out.set 0 rfl 0 _).set 0 rfl 1 _).set 0 rfl 2 _).set 0 rfl 3 _).set 0 rfl 4 _).drew⟩
end
def OwnV (v:Value) (b:List Int) (X:List (Nat×Obj)):Prop :=
 (v=.slice none 0 0∧b=[]∧X=[])∨∃ k:Bk,v=.slice (some ⟨k.g,0,none⟩) b.length k.cap∧k.b=b∧k.Ok b.length∧X=[k.ob]
theorem OwnV.shape {v:Value} {b:List Int} {X:List (Nat×Obj)} (h:OwnV v b X):∃ a c,v=.slice a b.length c∧b.length≤c:=by
 rcases h with ⟨rfl,rfl,rfl⟩ | ⟨k,rfl,_,o,rfl⟩
 ·exact ⟨none,0,rfl,Nat.le_refl _⟩
 ·exact ⟨_,_,rfl,o.cap⟩
theorem OwnV.row {v:Value} {b:List Int} {X R:List (Nat×Obj)} (h:OwnV v b X) {w W:World} (hM:Mem w W (X++R)) (hl:b.length≤140737488351232):∃ a c,v=.slice a b.length c∧b.length≤c∧Row W a b:=by
 rcases h with ⟨rfl,rfl,rfl⟩ | ⟨k,rfl,e,o,rfl⟩
 ·exact ⟨none,0,rfl,Nat.le_refl _,⟨fun i=>by simp,by simp,Or.inl rfl⟩⟩
 ·refine ⟨_,_,rfl,o.cap,⟨by rw [←e];exact o.bytes,hl,Or.inr ⟨k.g,0,rfl,fun j hj=>?_⟩⟩⟩
  have hg:W.heap[k.g]? = some (.cells k.cur 5):=hM.get 0 rfl
  rw [Nat.zero_add,cell_of hg]
  have e2:=congrArg (fun l=>l[j]?) o.here
  have hjb:j < k.b.length:=by rw [e];exact hj
  simp only [List.getElem?_map,List.getElem?_take,if_pos hj,Array.getElem?_toList,List.getElem?_eq_getElem hjb,Option.map_some] at e2
  rw [e2,getD_eq hj]
  simp only [e]
theorem append_zero_nil (W:World) (ad:Addr) (c:Nat) (ty:TypeId):(Builtin.append_ #[86,86] ty #[.slice none 0 0,.slice (some ad) 0 c]).run Tryz.prog W=.ok (.slice none 0 0) W:=by
 obtain ⟨i,hi,hz,hs1,hby⟩:=info_parts info5
 have hf:=run_firstCells_some (P:=Tryz.prog) W i.size 0 ad 0 c [] (by simp) (by simp)
 simp [Builtin.append_,run_underlying Tryz.underlying86,sizeOf,typeInfo,hi,Builtin.lenOf,hf]
theorem append_row {w W:World} {v:Value} {b:List Int} {X R:List (Nat×Obj)} (hM:Mem w W (X++R)) (ho:OwnV v b X) {g off j c:Nat} {l:List Int} (hl:l.length=j) (hr:Row W (some ⟨g,off,none⟩) l) (hb:b.length+j≤1000000000) (ty:TypeId) :
  ∃ v' X' W',(Builtin.append_ #[86,86] ty #[v,.slice (some ⟨g,off,none⟩) j c]).run Tryz.prog W=.ok v' W'∧OwnV v' (b++l) X'∧Mem w W' (X'++R):=by
 obtain ⟨i,hi,hz,hs1,hby⟩:=info_parts info5
 rcases ho with ⟨rfl,rfl,rfl⟩ | ⟨k,rfl,e,o,rfl⟩
 ·by_cases hj:j=0
  ·subst hj
   have:l=[]:=List.eq_nil_of_length_eq_zero hl
   subst this
   exact ⟨_,[],W,append_zero_nil W _ _ _,Or.inl ⟨rfl,rfl,rfl⟩,hM⟩
  ·obtain ⟨g',cap,W',h1,cur,h2,h3⟩:=append_new W hl hr (by omega) c ty
   refine ⟨_,[(g',.cells cur 5)],W',h1,Or.inr ⟨Bk.mk g' cap cur l,by rw [List.nil_append,hl],rfl,by rw [List.nil_append,hl];exact h3,rfl⟩,?_⟩
   exact (hM.join h2).perm List.perm_append_comm
 ·have hg:W.heap[k.g]? = some (.cells k.cur 5):=hM.get 0 rfl
  have hlen:(b++l).length=b.length+j:=by simp [hl]
  have hkb:=o.here
  have hlm:(l.map (Value.int .u8)).length=j:=by simp [hl]
  have htl:(k.cur.toList.take b.length).length=b.length:=by rw [o.here,List.length_map,e]
  by_cases hroom:b.length+j≤k.cap
  ·have h1:=run_append_room (P:=Tryz.prog) W 86 ty 5 i Tryz.underlying86 hi k.g b.length k.cap k.cur hg ⟨g,off,none⟩ j c (l.map (Value.int .u8)) (by rw [hs1];simp;omega) hr.news (ints_oneCell _ _) hroom (by rw [hs1,hlm];have:=o.size;omega)
   refine ⟨_,_,_,h1,Or.inr ⟨Bk.mk k.g k.cap (k.cur.toList.take (b.length * i.size)++l.map (Value.int .u8)++k.cur.toList.drop (b.length * i.size+(l.map (Value.int .u8)).length)).toArray (b++l),by rw [hlen],rfl,⟨by rw [hlen];exact hroom,?_,?_,rfl,lbytes_app (by rw [←e];exact o.bytes) hr.bytes⟩,rfl⟩,?_⟩
   ·have:=o.size
    simp only [List.size_toArray,List.length_append,List.length_take,List.length_drop,Array.length_toList,hlm,hs1];omega
   ·rw [hlen,List.toList_toArray,hs1,Nat.mul_one,List.take_left' (by rw [List.length_append,htl,hlm]),List.map_append,o.here,e]
   ·exact hM.wrote 0 rfl (wrote_setRow W k.g k.cur _ 5 hg)
  ·have holds:∀ q u,(k.cur.toList.take b.length)[q]? = some u→W.cell? ((⟨k.g,0,none⟩:Addr).add q)=some u:=by
    intro q u hq
    have hql:=(List.getElem?_eq_some_iff.mp hq).1
    rw [htl] at hql
    have e:((⟨k.g,0,none⟩:Addr).add q)=⟨k.g,q,none⟩:=by
     by_cases e:q=0
     ·subst e;simp [Addr.add]
     ·simp [Addr.add,e]
    rw [e,cell_of hg]
    rw [List.getElem?_take,if_pos hql] at hq
    simpa using hq
   have h1:=run_append_grow (P:=Tryz.prog) W 86 ty 5 i (.int .u8 0) Tryz.underlying86 hi hz ⟨k.g,0,none⟩ b.length k.cap (k.cur.toList.take b.length) (by rw [hs1,htl];omega) holds ⟨g,off,none⟩ j c (l.map (Value.int .u8)) (by rw [hs1];simp;omega) hr.news (by omega) (by omega) (growslice_fits (by omega) (by rw [hby];omega))
   have hge:=grownCap_ge W (b.length+j) k.cap 5
   refine ⟨_,_,_,h1,Or.inr ⟨Bk.mk W.heap.size (grownCap W (b.length+j) k.cap 5) ((k.cur.toList.take b.length).toArray++(l.map (Value.int .u8)).toArray++Builtin.zeroCells (Value.int .u8 0).cells (grownCap W (b.length+j) k.cap 5 - (b.length+j))) (b++l),by rw [hlen],rfl,⟨by rw [hlen];exact hge,?_,?_,rfl,lbytes_app (by rw [←e];exact o.bytes) hr.bytes⟩,rfl⟩,?_⟩
   ·simp only [Array.size_append,List.size_toArray,size_zeroCells,htl,hlm,Value.cells]
    simp;omega
   ·rw [hlen,Array.toList_append,Array.toList_append,List.toList_toArray,List.toList_toArray,List.take_left' (by rw [List.length_append,htl,hlm]),List.map_append,o.here,e]
   ·exact (hM.sub.drew.alloc _).perm List.perm_append_comm
end Go.Proofs.YtdigofgjhaakmaaGreatDoor
namespace Go.Proofs.YtdigofgjhaakmaaGreatDoor
open Go.RowKit
open Sm
open Cf
structure Fv where
 kw:Nat
 kr:Nat
 ks:Nat
 cw:Array Value
 cr:Array Value
 cs:Array Value
def Fv.cells (f:Fv):List Value:=[.func (.func f.kw) #[] f.cw,.func (.func f.kr) #[] f.cr,.func (.func f.ks) #[] f.cs]
def Fv.val (f:Fv):Value:=.agg #[.func (.func f.kw) #[] f.cw,.func (.func f.kr) #[] f.cr,.func (.func f.ks) #[] f.cs]
def Ent (k:Nat):Prop:=∀ args V,(callFunc k args).run Tryz.prog V=.ok (.enter k args) V
abbrev Rp (α ρ:Type):=α→ρ→World→Nat→Nat→Prop
abbrev St' (α:Type):=World→α→Nat→TypeId→List Value→List Value→World→List (Nat×Obj)→Prop
structure Sp (α:Type) where
 enc:α→List Int
 dec:List Int→α→Option (α×List Int)
 eq:α→α→Bool
def Sub (L K:List (Nat×Obj)):Prop:=∀ q∈L,q∈K
theorem Sub.refl (L:List (Nat×Obj)):Sub L L:=fun _ h=>h
theorem Sub.trans {A B C:List (Nat×Obj)} (h:Sub A B) (k:Sub B C):Sub A C:=fun q hq=>k q (h q hq)
theorem Sub.cons {L K:List (Nat×Obj)} (h:Sub L K) (p:Nat×Obj):Sub L (p::K):=fun q hq=>List.mem_cons_of_mem _ (h q hq)
theorem Sub.app {L K:List (Nat×Obj)} (h:Sub L K) (M:List (Nat×Obj)):Sub L (M++K):=fun q hq=>List.mem_append_right _ (h q hq)
structure Fd {α ρ:Type} (w:World) (L:List (Nat×Obj)) (I:Rp α ρ) (J:St' α) (f:Fv) (s:Sp α):Prop where
 ew:Ent f.kw
 er:Ent f.kr
 es:Ent f.ks
 wr:∀ K,Sub L K→∀ x r g off,(∀ V,Mem w V K→I x r V g off)→∀ v l V,Out w V v l K→l.length+(s.enc x).length≤1000000000 →
  Calls Tryz.prog f.kw (#[v,.pointer (some ⟨g,off,none⟩)]++f.cw) V fun e V'=>∃ v',e=.returned v'∧Out w V' v' (l++s.enc x) K
 rd:∀ K,Sub L K→∀ x g T pre post a l c V,J w x g T pre post V K→Sl w a l c →
  Calls Tryz.prog f.kr (#[.slice a l.length c,.pointer (some ⟨g,pre.length,none⟩)]++f.cr) V (RPost w K (fun y V'=>J w y g T pre post V' K) (s.dec l x))
 sm:∀ K,Sub L K→∀ x y r r' g off h of',(∀ V,Mem w V K→I x r V g off∧I y r' V h of')→∀ V,Mem w V K →
  Calls Tryz.prog f.ks (#[.pointer (some ⟨g,off,none⟩),.pointer (some ⟨h,of',none⟩)]++f.cs) V fun e V'=>e=.returned (.bool (s.eq x y))∧Mem w V' K
theorem Fd.more {α ρ:Type} {w:World} {L K:List (Nat×Obj)} {I:Rp α ρ} {J:St' α} {f:Fv} {s:Sp α} (h:Fd w L I J f s) (hs:Sub L K):Fd w K I J f s :=
 ⟨h.ew,h.er,h.es,fun M hM=>h.wr M (hs.trans hM),fun M hM=>h.rd M (hs.trans hM),fun M hM=>h.sm M (hs.trans hM)⟩
inductive FdAll {α ρ:Type} (w:World) (L:List (Nat×Obj)) (I:Rp α ρ) (J:St' α):List Fv→List (Sp α)→Prop
 | nil:FdAll w L I J [] []
 | cons {f:Fv} {s:Sp α} {fs:List Fv} {ss:List (Sp α)}:Fd w L I J f s→FdAll w L I J fs ss→FdAll w L I J (f::fs) (s::ss)
def fv0:Fv:=⟨0,0,0,#[],#[],#[]⟩
def sp0 {α:Type}:Sp α:=⟨fun _=>[],fun _ _=>none,fun _ _=>false⟩
theorem FdAll.at_ {α ρ:Type} {w:World} {L:List (Nat×Obj)} {I:Rp α ρ} {J:St' α} {fs:List Fv} {ss:List (Sp α)} (h:FdAll w L I J fs ss):∀ i,i < fs.length→Fd w L I J (fs.getD i fv0) (ss.getD i sp0):=by
 induction h with
 | nil=>intro i hi;simp at hi
 | cons h1 h2 ih =>
  intro i hi
  cases i with
  | zero=>exact h1
  | succ i=>exact ih i (by simpa using hi)
theorem FdAll.len {α ρ:Type} {w:World} {L:List (Nat×Obj)} {I:Rp α ρ} {J:St' α} {fs:List Fv} {ss:List (Sp α)} (h:FdAll w L I J fs ss):fs.length=ss.length:=by
 induction h with
 | nil=>rfl
 | cons _ _ ih=>simp [ih]
def spAll {α:Type} (ss:List (Sp α)):Sp α :=
 ⟨fun x=>cat (fun i=>(ss.getD i sp0).enc x) ss.length,fun l x=>sq (fun i=>(ss.getD i sp0).dec) 0 ss.length l x,fun x y=>decide (∀ i,i < ss.length→(ss.getD i sp0).eq x y=true)⟩
theorem flat_get (fs:List Fv):∀ i,i < fs.length→(fs.flatMap Fv.cells)[i * 3]? = some (.func (.func (fs.getD i fv0).kw) #[] (fs.getD i fv0).cw) ∧
  (fs.flatMap Fv.cells)[i * 3+1]? = some (.func (.func (fs.getD i fv0).kr) #[] (fs.getD i fv0).cr)∧(fs.flatMap Fv.cells)[i * 3+2]? = some (.func (.func (fs.getD i fv0).ks) #[] (fs.getD i fv0).cs):=by
 induction fs with
 | nil=>intro i hi;simp at hi
 | cons f fs ih =>
  intro i hi
  cases i with
  | zero=>exact ⟨rfl,rfl,rfl⟩
  | succ i =>
   obtain ⟨h1,h2,h3⟩:=ih i (by simpa using hi)
   have e:∀ k,((f::fs).flatMap Fv.cells)[(i+1) * 3+k]? = (fs.flatMap Fv.cells)[i * 3+k]?:=by
    intro k
    rw [List.flatMap_cons,List.getElem?_append_right (by simp [Fv.cells];omega)]
    congr 1
    simp [Fv.cells];omega
   refine ⟨?_,?_,?_⟩
   ·rw [show (i+1) * 3=(i+1) * 3+0 by omega,e 0];exact h1
   ·rw [e 1];exact h2
   ·rw [e 2];exact h3
theorem mem_box {w V:World} {L:List (Nat×Obj)} {b:Nat} {A:Array Value} {t:TypeId} (hM:Mem w V L) (h:(b,.cells A t (0,0))∈L) (j:Nat):V.cell? ⟨b,j,none⟩=A[j]?:=cell_of (hM.at_ _ h) j
theorem be_wrap (n:Nat) (h:n≤7) (x:Int):be n (IntKind.u64.wrap x)=be n x:=by
 have key:∀ k:Nat,k≤7→(x % 18446744073709551616) / 256 ^ k % 256=x / 256 ^ k % 256:=by
  intro k hk
  match k,hk with
  | 0,_=>omega
  | 1,_=>omega
  | 2,_=>omega
  | 3,_=>omega
  | 4,_=>omega
  | 5,_=>omega
  | 6,_=>omega
  | 7,_=>omega
 rw [wrapu64]
 induction n with
 | zero=>rfl
 | succ n ih=>rw [be,be,key n (by omega),ih (by omega)]
def spNum {α:Type} (sz:Nat) (fg:α→Int) (fs:α→Int→α):Sp α :=
 ⟨fun x=>be sz (fg x),fun l x=>if l.length < sz then none else some (fs x (num (l.take sz)),l.drop sz),fun x y=>decide (fg x=fg y)⟩
theorem heap_alloc3_new (w:World) (a b c:Obj):(((w.alloc a).alloc b).alloc c).heap[w.heap.size+1+1]? = some c:=by
 have h:=heap_alloc_new ((w.alloc a).alloc b) c
 have e:((w.alloc a).alloc b).heap.size=w.heap.size+1+1:=by
  show ((w.heap.push a).push b).size=_
  simp
 rwa [e] at h
theorem RPost.mono2 {σ τ:Type} {w:World} {L K:List (Nat×Obj)} {J:σ→World→Prop} {H:τ→World→Prop} {r:Option (σ×List Int)} {q:Option (τ×List Int)} {e:Ending} {W':World} (f:σ→τ) (hq:q=r.map (fun x=>(f x.1,x.2)))
  (h:RPost w L J r e W') (hn:Mem w W' L→Mem w W' K) (hs:∀ s l',r=some (s,l')→J s W'→H (f s) W'):RPost w K H q e W':=by
 subst hq
 cases r with
 | none=>exact ⟨h.1,hn h.2⟩
 | some x=>obtain ⟨a,c,h1,h2,h3⟩:=h;exact ⟨a,c,h1,h2,hs _ _ rfl h3⟩
def spOct {α:Type} (n:Nat) (fg:α→List Int) (fs:α→List Int→α):Sp α :=
 ⟨fg,fun l x=>if l.length < n then none else some (fs x (l.take n),l.drop n),fun x y=>decide (fg x=fg y)⟩
def spTxt {α:Type} (fg:α→ByteArray) (fs:α→ByteArray→α):Sp α :=
 ⟨fun x=>nm (fg x),fun l x=>(dtxt l).map (fun q=>(fs x q.1,q.2)),fun x y=>decide (sb (fg x)=sb (fg y))⟩
def spCnt {α:Type} (fl:α→Nat) (fs:α→Nat→α):Sp α :=
 ⟨fun x=>[((min (fl x) 255:Nat):Int)],fun l x=>match l with | []=>none | b::r=>some (fs x b.toNat,r),fun x y=>decide (fl x=fl y)⟩
def itd {β:Type} (d:β) (se:Sp β):Nat→List Int→List β→Option (List β×List Int):=fun i l xs=>(se.dec l (xs.getD i d)).map (fun q=>(xs.set i q.1,q.2))
def spItm {α β:Type} [DecidableEq β] (d:β) (se:Sp β) (fl:α→List β) (fs:α→List β→α):Sp α :=
 ⟨fun x=>cat (fun i=>se.enc ((fl x).getD i d)) (min (fl x).length 255),fun l x=>(sq (itd d se) 0 (fl x).length l (fl x)).map (fun q=>(fs x q.1,q.2)),fun x y=>decide (fl x=fl y)⟩
structure Lens {α:Type} (w:World) (J:St' α) (o:Nat) (x:α) (g:Nat) (T:TypeId) (pre post:List Value) (V:World) (K M:List (Nat×Obj)) (A:Array Value):Prop where
 mem:Mem w V ((g,.cells A T (0,0))::M)
 sub:Sub K M
 back:∀ V',Mem w V' M→Mem w V' K
end Go.Proofs.YtdigofgjhaakmaaGreatDoor
