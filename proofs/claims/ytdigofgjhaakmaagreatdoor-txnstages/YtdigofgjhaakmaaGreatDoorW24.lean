/-
  What the four laid variables hold when a call begins, and a world in which they hold it.
  Which settings may be: function values that only read; a list gone through.
  What is changed: tenants by their names (byName), for whatever slice of tenants.
  Names: the document's own Name, at every text.
  Keys as text: the program's Key and the document's own, at every text.
-/
import Derived.Test.YtdigofgjhaakmaaGreatDoorRows
import Derived.Test.YtdigofgjhaakmaaGreatDoorW23
import Derived.Test.YtdigofgjhaakmaaGreatDoorW11
import Derived.ChangeSame
import Derived.ChangeVars
import Derived.JoinedOf
import Derived.LaidHandle
import Derived.LaidLaws
import Derived.Stop.Joined
import Derived.Stop.LaidErr
import Derived.OpenShut
import Derived.Test.YtdigofgjhaakmaaGreatDoorW20
import Derived.Test.YtdigofgjhaakmaaGreatDoorW13
import Derived.Shelf.Abstract
import Derived.Laws.EntriesVeiled
import Derived.Lib.MapLaws
set_option linter.unusedVariables false
set_option linter.unusedSimpArgs false
set_option maxRecDepth 20000
set_option maxHeartbeats 40000000
namespace Go.Proofs.YtdigofgjhaakmaaGreatDoor
open Go.ChangeShapes Go.WideShapes Go.RowKit
abbrev laidD : List (String × DataW Unit) := [("unicode/utf8.acceptRanges", Rows.laid_unicode_utf8_acceptRanges), ("lych/log.errNotWhole", Rows.laid_lych_log_errNotWhole), ("unicode/utf8.first", Rows.laid_unicode_utf8_first)]
abbrev laidB : List (String × DataW Unit) := [("unicode/utf8.acceptRanges", Rows.laid_unicode_utf8_acceptRanges), ("errors.errorType", Rows.laid_errors_errorType), ("lych/log.errNotWhole", Rows.laid_lych_log_errNotWhole), ("unicode/utf8.first", Rows.laid_unicode_utf8_first)]
theorem ll_et : Tryz.prog.globalNamed "errors.errorType" = some 1 := by kernel_rfl
theorem ll_en : Tryz.prog.globalNamed "lych/log.errNotWhole" = some 0 := by kernel_rfl
theorem ll_enType:(Tryz.prog.globals[0]?).map (·.type)=some 134:=by kernel_rfl
theorem ll_rt : (Tryz.prog.cutTypes.find? (·.1 == "internal/reflectlite.rtype")).map (·.2) = some 192 := by kernel_rfl
theorem ll_oneRow:((List.range 373).filter fun t=>Tryz.prog.rowNamed t [101,114,114,111,114])=[134]:=by kernel_rfl
theorem ll_size:Tryz.prog.types.size=373:=by kernel_rfl
theorem ll_star : "*" ++ "errors.errorString" = "*errors.errorString" := by decide
theorem ll_row (u : TypeId) (h : Tryz.prog.typeName? 3 u = some "*errors.errorString") : u = 342 :=
 typeName_ptr_named (nm := "errors.errorString") (by rw [ll_star]; kernel_rfl) (by kernel_rfl) (by decide) u (by rw [ll_star]; exact h)
theorem ll_cellsE:Tryz.prog.cellsOf 362=1:=by kernel_rfl
theorem ll_cellsS:Tryz.prog.cellsOf 9=1:=by kernel_rfl
theorem laid_tail {P:Program} {x:String×DataW Unit} {r:List (String×DataW Unit)} {W:World} (h:laidMet P (x::r) W):laidMet P r W:=by
 obtain ⟨ps,⟨g0,t0,cs0,f0,p0,q0,hg0,ht0,hv0,hd0,hr,e0⟩,hn,hrows⟩:=h
 subst e0
 exact ⟨q0,hr,(List.nodup_append.mp hn).2.1,fun b off hm=>hrows b off (List.mem_append_right _ hm)⟩
theorem laid_both {W:World} (h:laidMetH Tryz.prog laidB W) (hs:W.ShapedOpen Tryz.prog):Vs W∧∃ a,Gl W a:=by
 have h' : laidMet Tryz.prog laidD W ∧ handlesMet Tryz.prog [("errors.errorType", Rows.laid_errors_errorType)] W := h
 constructor
 ·have h3 := Lib.laidMet.reads h'.1 (n := "unicode/utf8.first") (d := Rows.laid_unicode_utf8_first) (by simp)
  have h4 := Lib.laidMet.reads h'.1 (n := "unicode/utf8.acceptRanges") (d := Rows.laid_unicode_utf8_acceptRanges) (by simp)
  rw [la_first] at h3
  rw [la_acc] at h4
  exact ⟨utf8Tabs_of_readsT (U8Types.of196 Tryz.lays196) la_extra h3 h4⟩
 ·obtain ⟨name,u,ty,e1,e2,e3,e4,e5⟩:=h'.2 _ (List.mem_singleton.2 rfl)
  have en:name=[101,114,114,111,114]:=(Option.some.inj e1).symm
  subst en
  obtain rfl:=Option.some.inj (ll_rt.symm.trans e2)
  have hm:ty∈(List.range 373).filter fun t=>Tryz.prog.rowNamed t [101,114,114,111,114]:=List.mem_filter.2 ⟨List.mem_range.2 (by rw [←ll_size];exact e3),e4⟩
  rw [ll_oneRow] at hm
  obtain rfl:=List.mem_singleton.1 hm
  have hh:typeHandle Tryz.prog 134=.pointer (some ⟨4,134,none⟩):=by kernel_rfl
  rw [hh] at e5
  have h5:=laid_tail h'.1
  obtain ⟨a0,s0,hv0,_⟩:=laid_sentinel h5 ll_en ll_enType Tryz.underlying134 ll_row Tryz.underlying342 Tryz.underlying362 rfl rfl Tryz.underlying9 ll_cellsE ll_cellsS
  exact ⟨a0,by simpa using World.var?_cell ll_en hv0 0,by simpa using World.var?_cell ll_et e5 0⟩
noncomputable def laidWB (os:Os):World :=
 { World.laidAll Tryz.prog os laidD with heap:=(World.laidAll Tryz.prog os laidD).heap.modify 1 fun
   | .cells _ t frozen=>.cells #[.iface 192 (.agg #[.pointer (some ⟨4,134,none⟩)])] t frozen
   | o=>o }
theorem laidWB_met (os:Os) (args:Array Value):laidMetH Tryz.prog laidB ((laidWB os).forCall (fun _ _=>0) ⟨#[],args,[]⟩).memory :=
 laidMetH_of_parts (laidMet_of_run' 8 (by kernel_rfl) (by kernel_rfl)) (by kernel_rfl)
theorem laidWB_os (os:Os):(laidWB os).os=os:=World.laidAll_os Tryz.prog os laidD
end Go.Proofs.YtdigofgjhaakmaaGreatDoor
namespace Go.Proofs.YtdigofgjhaakmaaGreatDoor
open Go.RowKit
open Va
def Clo (W:World) (k:Nat) (caps args:Array Value) (r:Value):Prop:=∀ V,Below W.heap.size W V→Calls Tryz.prog k (args++caps) V fun e V'=>e=.returned r∧Below V.heap.size V V'
def Enr (k:Nat):Prop:=∀ args V,(callFunc k args).run Tryz.prog V=.ok (.enter k args) V
theorem Clo.later {W W':World} {k:Nat} {caps args:Array Value} {r:Value} (h:Clo W k caps args r) (hb:Below W.heap.size W W'):Clo W' k caps args r:=fun V hV=>h V (hb.trans (hV.mono hb.size))
def PrU (W:World) (k:Nat) (caps:Array Value) (f:Int→Bool):Prop:=Enr k∧∀ x,Clo W k caps #[.int .u32 x] (.bool (f x))
def PrP (W:World) (k:Nat) (caps:Array Value) (f:Int×Int→Bool):Prop:=Enr k∧∀ x y,Clo W k caps #[.agg #[.int .u32 x,.int .u32 y]] (.bool (f (x,y)))
def TSm (t:Ten):Prop:=t.name.size≤1000000∧t.pool.length≤1000000∧t.stat.length≤1000000∧t.twi.length≤1000000
def PrT (W:World) (k:Nat) (caps:Array Value) (f:Ten→Bool):Prop:=Enr k∧∀ V v t,Below W.heap.size W V→TV V v t→TSm t→Calls Tryz.prog k (#[v]++caps) V fun e V'=>e=.returned (.bool (f t))∧Below V.heap.size V V'
def Rul (W:World) (k:Nat) (caps:Array Value) (e:Int):Prop:=Enr k∧Clo W k caps #[] (.int .i64 e)
def Ask (W:World) (k:Nat) (caps:Array Value) (b:Bool):Prop:=Enr k∧Clo W k caps #[] (.bool b)
theorem PrU.later {W W':World} {k:Nat} {caps:Array Value} {f:Int→Bool} (h:PrU W k caps f) (hb:Below W.heap.size W W'):PrU W' k caps f:=⟨h.1,fun x=>(h.2 x).later hb⟩
theorem PrP.later {W W':World} {k:Nat} {caps:Array Value} {f:Int×Int→Bool} (h:PrP W k caps f) (hb:Below W.heap.size W W'):PrP W' k caps f:=⟨h.1,fun x y=>(h.2 x y).later hb⟩
theorem PrT.later {W W':World} {k:Nat} {caps:Array Value} {f:Ten→Bool} (h:PrT W k caps f) (hb:Below W.heap.size W W'):PrT W' k caps f:=⟨h.1,fun V v t hV ht hm=>h.2 V v t (hb.trans (hV.mono hb.size)) ht hm⟩
theorem Rul.later {W W':World} {k:Nat} {caps:Array Value} {e:Int} (h:Rul W k caps e) (hb:Below W.heap.size W W'):Rul W' k caps e:=⟨h.1,h.2.later hb⟩
theorem Ask.later {W W':World} {k:Nat} {caps:Array Value} {b:Bool} (h:Ask W k caps b) (hb:Below W.heap.size W W'):Ask W' k caps b:=⟨h.1,h.2.later hb⟩
theorem rw_u {w:World} {v:Value} {l:List Int} (h:Rw w 1 v (ux l)):∃ a c,v=.slice a l.length c∧l.length≤c∧c≤9223372036854775807∧∀ i,i < l.length→∃ b off,a=some ⟨b,off,none⟩∧∀ V,Below w.heap.size w V→V.cell? ⟨b,off+i,none⟩=some (.int .u32 (l.getD i 0)):=by
 have hl:(ux l).length=l.length:=by simp [ux]
 obtain ⟨a,c,rfl,h1,h2,h3,h4⟩:=h
 rw [hl] at h1 h4 ⊢
 refine ⟨a,c,rfl,h1,h2,fun i hi=>?_⟩
 rcases h4 with e | ⟨b,off,rfl,hc⟩
 ·rw [e] at hl;simp at hl;omega
 ·refine ⟨b,off,rfl,fun V hV=>?_⟩
  have:=hc i hi 0 (.int .u32 (l.getD i 0)) (by simp [ux,List.getD,List.getElem?_eq_getElem hi])
  rw [Nat.mul_one,Nat.add_zero] at this
  rw [hV.cell (p:=⟨b,off+i,none⟩) (cell_lt this)]
  exact this
theorem rw_p {w:World} {v:Value} {l:List (Int×Int)} (h:Rw w 2 v (px l)):∃ a c,v=.slice a l.length c∧l.length≤c∧c≤9223372036854775807∧∀ i,i < l.length→∃ b off,a=some ⟨b,off,none⟩∧∀ V,Below w.heap.size w V→V.cell? ⟨b,off+i * 2,none⟩=some (.int .u32 (l.getD i (0,0)).1)∧V.cell? ⟨b,off+i * 2+1,none⟩=some (.int .u32 (l.getD i (0,0)).2):=by
 have hl:(px l).length=l.length:=by simp [px]
 obtain ⟨a,c,rfl,h1,h2,h3,h4⟩:=h
 rw [hl] at h1 h4 ⊢
 refine ⟨a,c,rfl,h1,h2,fun i hi=>?_⟩
 rcases h4 with e | ⟨b,off,rfl,hc⟩
 ·rw [e] at hl;simp at hl;omega
 ·refine ⟨b,off,rfl,fun V hV=>?_⟩
  have q0:=hc i hi 0 (.int .u32 (l.getD i (0,0)).1) (by simp [px,List.getD,List.getElem?_eq_getElem hi])
  have q1:=hc i hi 1 (.int .u32 (l.getD i (0,0)).2) (by simp [px,List.getD,List.getElem?_eq_getElem hi])
  rw [Nat.add_zero] at q0
  rw [hV.cell (p:=⟨b,off+i * 2,none⟩) (cell_lt q0),hV.cell (p:=⟨b,off+i * 2+1,none⟩) (cell_lt q1)]
  exact ⟨q0,q1⟩
theorem Rw.head {w:World} {sz:Nat} {a:Option Addr} {n c:Nat} {xs:List (List Value)} (h:Rw w sz (.slice a n c) xs) (i:Nat) (hi:i≤xs.length):Rw w sz (.slice a i c) (xs.take i):=by
 obtain ⟨a',c',e,h1,h2,h3,h4⟩:=h
 simp only [Value.slice.injEq] at e
 obtain ⟨rfl,-,rfl⟩:=e
 have hl:(xs.take i).length=i:=by simp;omega
 refine ⟨a,c,by rw [hl],by omega,h2,h3,?_⟩
 rcases h4 with e | ⟨b,off,rfl,hc⟩
 ·exact Or.inl (by rw [e];simp)
 ·refine Or.inr ⟨b,off,rfl,fun j hj u v hv=>hc j (by omega) u v ?_⟩
  have hj':j < i:=by omega
  rwa [show (xs.take i).getD j []=xs.getD j [] by simp [List.getD,hj']] at hv
theorem ux_take (l:List Int) (i:Nat):(ux l).take i=ux (l.take i):=by simp [ux,List.map_take]
theorem any_no {α:Type} {f:α→Bool} {l:List α} {d:α} {i:Nat} (h:(l.take i).any f=false) (hi:i < l.length) (hf:f (l.getD i d)=false):(l.take (i+1)).any f=false:=by
 rw [List.take_add_one,List.any_append,h,List.getElem?_eq_getElem hi]
 simpa [List.getD,List.getElem?_eq_getElem hi] using hf
theorem any_yes {α:Type} {f:α→Bool} {l:List α} {d:α} {i:Nat} (hi:i < l.length) (hf:f (l.getD i d)=true):l.any f=true:=by
 rw [List.any_eq_true]
 exact ⟨l.getD i d,by simp [List.getD,List.getElem?_eq_getElem hi],hf⟩
theorem any_end {α:Type} {f:α→Bool} {l:List α} (h:(l.take l.length).any f=false):l.any f=false:=by rwa [List.take_length] at h
theorem index_u {w:World} {v:Value} {l:List Int} (h:Rw w 1 v (ux l)) (hb:l.length≤1000000) (x:Int) :
  Calls Tryz.prog 257 #[v,.int .u32 x] w fun e w'=>∃ m:Int,e=.returned (.int .i64 m)∧decide (0≤m)=hs l x∧w=w':=by
 obtain ⟨a,c,rfl,hlc,hcb,hx⟩:=rw_u h
 have HX:Hid (∀ i,i < l.length→∃ b off,a=some ⟨b,off,none⟩∧w.cell? ⟨b,off+i,none⟩=some (.int .u32 (l.getD i 0))):=by
  intro i hi
  obtain ⟨b,off,h1,h2⟩:=hx i hi
  exact ⟨b,off,h1,h2 _ (Below.refl _ _)⟩
 have HY:Hid (∀ i,i < l.length→(x == l.getD i 0)=true→hs l x=true):=fun i hi he=>any_yes (d:=0) hi he
 have HN:Hid (∀ i,i < l.length→hs (l.take i) x=false→(x == l.getD i 0)=false→hs (l.take (i+1)) x=false):=fun i hi h0 he=>any_no (d:=0) h0 hi he
 have HE:Hid (hs (l.take l.length) x=false→hs l x=false):=any_end
 have H0:Hid (hs (l.take 0) x=false):=rfl
 clear h hx
 generalize l.length=n at *
 go_enter Tryz.func257,Tryz.ntmps257
 go_wp2_with fail
 go_loopw [8] (fun u8 w'=>∃ i:Nat,i≤n∧u8=.int .i64 i∧Hid (hs (l.take i) x=false∧w=w')) (fun u8 w'=>n - (intOf u8).toNat)
 case atStart=>exact ⟨0,Nat.zero_le _,rfl,H0.out,rfl⟩
 case round =>
  obtain ⟨i,hi,rfl,HR⟩:=hrel
  obtain ⟨h0,rfl⟩:=HR.out
  by_cases hlt:i < n
  ·have h1:(i:Int) < n:=by omega
   obtain ⟨b,off,rfl,d0⟩:=HX.out i hlt
   have HY1:=HY.out i hlt
   have HN1:=HN.out i hlt h0
   generalize l.getD i 0=y at *
   cases hxy:(x == y) with
   | true =>
    have HF:Hid (hs l x=true):=HY1 hxy
    clear HY1 HN1 HX HY HN HE H0 HR h0
    go_wp2_with fail
    go_ret
    exact ⟨(i:Int),rfl,by rw [HF.out];simp,rfl⟩
   | false =>
    have HF:Hid (hs (l.take (i+1)) x=false∧True):=⟨HN1 hxy,trivial⟩
    clear HY1 HN1 HX HY HN HE H0 HR h0
    go_wp2_with fail
    go_roundw
    case rel=>exact ⟨i+1,by omega,by go_num,HF⟩
    case measure=>simp [intOf];omega
  ·have h1:¬ ((i:Int) < n):=by omega
   obtain rfl:i=n:=by omega
   have HF:Hid (hs l x=false):=HE.out h0
   clear HX HY HN HE H0 HR h0
   go_wp2_with fail
   go_ret
   exact ⟨-1,rfl,by rw [HF.out];rfl,rfl⟩
theorem contains_u {w:World} {v:Value} {l:List Int} (h:Rw w 1 v (ux l)) (hb:l.length≤1000000) (x:Int) :
  Calls Tryz.prog 166 #[v,.int .u32 x] w fun e w'=>e=.returned (.bool (hs l x))∧w=w':=by
 have C:=index_u h hb x
 clear h hb
 generalize hs l x=R at *
 go_enter Tryz.func166,Tryz.ntmps166
 go_wp2_with fail
 refine C.mono ?_
 rintro e _ ⟨m,rfl,hm,rfl⟩
 go_wp2_with fail
 go_ret
 exact ⟨by rw [←hm];rfl,rfl⟩
theorem indexf_u {w:World} {v:Value} {l:List Int} (h:Rw w 1 v (ux l)) (hb:l.length≤1000000) {k:Nat} {caps:Array Value} {f:Int→Bool} (hf:PrU w k caps f) :
  Calls Tryz.prog 203 #[v,.func (.func k) #[] caps] w fun e w'=>∃ m:Int,e=.returned (.int .i64 m)∧decide (0≤m)=l.any f∧Below w.heap.size w w':=by
 obtain ⟨a,c,rfl,hlc,hcb,hx⟩:=rw_u h
 have HX:Hid (∀ i,i < l.length→∃ b off,a=some ⟨b,off,none⟩∧∀ V,Below w.heap.size w V→V.cell? ⟨b,off+i,none⟩=some (.int .u32 (l.getD i 0))):=hx
 have HY:Hid (∀ i,i < l.length→f (l.getD i 0)=true→l.any f=true):=fun i hi he=>any_yes (d:=0) hi he
 have HN:Hid (∀ i,i < l.length→(l.take i).any f=false→f (l.getD i 0)=false→(l.take (i+1)).any f=false):=fun i hi h0 he=>any_no (d:=0) h0 hi he
 have HE:Hid ((l.take l.length).any f=false→l.any f=false):=any_end
 have H0:Hid ((l.take 0).any f=false∧Below w.heap.size w w):=⟨rfl,Below.refl _ _⟩
 have eg:∀ args V,(callFunc k args).run Tryz.prog V=.ok (.enter k args) V:=hf.1
 have HC:Hid (PrU w k caps f):=hf
 clear h hx hf
 generalize l.length=n at *
 generalize l.any f=R at *
 go_enter Tryz.func203,Tryz.ntmps203
 go_wp2_with fail
 go_loopw [8] (fun u8 w'=>∃ i:Nat,i≤n∧u8=.int .i64 i∧Hid ((l.take i).any f=false∧Below w.heap.size w w')) (fun u8 w'=>n - (intOf u8).toNat)
 case atStart=>exact ⟨0,Nat.zero_le _,rfl,H0⟩
 case round =>
  obtain ⟨i,hi,rfl,HR⟩:=hrel
  by_cases hlt:i < n
  ·have h1:(i:Int) < n:=by omega
   obtain ⟨b,off,rfl,hd⟩:=HX.out i hlt
   have d0:=hd _ HR.out.2
   have C:=HC.out.2 (l.getD i 0) _ HR.out.2
   clear hd
   obtain ⟨y,hy⟩:∃ y,l.getD i 0=y:=⟨_,rfl⟩
   have HY:=HY.out i hlt
   have HN:=HN.out i hlt HR.out.1
   rw [hy] at d0 C HY HN
   clear hy
   have HY1:Hid (f y=true→R=true):=HY
   have HN1:Hid (f y=false→(l.take (i+1)).any f=false):=HN
   have HB:Hid (Below w.heap.size w wr):=HR.out.2
   clear HX HY HN HE H0 HR HC
   generalize f y=B at *
   cases B with
   | true =>
    obtain rfl:=HY1.out rfl
    go_wp2_with fail
    refine C.mono ?_
    rintro e W1 ⟨rfl,hb1⟩
    have HF:Hid (Below w.heap.size w W1):=HB.out.trans (hb1.mono HB.out.size)
    clear C HB hb1 HY1 HN1 d0
    go_wp2_with fail
    go_ret
    exact ⟨(i:Int),rfl,by simp,HF.out⟩
   | false =>
    have hQ:=HN1.out rfl
    go_wp2_with fail
    refine C.mono ?_
    rintro e W1 ⟨rfl,hb1⟩
    have HF:Hid ((l.take (i+1)).any f=false∧Below w.heap.size w W1):=⟨hQ,HB.out.trans (hb1.mono HB.out.size)⟩
    clear C HB hb1 HY1 HN1 d0
    go_wp2_with fail
    go_roundw
    case rel=>exact ⟨i+1,by omega,by go_num,HF⟩
    case measure=>simp [intOf];omega
  ·have h1:¬ ((i:Int) < n):=by omega
   obtain rfl:i=n:=by omega
   obtain rfl:=HE.out HR.out.1
   have HB:Hid (Below w.heap.size w wr):=HR.out.2
   clear HX HY HN HE H0 HR HC
   go_wp2_with fail
   go_ret
   exact ⟨-1,rfl,by decide,HB.out⟩
theorem containsf_u {w:World} {v:Value} {l:List Int} (h:Rw w 1 v (ux l)) (hb:l.length≤1000000) {k:Nat} {caps:Array Value} {f:Int→Bool} (hf:PrU w k caps f) :
  Calls Tryz.prog 141 #[v,.func (.func k) #[] caps] w fun e w'=>e=.returned (.bool (l.any f))∧Below w.heap.size w w':=by
 have C:=indexf_u h hb hf
 clear h hb hf
 generalize l.any f=R at *
 go_enter Tryz.func141,Tryz.ntmps141
 go_wp2_with fail
 refine C.mono ?_
 rintro e _ ⟨m,rfl,hm,hb⟩
 go_wp2_with fail
 go_ret
 exact ⟨by rw [←hm];rfl,hb⟩
theorem indexf_p {w:World} {v:Value} {l:List (Int×Int)} (h:Rw w 2 v (px l)) (hb:l.length≤1000000) {k:Nat} {caps:Array Value} {f:(Int×Int)→Bool} (hf:PrP w k caps f) :
  Calls Tryz.prog 204 #[v,.func (.func k) #[] caps] w fun e w'=>∃ m:Int,e=.returned (.int .i64 m)∧decide (0≤m)=l.any f∧Below w.heap.size w w':=by
 obtain ⟨a,c,rfl,hlc,hcb,hx⟩:=rw_p h
 have HX:Hid (∀ i,i < l.length→∃ b off,a=some ⟨b,off,none⟩∧∀ V,Below w.heap.size w V→V.cell? ⟨b,off+i * 2,none⟩=some (.int .u32 (l.getD i (0,0)).1)∧V.cell? ⟨b,off+i * 2+1,none⟩=some (.int .u32 (l.getD i (0,0)).2)):=hx
 have HY:Hid (∀ i,i < l.length→f (l.getD i (0,0))=true→l.any f=true):=fun i hi he=>any_yes (d:=(0,0)) hi he
 have HN:Hid (∀ i,i < l.length→(l.take i).any f=false→f (l.getD i (0,0))=false→(l.take (i+1)).any f=false):=fun i hi h0 he=>any_no (d:=(0,0)) h0 hi he
 have HE:Hid ((l.take l.length).any f=false→l.any f=false):=any_end
 have H0:Hid ((l.take 0).any f=false∧Below w.heap.size w w):=⟨rfl,Below.refl _ _⟩
 have eg:∀ args V,(callFunc k args).run Tryz.prog V=.ok (.enter k args) V:=hf.1
 have HC:Hid (PrP w k caps f):=hf
 clear h hx hf
 generalize l.length=n at *
 generalize l.any f=R at *
 go_enter Tryz.func204,Tryz.ntmps204
 go_wp2_with fail
 go_loopw [8] (fun u8 w'=>∃ i:Nat,i≤n∧u8=.int .i64 i∧Hid ((l.take i).any f=false∧Below w.heap.size w w')) (fun u8 w'=>n - (intOf u8).toNat)
 case atStart=>exact ⟨0,Nat.zero_le _,rfl,H0⟩
 case round =>
  obtain ⟨i,hi,rfl,HR⟩:=hrel
  by_cases hlt:i < n
  ·have h1:(i:Int) < n:=by omega
   obtain ⟨b,off,rfl,hd⟩:=HX.out i hlt
   obtain ⟨d0,d1⟩:=hd _ HR.out.2
   clear hd
   obtain ⟨⟨y1,y2⟩,hy⟩:∃ y,l.getD i (0,0)=y:=⟨_,rfl⟩
   have C:=HC.out.2 y1 y2 _ HR.out.2
   have HY:=HY.out i hlt
   have HN:=HN.out i hlt HR.out.1
   rw [hy] at d0 d1 HY HN
   clear hy
   simp only at d0 d1
   have HY1:Hid (f (y1,y2)=true→R=true):=HY
   have HN1:Hid (f (y1,y2)=false→(l.take (i+1)).any f=false):=HN
   have HB:Hid (Below w.heap.size w wr):=HR.out.2
   clear HX HY HN HE H0 HR HC
   generalize f (y1,y2)=B at *
   cases B with
   | true =>
    obtain rfl:=HY1.out rfl
    go_wp2_with fail
    refine C.mono ?_
    rintro e W1 ⟨rfl,hb1⟩
    have HF:Hid (Below w.heap.size w W1):=HB.out.trans (hb1.mono HB.out.size)
    clear C HB hb1 HY1 HN1 d0 d1
    go_wp2_with fail
    go_ret
    exact ⟨(i:Int),rfl,by simp,HF.out⟩
   | false =>
    have hQ:=HN1.out rfl
    go_wp2_with fail
    refine C.mono ?_
    rintro e W1 ⟨rfl,hb1⟩
    have HF:Hid ((l.take (i+1)).any f=false∧Below w.heap.size w W1):=⟨hQ,HB.out.trans (hb1.mono HB.out.size)⟩
    clear C HB hb1 HY1 HN1 d0 d1
    go_wp2_with fail
    go_roundw
    case rel=>exact ⟨i+1,by omega,by go_num,HF⟩
    case measure=>simp [intOf];omega
  ·have h1:¬ ((i:Int) < n):=by omega
   obtain rfl:i=n:=by omega
   obtain rfl:=HE.out HR.out.1
   have HB:Hid (Below w.heap.size w wr):=HR.out.2
   clear HX HY HN HE H0 HR HC
   go_wp2_with fail
   go_ret
   exact ⟨-1,rfl,by decide,HB.out⟩
theorem containsf_p {w:World} {v:Value} {l:List (Int×Int)} (h:Rw w 2 v (px l)) (hb:l.length≤1000000) {k:Nat} {caps:Array Value} {f:(Int×Int)→Bool} (hf:PrP w k caps f) :
  Calls Tryz.prog 142 #[v,.func (.func k) #[] caps] w fun e w'=>e=.returned (.bool (l.any f))∧Below w.heap.size w w':=by
 have C:=indexf_p h hb hf
 clear h hb hf
 generalize l.any f=R at *
 go_enter Tryz.func142,Tryz.ntmps142
 go_wp2_with fail
 refine C.mono ?_
 rintro e _ ⟨m,rfl,hm,hb⟩
 go_wp2_with fail
 go_ret
 exact ⟨by rw [←hm];rfl,hb⟩
theorem indexf_t {w:World} {v:Value} {l:List Ten} (h:TSV w v l) (hb:l.length≤1000000) {k:Nat} {caps:Array Value} {f:Ten→Bool} (hf:PrT w k caps f) (hm:∀ t∈l,TSm t) :
  Calls Tryz.prog 138 #[v,.func (.func k) #[] caps] w fun e w'=>∃ m:Int,e=.returned (.int .i64 m)∧decide (0≤m)=l.any f∧Below w.heap.size w w':=by
 obtain ⟨sa,sc,rfl,hlc,hcb,hx⟩:=h.parts
 have HX:Hid (∀ i,i < l.length→∃ b off x,sa=some ⟨b,off,none⟩∧x.length=33∧x.toArray.all (·.oneCell')=true∧∀ V,Below w.heap.size w V→V.rangeAt b (off+i * 33) x∧TV V (.agg x.toArray) (l.getD i ten0)):=hx
 have HY:Hid (∀ i,i < l.length→f (l.getD i ten0)=true→l.any f=true):=fun i hi he=>any_yes (d:=ten0) hi he
 have HN:Hid (∀ i,i < l.length→(l.take i).any f=false→f (l.getD i ten0)=false→(l.take (i+1)).any f=false):=fun i hi h0 he=>any_no (d:=ten0) h0 hi he
 have HE:Hid ((l.take l.length).any f=false→l.any f=false):=any_end
 have H0:Hid ((l.take 0).any f=false∧Below w.heap.size w w):=⟨rfl,Below.refl _ _⟩
 have eg:∀ args V,(callFunc k args).run Tryz.prog V=.ok (.enter k args) V:=hf.1
 have HC:Hid (PrT w k caps f):=hf
 have HM:Hid (∀ i,i < l.length→TSm (l.getD i ten0)):=fun i hi=>hm _ (by simp [List.getD,List.getElem?_eq_getElem hi])
 clear h hx hf hm
 generalize l.length=n at *
 generalize l.any f=R at *
 go_enter Tryz.func138,Tryz.ntmps138
 go_wp2_with fail
 go_loopw [8] (fun u8 w'=>∃ i:Nat,i≤n∧u8=.int .i64 i∧Hid ((l.take i).any f=false∧Below w.heap.size w w')) (fun u8 w'=>n - (intOf u8).toNat)
 case atStart=>exact ⟨0,Nat.zero_le _,rfl,H0⟩
 case round =>
  obtain ⟨i,hi,rfl,HR⟩:=hrel
  by_cases hlt:i < n
  ·have h1:(i:Int) < n:=by omega
   obtain ⟨b,off,x,rfl,hsz,hone,hV⟩:=HX.out i hlt
   obtain ⟨hra,hTV⟩:=hV _ HR.out.2
   have hi33:(Tryz.prog.info? 46).map (·.size)=some x.length:=by rw [hsz];kernel_rfl
   have C:=HC.out.2 _ _ _ HR.out.2 hTV (HM.out i hlt)
   clear hV hTV hone hsz
   obtain ⟨y,hy⟩:∃ y,l.getD i ten0=y:=⟨_,rfl⟩
   have HY:=HY.out i hlt
   have HN:=HN.out i hlt HR.out.1
   rw [hy] at C HY HN
   clear hy
   have HY1:Hid (f y=true→R=true):=HY
   have HN1:Hid (f y=false→(l.take (i+1)).any f=false):=HN
   have HB:Hid (Below w.heap.size w wr):=HR.out.2
   clear HX HY HN HE H0 HR HC HM
   generalize f y=B at *
   cases B with
   | true =>
    obtain rfl:=HY1.out rfl
    go_wp2_with (refine wpList_load_mid rfl 46 (.tmp 14) (by with_reducible rfl) b (off+i * 33) (by simp [Act.eval]) x _ hra Tryz.underlying46 rfl hi33 ?_)
    refine C.mono ?_
    rintro e W1 ⟨rfl,hb1⟩
    have HF:Hid (Below w.heap.size w W1):=HB.out.trans (hb1.mono HB.out.size)
    clear C HB hb1 HY1 HN1 hra
    go_wp2_with fail
    go_ret
    exact ⟨(i:Int),rfl,by simp,HF.out⟩
   | false =>
    have hQ:=HN1.out rfl
    go_wp2_with (refine wpList_load_mid rfl 46 (.tmp 14) (by with_reducible rfl) b (off+i * 33) (by simp [Act.eval]) x _ hra Tryz.underlying46 rfl hi33 ?_)
    refine C.mono ?_
    rintro e W1 ⟨rfl,hb1⟩
    have HF:Hid ((l.take (i+1)).any f=false∧Below w.heap.size w W1):=⟨hQ,HB.out.trans (hb1.mono HB.out.size)⟩
    clear C HB hb1 HY1 HN1 hra
    go_wp2_with fail
    go_roundw
    case rel=>exact ⟨i+1,by omega,by go_num,HF⟩
    case measure=>simp [intOf];omega
  ·have h1:¬ ((i:Int) < n):=by omega
   obtain rfl:i=n:=by omega
   obtain rfl:=HE.out HR.out.1
   have HB:Hid (Below w.heap.size w wr):=HR.out.2
   clear HX HY HN HE H0 HR HC HM
   go_wp2_with fail
   go_ret
   exact ⟨-1,rfl,by decide,HB.out⟩
theorem containsf_t {w:World} {v:Value} {l:List Ten} (h:TSV w v l) (hb:l.length≤1000000) {k:Nat} {caps:Array Value} {f:Ten→Bool} (hf:PrT w k caps f) (hm:∀ t∈l,TSm t) :
  Calls Tryz.prog 111 #[v,.func (.func k) #[] caps] w fun e w'=>e=.returned (.bool (l.any f))∧Below w.heap.size w w':=by
 have C:=indexf_t h hb hf hm
 clear h hb hf hm
 generalize l.any f=R at *
 go_enter Tryz.func111,Tryz.ntmps111
 go_wp2_with fail
 refine C.mono ?_
 rintro e _ ⟨m,rfl,hm,hb⟩
 go_wp2_with fail
 go_ret
 exact ⟨by rw [←hm];rfl,hb⟩
end Go.Proofs.YtdigofgjhaakmaaGreatDoor
namespace Go.Proofs.YtdigofgjhaakmaaGreatDoor
open Go.RowKit
open Sm
open Cf
open Df
namespace Df
structure ZV (w:World) (v:Value) (zs:List Tv):Prop where
 row:Rw w 33 v (zs.map zc)
 each:∀ z∈zs,TLen z.1∧Rws w z
theorem ZV.tsv {w:World} {v:Value} {zs:List Tv} (h:ZV w v zs):TSV w v (zs.map Prod.fst):=⟨zs,rfl,h.row,h.each⟩
theorem TSV.zv {w:World} {v:Value} {ts:List Ten} (h:TSV w v ts):∃ zs,zs.map Prod.fst=ts∧ZV w v zs:=by
 obtain ⟨zs,e,h1,h2⟩:=h
 exact ⟨zs,e,h1,h2⟩
theorem Rws.at_ {w V:World} {z:Tv} (h:Rws w z) (hb:Below w.heap.size w V):Rws V z:=⟨h.1.below ux_ne hb (Nat.le_refl _),h.2.1.below px_ne hb (Nat.le_refl _),h.2.2.below px_ne hb (Nat.le_refl _)⟩
theorem ZV.at_ {w V:World} {v:Value} {zs:List Tv} (h:ZV w v zs) (hb:Below w.heap.size w V):ZV V v zs:=⟨h.row.below zc_ne hb (Nat.le_refl _),fun z hz=>⟨(h.each z hz).1,Rws.at_ (h.each z hz).2 hb⟩⟩
theorem zc_all {w:World} {z:Tv} (h:Rws w z):(zc z).toArray.all (·.oneCell')=true:=tc_one2 z.1 (rw_one h.1) (rw_one h.2.1) (rw_one h.2.2)
theorem zc_sz {z:Tv} (h:TLen z.1):(zc z).toArray.size=33:=by rw [List.size_toArray];exact tc_len h _ _ _
theorem ZV.parts {w:World} {v:Value} {zs:List Tv} (h:ZV w v zs):∃ sa sc,v=.slice sa zs.length sc∧zs.length≤sc∧sc≤9223372036854775807∧∀ i (hi:i < zs.length),∃ b off,sa=some ⟨b,off,none⟩∧∀ V,Below w.heap.size w V→V.rangeAt b (off+i * 33) (zc zs[i]):=by
 obtain ⟨hr,hq⟩:=h
 have hrr:=hr
 obtain ⟨sa,sc,rfl,hl,hb,-⟩:=hrr
 rw [List.length_map] at hl hr ⊢
 refine ⟨sa,sc,rfl,hl,hb,fun i hi=>?_⟩
 obtain ⟨b,off,x,e1,e2,e3,e4,e5⟩:=tsv_at hr hq i hi
 obtain ⟨b',off',e1',hc⟩:=rw_at hr i (by rw [List.length_map];exact hi)
 rw [e1] at e1'
 simp only [Option.some.injEq,Addr.mk.injEq] at e1'
 obtain ⟨rfl,rfl,-⟩:=e1'
 refine ⟨b,off,e1,fun V hV j u hj=>?_⟩
 have hx:(zs.map zc).getD i []=zc zs[i]:=by simp [List.getD,List.getElem?_eq_getElem hi]
 rw [hx] at hc
 have h:=hc j u hj
 rw [hV.cell (p:=⟨b,off+i * 33+j,none⟩) (cell_lt h)]
 exact h
theorem MV.mono {V:World} {b n m:Nat} {M:List Tv} (h:MV V b n M) (hm:n≤m):MV V b m M:=⟨h.1.mono hm,h.2⟩
section
variable {w:World} {ops:Array Oper} {rest:List Oper} {o:Oper} {a:Act} {Q:Exit→Act→World→Prop}
theorem wp_look_ok' (hg:o.guard=none) (m x:Operand) (hop:o.op=Op.lookup 138 m x true) {b n:Nat} {M:List Tv} (hm:a.eval m=.map (some b)) (h:MV w b n M) {s:ByteArray} (hs:s.size≤maxLen) (hx:a.eval x=.string s) {A:Array Value} {B:Bool} (hA:vat M s.data.toList=.agg A) (hB:(look fk s.data.toList M).isSome=B)
  (hK:wpList Tryz.prog ops Q rest (a.put o.dst (.tuple #[.agg A,.bool B])) w):wpList Tryz.prog ops Q (o::rest) a w:=by
 refine wp_look_ok hg m x hop hm h hs hx ?_
 rw [hA,hB]
 exact hK
end
theorem vat_row {M:List Tv} (hM:∀ z∈M,TLen z.1∧(zc z).toArray.all (·.oneCell')=true) (n:List UInt8):∃ A,vat M n=.agg A∧A.size=33∧A.all (·.oneCell')=true:=by
 unfold vat
 cases hl:look fk n M with
 | none=>exact ⟨tz,rfl,rfl,by kernel_rfl⟩
 | some z=>exact ⟨_,rfl,zc_sz (hM z (look_some hl).1).1,(hM z (look_some hl).1).2⟩
theorem look_byn_take {zs:List Tv} {i:Nat} (hi:i < zs.length):byn fk (zs.take (i+1))=put fk zs[i] false (byn fk (zs.take i)):=by
 rw [List.take_add_one,List.getElem?_eq_getElem hi,Option.toList_some,byn_snoc]
theorem byName_any {w:World} {v:Value} {zs:List Tv} (h:ZV w v zs) (hn:∀ z∈zs,z.1.name.size≤1000000) (hm:zs.length≤1000) :
  Calls Tryz.prog 77 #[v] w fun e V=>∃ b,e=.returned (.map (some b))∧w.heap.size≤b∧MV V b zs.length (byn fk zs)∧Below w.heap.size w V:=by
 have hp:=h.parts
 obtain ⟨sa,sc,rfl,hlc,hcb,hx⟩:=hp
 have HE:Hid (∀ i (hi:i < zs.length),TLen zs[i].1∧(zc zs[i]).toArray.all (·.oneCell')=true∧zs[i].1.name.size≤maxLen):=by
  intro i hi
  have hz:=List.getElem_mem hi
  refine ⟨(h.each _ hz).1,zc_all (h.each _ hz).2,?_⟩
  have:=hn _ hz
  unfold maxLen;omega
 have HM:Hid (∀ i,∀ z∈byn fk (zs.take i),TLen z.1∧(zc z).toArray.all (·.oneCell')=true):=by
  intro i z hz
  have hz:=List.mem_of_mem_take (mem_byn hz)
  exact ⟨(h.each _ hz).1,zc_all (h.each _ hz).2⟩
 have HX:Hid (∀ i (hi:i < zs.length),∃ b off,sa=some ⟨b,off,none⟩∧∀ V,Below w.heap.size w V→V.rangeAt b (off+i * 33) (zc zs[i])):=hx
 have HT:Hid (∀ i (hi:i < zs.length),byn fk (zs.take (i+1))=put fk zs[i] false (byn fk (zs.take i))):=fun i hi=>look_byn_take hi
 have HT0:Hid (byn fk (zs.take zs.length)=byn fk zs):=by show _=_;rw [List.take_length]
 clear h hn hx
 obtain ⟨N,hN⟩:∃ N,zs.length=N:=⟨_,rfl⟩
 rw [hN] at HT0 hlc hm
 simp only [hN] at HE HX HT ⊢
 obtain ⟨g,hg⟩:∃ g,w.heap.size=g:=⟨_,rfl⟩
 have H0:Hid (MV (w.alloc (.map #[] 0)) g 0 (byn fk (zs.take 0))∧Below g w (w.alloc (.map #[] 0))):=⟨by rw [←hg];exact MV.made w,by rw [←hg];exact (Below.refl _ _).alloc (Nat.le_refl _) _⟩
 have hmm:=@run_makeMap Tryz.prog
 go_enter Tryz.func77,Tryz.ntmps77
 go_upto_region 2 with fail
 refine wp_letter (fun X=>MV X g 0 (byn fk (zs.take 0))∧Below g w X) (by exact H0.out) ?_
 intro V0 hV0
 try simp only [hg]
 have HV0:Hid (MV V0 g 0 (byn fk (zs.take 0))∧Below g w V0):=hV0
 clear H0 hV0 hmm
 rw [hg] at HX
 go_wp2_with fail
 go_loopw [11] (fun u11 w'=>∃ i:Nat,i≤N∧u11=.int .i64 i∧Hid (MV w' g i (byn fk (zs.take i))∧Below g w w')) (fun u11 w'=>N - (intOf u11).toNat)
 case atStart=>exact ⟨0,Nat.zero_le _,rfl,HV0⟩
 case round =>
  obtain ⟨i,hi,rfl,HR⟩:=hrel
  clear HV0
  by_cases hlt:i < N
  ·have h1:(i:Int) < N:=by omega
   obtain ⟨b,off,rfl,hV⟩:=HX.out i hlt
   obtain ⟨hl,ho,hs⟩:=HE.out i hlt
   have hra:=hV _ HR.out.2
   have hT:=HT.out i hlt
   obtain ⟨A1,hA1,hA2,hA3⟩:=vat_row (HM.out i) (fk (zs[i]'(by omega)))
   obtain ⟨B1,hB1⟩:∃ B,(look fk (fk (zs[i]'(by omega))) (byn fk (zs.take i))).isSome=B:=⟨_,rfl⟩
   clear hV HX HE HT HM
   generalize hz:zs[i]'(by omega)=z at *
   obtain ⟨M,hMe⟩:∃ M,byn fk (zs.take i)=M:=⟨_,rfl⟩
   rw [hMe] at HR hT hA1 hB1
   clear hMe
   have hsz:=tc_len hl z.2.1 z.2.2.1 z.2.2.2
   have hi33:(Tryz.prog.info? 46).map (·.size)=some (zc z).length:=by rw [show (zc z).length=33 from hsz];kernel_rfl
   have hj33:(Tryz.prog.info? 46).map (·.size)=some (zc z).toArray.size:=by rw [zc_sz hl];kernel_rfl
   have hs33:tz.size=(zc z).toArray.size:=by rw [zc_sz hl];rfl
   obtain ⟨gt,hgt⟩:∃ g,wr.heap.size=g:=⟨_,rfl⟩
   have hk1:(wr.alloc (.cells tz 46)).heap[gt]? = some (.cells tz 46):=by rw [←hgt];exact heap_alloc_new _ _
   have ew:(wr.alloc (.cells tz 46)).setRow gt (zc z).toArray=wr.alloc (.cells (zc z).toArray 46):=by rw [←hgt];exact World.setRow_alloc_new wr tz (zc z).toArray 46
   have HF:Hid (Mem wr ((wr.alloc (.cells tz 46)).setRow gt (zc z).toArray) [(gt,.cells (zc z).toArray 46)]):=by rw [ew];exact (Mem.nil wr).push1 hgt.symm
   clear ew
   go_upto_region 5 with (first | (refine wpList_load_mid rfl 46 (.tmp 13) (by with_reducible rfl) b (off+i * 33) (by simp [Act.eval]) (zc z) _ hra Tryz.underlying46 rfl hi33 ?_) | (refine wpList_store_row rfl 46 (.tmp 5) (.tmp 14) (by with_reducible rfl) gt (zc z).toArray (by simp [Act.eval];try exact hgt) (by first | rfl | simp [Act.eval]) 46 tz hk1 hj33 hs33 ho ?_) | fail)
   refine wp_letter (fun X=>Mem wr X [(gt,.cells (zc z).toArray 46)]) (by exact HF.out) ?_
   intro V1 hM1
   try simp only [hgt]
   clear HF hk1 hra hi33 hs33 ho
   have hMV1:MV V1 g i M:=HR.out.1.below hM1.below (Nat.le_refl _)
   have hc0:V1.cell? ⟨gt,0,none⟩=some (.string z.1.name):=by rw [hM1.cell 0 rfl];exact (tc_at hl _ _ _).1
   obtain ⟨g2,hg2⟩:∃ g,V1.heap.size=g:=⟨_,rfl⟩
   have hk2:(V1.alloc (.cells tz 46)).heap[g2]? = some (.cells tz 46):=by rw [←hg2];exact heap_alloc_new _ _
   have hj2:(Tryz.prog.info? 46).map (·.size)=some A1.size:=by rw [hA2];kernel_rfl
   have hs2:tz.size=A1.size:=by rw [hA2];rfl
   have HF:Hid (Mem wr ((V1.alloc (.cells tz 46)).setRow g2 A1) [(gt,.cells (zc z).toArray 46)]):=by
    rw [←hg2,World.setRow_alloc_new]
    exact hM1.after ((Below.refl _ _).alloc (Nat.le_refl _) _)
   have HM1:Hid (Mem wr V1 [(gt,.cells (zc z).toArray 46)]):=hM1
   clear hM1
   go_upto_region 6 with (first | (at_lookup;refine wp_look_ok' rfl _ _ rfl (b:=g) (n:=i) (M:=M) (by first | rfl | simp [Act.eval]) hMV1 (s:=z.1.name) hs (by first | rfl | simp [Act.eval]) hA1 hB1 ?_) | (refine wpList_store_row rfl 46 (.tmp 6) (.tmp 20) (by with_reducible rfl) g2 A1 (by simp [Act.eval];try exact hg2) (by first | rfl | simp [Act.eval]) 46 tz hk2 hj2 hs2 hA3 ?_) | fail)
   refine wp_letter (fun X=>Mem wr X [(gt,.cells (zc z).toArray 46)]) (by exact HF.out) ?_
   intro V2 hM2
   try simp only [hg2]
   clear HF hk2 hj2 hs2 hA1 hA2 hA3 hMV1 hc0 HM1 hg2
   have hMV2:MV V2 g i M:=HR.out.1.below hM2.below (Nat.le_refl _)
   have hc0:V2.cell? ⟨gt,0,none⟩=some (.string z.1.name):=by rw [hM2.cell 0 rfl];exact (tc_at hl _ _ _).1
   have hk:=hM2.get 0 rfl
   have HB2:Hid (Below g w V2):=HR.out.2.trans (hM2.below.mono (by rw [←hg];exact HR.out.2.size))
   cases B1 with
   | true =>
    obtain ⟨y,hy⟩:=Option.isSome_iff_exists.1 hB1
    have HF:Hid (MV V2 g (i+1) (byn fk (zs.take (i+1)))∧Below g w V2):=⟨by rw [hT,put_false_some hMV2.2 hy];exact hMV2.mono (Nat.le_succ _),HB2.out⟩
    clear hMV2 hM2 HB2 HR hT hB1
    go_wp2_with fail
    go_roundw
    case rel=>exact ⟨i+1,by omega,by go_num,HF⟩
    case measure=>simp [intOf];omega
   | false =>
    have hno:look fk (fk z) M=none:=by
     cases hh:look fk (fk z) M with
     | none=>rfl
     | some y=>rw [hh] at hB1;cases hB1
    have HF:Hid (∀ W,MV W g (i+1) (put fk z true M)→V2.grownBy W (some g)→MV W g (i+1) (byn fk (zs.take (i+1)))∧Below g w W):=by
     intro W h1 h2
     refine ⟨by rw [hT,put_false_none hMV2.2 hno];exact h1,HB2.out.grown h2 (by rw [←hg];exact HB2.out.size) (fun j hj=>by cases hj;exact Nat.le_refl _)⟩
    have hil:i < maxLen:=by unfold maxLen;omega
    clear hM2 HB2 HR hT hB1 hno
    go_wp2_with (first | (refine wpList_load_row rfl 46 (.tmp 5) (by with_reducible rfl) gt (by first | rfl | simp [Act.eval]) 46 (zc z).toArray (0,0) _ hk Tryz.underlying46 rfl hj33 ?_) | (at_mapUpdate;refine wp_store rfl _ _ _ rfl (b:=g) (n:=i) (M:=M) (by first | rfl | simp [Act.eval]) hMV2 hil z hs (by first | rfl | simp [Act.eval]) (by first | rfl | simp [Act.eval,tv]) ?_;intro W hW1 hW2) | fail)
    have HF2:=HF.out W hW1 hW2
    go_roundw
    case rel=>exact ⟨i+1,by omega,by go_num,HF2⟩
    case measure=>simp [intOf];omega
  ·have h1:¬ ((i:Int) < N):=by omega
   obtain rfl:i=N:=by omega
   have HF:Hid (MV wr g i (byn fk zs)∧Below g w wr):=by rw [←HT0.out];exact HR.out
   clear HR HT0 HX HE HT HM
   go_wp2_with fail
   go_ret
   exact ⟨g,rfl,by first | exact Nat.le_refl _ | exact Nat.le_of_eq hg,HF.out.1,by first | exact HF.out.2 | (rw [hg];exact HF.out.2)⟩
end Df
end Go.Proofs.YtdigofgjhaakmaaGreatDoor
namespace Go.Proofs.YtdigofgjhaakmaaGreatDoor
open Go.RowKit
open Ad
end Go.Proofs.YtdigofgjhaakmaaGreatDoor
namespace Go.Proofs.YtdigofgjhaakmaaGreatDoor
open Go.RowKit
open Ad
open Sm (IsBytes)
abbrev z8:List Int:=[0,0,0,0,0,0,0,0]
def kv (o:Option (List Int)):Value:=.agg (ab (o.getD z8))
def le {α:Type} (o:Option α):Int:=if o.isSome then 0 else 60
end Go.Proofs.YtdigofgjhaakmaaGreatDoor
