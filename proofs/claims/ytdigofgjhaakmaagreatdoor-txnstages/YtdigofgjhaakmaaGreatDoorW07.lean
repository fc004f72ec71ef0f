/-
  What errors.Is and errors.As answer to package log: at the error of a block that isn't whole, at a number of an error, at none.
  Settings as bytes: the field of a list's elements (lych/api.Tenant, lych/api.Pair).
  Settings as bytes: the field of a text keeps what is asked of a field.
  Settings as bytes: the field of a number keeps what is asked of a field (uint32, uint32).
  Settings as bytes: the field of a number keeps what is asked of a field (lych/api.Pair, uint32).
  Settings as bytes: the field of a list's length keeps what is asked of a field.
  Settings as bytes: the field of a list's length keeps what is asked of a field.
  Settings as bytes: the field of a number keeps what is asked of a field (lych/api.Tenant, uint32).
  Settings as bytes: the field of a number keeps what is asked of a field (lych/api.Tenant, uint16).
  Settings as bytes: the field of an array of bytes keeps what is asked of a field.
  Settings as bytes: the field of a list's length keeps what is asked of a field.
  Settings as bytes: the field of a number keeps what is asked of a field (lych/api.Config, uint32).
  Settings as bytes: fields one behind the other keep what is asked of a field (lych/api.Tenant).
  Settings as bytes: the field of a text keeps what is asked of a field.
-/
import Derived.Test.YtdigofgjhaakmaaGreatDoorW06
import Derived.LaidEql
import Derived.Stop.Asserts
import Derived.RowKitTokens
import Derived.Deep.MidRow
import Derived.Deep.WholeRow
import Derived.Test.YtdigofgjhaakmaaGreatDoorW04
import Derived.Test.YtdigofgjhaakmaaGreatDoorW05
set_option linter.unusedVariables false
set_option maxRecDepth 20000
set_option maxHeartbeats 40000000
namespace Go.Proofs.YtdigofgjhaakmaaGreatDoor
open Go.RowKit Go.Extern.Stop Go.Stop Go.Extern
theorem is_typeOf (v:Value) (w:World):(Extern.ReflectliteType.typeOf #[.iface 342 v]).run Tryz.prog w=.ok (.iface 192 (.agg #[.pointer (some ⟨4,342,none⟩)])) w:=by kernel_rfl
def cmpEntry : Array Value → Sem Value := Extern.ReflectliteType.method fun t => do Rtype.noPackHeld "Comparable" t; pure (.bool (← typeInfo t).comparable)
theorem is_comparable (w:World):(cmpEntry #[.agg #[.pointer (some ⟨4,342,none⟩)]]).run Tryz.prog w=.ok (.bool true) w:=by kernel_rfl
theorem is_methodComparable (v : Value) (w : World) : (Go.method 473 192 v "Comparable").run Tryz.prog w = .ok (345, v) w := by kernel_rfl
theorem is_comp:(Tryz.prog.info? 342).map (·.comparable)=some true:=by kernel_rfl
theorem is_size:(Tryz.prog.info? 362).map (·.size)=some 1:=by kernel_rfl
theorem is_noIs (v:Value) (xT:TypeId) (w:World):(Instr.typeAssert (.iface 28 v) xT 194 true).run Tryz.prog w=.ok (.tuple #[.nilIface,.bool false]) w:=run_typeAssert_lacksB Tryz.underlying194 (by kernel_rfl) (by kernel_rfl) v xT w
theorem is_noUnwrap (v:Value) (xT:TypeId) (w:World):(Instr.typeAssert (.iface 28 v) xT 196 true).run Tryz.prog w=.ok (.tuple #[.nilIface,.bool false]) w:=run_typeAssert_lacksB Tryz.underlying196 (by kernel_rfl) (by kernel_rfl) v xT w
theorem is_noUnwraps (v:Value) (xT:TypeId) (w:World):(Instr.typeAssert (.iface 28 v) xT 198 true).run Tryz.prog w=.ok (.tuple #[.nilIface,.bool false]) w:=run_typeAssert_lacksB Tryz.underlying198 (by kernel_rfl) (by kernel_rfl) v xT w
theorem is_same (a:Addr) (w:World) :
  Calls Tryz.prog 62 #[.iface 342 (.pointer (some a)),.iface 342 (.pointer (some a))] w fun e w'=>e=.returned (.bool true)∧w=w':=by
 obtain ⟨i,hi,hcmp⟩:=Option.map_eq_some_iff.1 is_comp
 obtain ⟨j,hj,hjs⟩:=Option.map_eq_some_iff.1 is_size
 have h8:=@run_callFunc_extern Tryz.prog 89 _ Extern.ReflectliteType.typeOf Tryz.func89 (by kernel_rfl) (by kernel_rfl) (by kernel_rfl) (by kernel_rfl)
 have h32:=@run_callFunc_extern Tryz.prog 345 _ cmpEntry Tryz.func345 (by kernel_rfl) (by kernel_rfl) (by kernel_rfl) (by kernel_rfl)
 have tT:=is_typeOf
 have cT:=is_comparable
 have mR:=is_methodComparable
 have heq:=run_eql_iface_ptr_same (P:=Tryz.prog) w a Tryz.underlying134 Tryz.underlying342 hi hcmp hj
 go_enter Tryz.func62,Tryz.ntmps62
 go_wp2
 refine wp_loop_rounds 1 ?_
 rw [rounds_succ]
 go_wp2
 go_ret
 exact ⟨rfl,rfl⟩
theorem is_nil (b:Addr) (w:World) :
  Calls Tryz.prog 62 #[.nilIface,.iface 342 (.pointer (some b))] w fun e w'=>e=.returned (.bool false)∧w=w':=by
 have hn:=run_eql_iface_nil_left (P:=Tryz.prog) w 342 (.pointer (some b)) Tryz.underlying134
 go_enter Tryz.func62,Tryz.ntmps62
 go_wp2
 go_ret
 exact ⟨rfl,rfl⟩
theorem as_nil (t:Value) (w:World) :
  Calls Tryz.prog 96 #[.nilIface,t] w fun e w'=>e=.returned (.bool false)∧w=w':=by
 go_enter Tryz.func96,Tryz.ntmps96
 go_wp2
 go_ret
 exact ⟨rfl,rfl⟩
theorem as_typeOf (v:Value) (w:World):(ReflectliteType.typeOf #[.iface 28 v]).run Tryz.prog w=.ok (.iface 192 (.agg #[.pointer (some ⟨4,28,none⟩)])) w:=by kernel_rfl
end Go.Proofs.YtdigofgjhaakmaaGreatDoor
namespace Go.Proofs.YtdigofgjhaakmaaGreatDoor
open Go.RowKit
open Sm
open Cf
theorem iwr_TP {w W:World} {v:Value} {l:List Int} {L:List (Nat×Obj)} (h:Out w W v l L) (bo bi ko kw kr ks:Nat) (cw cr cs:Array Value) (p p':Addr) (sv:Value) (xs:List (List Value)) (hx:∀ x∈xs,∃ y z,x=[Value.int .u32 y,Value.int .u32 z])
  (co:∀ V,Mem w V L→V.cell? ⟨bo,0,none⟩=some (.func (.func ko) #[] #[]))
  (ci:∀ V,Mem w V L→V.cell? ⟨bi,0,none⟩=some (.func (.func kw) #[] cw)∧V.cell? ⟨bi,1,none⟩=some (.func (.func kr) #[] cr)∧V.cell? ⟨bi,2,none⟩=some (.func (.func ks) #[] cs))
  (eo:∀ args V,(callFunc ko args).run Tryz.prog V=.ok (.enter ko args) V) (ho:∀ V,Calls Tryz.prog ko #[.pointer (some p)] V fun e V'=>e=.returned (.pointer (some p'))∧V=V')
  (ew:∀ args V,(callFunc kw args).run Tryz.prog V=.ok (.enter kw args) V)
  (cx:∀ V,Mem w V L→V.cell? p'=some sv) (hrow:∀ V,Mem w V L→Rw V 2 sv xs) (enc:Nat→List Int)
  (hw:∀ i,i < min xs.length 255→∀ ge v l V,Out w V v l ((ge,.cells (xs.getD i []).toArray 122)::L)→l.length+(enc i).length≤1000000000→Calls Tryz.prog kw (#[v,.pointer (some ⟨ge,0,none⟩)]++cw) V fun e V'=>∃ v',e=.returned v'∧Out w V' v' (l++enc i) L)
  (hb:l.length+(cat enc (min xs.length 255)).length≤1000000000) :
  Calls Tryz.prog 303 #[v,.pointer (some p),.pointer (some ⟨bo,0,none⟩),.pointer (some ⟨bi,0,none⟩)] W fun e W'=>∃ v',e=.returned v'∧Out w W' v' (l++cat enc (min xs.length 255)) L:=by
 have c2:=co _ h.mem
 have c3:=cx _ h.mem
 obtain ⟨a,c,rfl,hlc,hcb,ha,-⟩:=hrow _ h.mem
 have CC:=counted_TP W a xs.length c hlc hcb ha
 obtain ⟨n,hn⟩:∃ n,min xs.length 255=n:=⟨_,rfl⟩
 have hn1:n≤255:=by omega
 have hn2:n≤xs.length:=by omega
 rw [hn] at CC hw hb ⊢
 have HO:Hid (Out w W v l L):=h
 have HRW:Hid (∀ V,Mem w V L→∀ i,i < n→∃ b off,a=some ⟨b,off,none⟩∧V.rangeAt b (off+i * 2) (xs.getD i [])):=by
  intro V hV i hi
  obtain ⟨a',c',e,_,_,_,hr⟩:=hrow V hV
  simp only [Value.slice.injEq] at e
  obtain ⟨rfl,-,rfl⟩:=e
  rcases hr with e | ⟨b,off,rfl,hc⟩
  ·rw [e] at hn2;simp at hn2;omega
  ·exact ⟨b,off,rfl,fun j u hj=>hc i (by omega) j u hj⟩
 have HX:Hid (∀ x∈xs,∃ y z,x=[Value.int .u32 y,Value.int .u32 z]):=hx
 clear h co cx hrow hlc hcb ha hn hx
 go_enter Tryz.func303,Tryz.ntmps303
 go_wp2_with fail
 refine (ho _).mono ?_
 rintro e V ⟨rfl,rfl⟩
 go_wp2_with fail
 refine CC.mono ?_
 rintro e V ⟨rfl,rfl⟩
 go_wp2_with fail
 go_loopw [0,16] (fun u0 u16 w'=>∃ i:Nat,i≤n∧u16=.int .i64 i∧Hid (Out w w' u0 (l++cat enc i) L)) (fun u0 u16 w'=>n - (intOf u16).toNat)
 case atStart=>exact ⟨0,Nat.zero_le _,rfl,by rw [cat,List.append_nil];exact HO⟩
 case round =>
  obtain ⟨i,hi,rfl,HR⟩:=hrel
  clear c2 c3 CC HO
  by_cases hlt:i < n
  ·have h1:(i:Int) < n:=by omega
   obtain ⟨d0,d1,d2⟩:=ci _ HR.out.mem
   obtain ⟨b,off,rfl,hra⟩:=HRW.out _ HR.out.mem i hlt
   have hmem:xs.getD i []∈xs:=by
    rw [List.getD_eq_getElem?_getD,List.getElem?_eq_getElem (by omega),Option.getD_some]
    exact List.getElem_mem _
   have HW:Hid (∀ V ge,Out w V u0 (l++cat enc i) ((ge,.cells (xs.getD i []).toArray 122)::L)→Calls Tryz.prog kw (#[u0,.pointer (some ⟨ge,0,none⟩)]++cw) V fun e V'=>∃ v',e=.returned v'∧Out w V' v' (l++cat enc (i+1)) L):=by
    intro V ge hV
    have:=hw i hlt ge u0 _ V hV (by rw [List.length_append];have:=cat_le enc i n hlt;omega)
    rwa [List.append_assoc] at this
   have hsh:=HX.out _ hmem
   generalize xs.getD i []=x at hra hsh HW
   clear hw hmem HRW HX
   obtain ⟨y,z,rfl⟩:=hsh
   have d3:wr.cell? ⟨b,off+i * 2,none⟩=some (.int .u32 y):=by have:=hra 0 _ rfl;simpa using this
   have d4:wr.cell? ⟨b,off+i * 2+1,none⟩=some (.int .u32 z):=by have:=hra 1 _ rfl;simpa using this
   have HO2:=HR.out.add (o:=.cells #[.int .u32 y,.int .u32 z] 122) (g:=wr.heap.size) rfl
   have d5:=(ci _ HO2.mem.sub).1
   go_wp2_with fail
   refine (HW.out _ wr.heap.size HO2).mono ?_
   rintro e V ⟨v',rfl,hH⟩
   have HH:Hid (Out w V v' (l++cat enc (i+1)) L):=hH
   clear hH HW HR HO2
   go_wp2_with fail
   go_roundw
   case rel=>exact ⟨i+1,by omega,by go_num,HH⟩
   case measure=>simp [intOf];omega
  ·have h1:¬ ((i:Int) < n):=by omega
   obtain rfl:i=n:=by omega
   go_wp2_with fail
   go_ret
   exact ⟨_,rfl,HR.out⟩
theorem ird_TP {σ:Type} {w:World} {L:List (Nat×Obj)} {J:σ→World→Prop} (hst:∀ s V V',J s V→Below V.heap.size V V'→J s V') (hJL:∀ s V,J s V→Mem w V L) (bo bi ko kw kr ks:Nat) (cw cr cs:Array Value) (p p':Addr)
  (sa:Option Addr) (n sc:Nat) (hn:n≤255) (hb:Nat) (hsa:0 < n→sa=some ⟨hb,0,none⟩)
  (co:∀ V,Mem w V L→V.cell? ⟨bo,0,none⟩=some (.func (.func ko) #[] #[]))
  (ci:∀ V,Mem w V L→V.cell? ⟨bi,0,none⟩=some (.func (.func kw) #[] cw)∧V.cell? ⟨bi,1,none⟩=some (.func (.func kr) #[] cr)∧V.cell? ⟨bi,2,none⟩=some (.func (.func ks) #[] cs))
  (eo:∀ args V,(callFunc ko args).run Tryz.prog V=.ok (.enter ko args) V) (ho:∀ V,Calls Tryz.prog ko #[.pointer (some p)] V fun e V'=>e=.returned (.pointer (some p'))∧V=V')
  (er:∀ args V,(callFunc kr args).run Tryz.prog V=.ok (.enter kr args) V)
  (dec:Nat→List Int→σ→Option (σ×List Int))
  (hr:∀ i,i < n→∀ s l a c V,J s V→Sl w a l c→Calls Tryz.prog kr (#[.slice a l.length c,.pointer (some ⟨hb,i * 2,none⟩)]++cr) V (RPost w L J (dec i l s)))
  (s:σ) (l:List Int) (a:Option Addr) (c:Nat) (W:World) (h:J s W) (hS:Sl w a l c) (cx:W.cell? p'=some (.slice sa n sc)) :
  Calls Tryz.prog 304 #[.slice a l.length c,.pointer (some p),.pointer (some ⟨bo,0,none⟩),.pointer (some ⟨bi,0,none⟩)] W (RPost w L J (sq dec 0 n l s)):=by
 have c0:=co _ (hJL _ _ h)
 obtain ⟨R,hR⟩:∃ R,sq dec 0 n l s=R:=⟨_,rfl⟩
 rw [hR]
 have HCI:Hid (∀ V,Mem w V L→V.cell? ⟨bi,1,none⟩=some (.func (.func kr) #[] cr)):=fun V hV=>(ci V hV).2.1
 have HJL:Hid (∀ s V,J s V→Mem w V L):=hJL
 clear ci co hJL
 go_enter Tryz.func304,Tryz.ntmps304
 go_wp2_with fail
 refine (ho _).mono ?_
 rintro e V ⟨rfl,rfl⟩
 go_wp2_with fail
 go_loopw [0,19] (fun u0 u19 w'=>∃ (i:Nat) (s':σ) (l':List Int) (a':Option Addr) (c':Nat),i≤n∧u19=.int .i64 i∧u0=.slice a' l'.length c'∧Hid (J s' w'∧Sl w a' l' c'∧sq dec i (n - i) l' s'=R)) (fun u0 u19 w'=>n - (intOf u19).toNat)
 case atStart=>exact ⟨0,s,l,a,c,Nat.zero_le _,rfl,rfl,h,hS,by simpa using hR⟩
 case round =>
  obtain ⟨i,s',l',a',c',hi,rfl,rfl,HR⟩:=hrel
  obtain ⟨hJ,hSl,hsq⟩:=HR.out
  clear c0 cx
  by_cases hlt:i < n
  ·have h1:(i:Int) < n:=by omega
   obtain rfl:=hsa (by omega)
   have d1:=HCI.out _ (HJL.out _ _ hJ)
   have d2:=HCI.out _ (HJL.out _ _ hJ).drew
   have HW:Hid (∀ V,Below wr.heap.size wr V→Calls Tryz.prog kr (#[.slice a' l'.length c',.pointer (some ⟨hb,i * 2,none⟩)]++cr) V (RPost w L J (dec i l' s'))):=fun V hV=>hr i hlt s' l' a' c' V (hst _ _ _ hJ hV) hSl
   rw [show n - i=(n - (i+1))+1 by omega,sq] at hsq
   clear hr hst hJ hSl hR HR h hS
   generalize l'.length=m at HW
   cases hd:dec i l' s' with
   | none =>
    rw [hd] at hsq HW
    simp only at hsq
    subst hsq
    have CW:=HW.out _ ((Below.refl _ wr).drew)
    go_upto_region 5 with fail
    go_region_held3 (fun V=>V.cell? ⟨bi,1,none⟩=some (.func (.func kr) #[] cr)) (first | assumption | exact HCI.out _ hM | go_keep)
     (first | (go_at_fn kr;refine CW.mono ?_;rintro e V ⟨rfl,hM⟩))
    clear HW CW
    go_wp2_with fail
    go_ret2
    exact ⟨rfl,hM⟩
   | some x =>
    obtain ⟨s2,l2⟩:=x
    rw [hd] at hsq HW
    simp only at hsq
    have CW:=HW.out _ ((Below.refl _ wr).drew)
    go_upto_region 5 with fail
    go_region_held3 (fun V=>V.cell? ⟨bi,1,none⟩=some (.func (.func kr) #[] cr)) (first | assumption | exact HCI.out _ (HJL.out _ _ hJ2) | go_keep)
     (first | (go_at_fn kr;refine CW.mono ?_;rintro e V ⟨a2,c2,rfl,hS2,hJ2⟩))
    have HH:Hid (J s2 V∧Sl w a2 l2 c2∧sq dec (i+1) (n - (i+1)) l2 s2=R):=⟨hJ2,hS2,hsq⟩
    clear HW CW hJ2 hS2 hsq hd
    go_wp2_with fail
    go_roundw
    case rel=>exact ⟨i+1,s2,l2,a2,c2,by omega,by go_num,rfl,HH⟩
    case measure=>simp [intOf];omega
  ·have h1:¬ ((i:Int) < n):=by omega
   obtain rfl:i=n:=by omega
   rw [Nat.sub_self,sq] at hsq
   subst hsq
   clear HR
   go_wp2_with fail
   go_ret2
   exact ⟨_,_,rfl,hSl,hJ⟩
def fvTxt_T (bo:Nat):Fv:=⟨273,274,275,#[.pointer (some ⟨bo,0,none⟩)],#[.pointer (some ⟨bo,0,none⟩)],#[.pointer (some ⟨bo,0,none⟩)]⟩
theorem fd_Txt_T {α ρ:Type} {w:World} {L:List (Nat×Obj)} {I:Rp α ρ} {J:St' α} (bo ko o:Nat) (fg:α→ByteArray) (fs:α→ByteArray→α)
  (mo:(bo,.cells #[.func (.func ko) #[] #[]] 290)∈L)
  (eo:Ent ko) (ho:∀ V g off,Calls Tryz.prog ko #[.pointer (some ⟨g,off,none⟩)] V fun e V'=>e=.returned (.pointer (some ⟨g,off+o,none⟩))∧V=V')
  (hI:∀ x r V g off,I x r V g off→(fg x).size≤140737488351232∧V.cell? ⟨g,off+o,none⟩=some (.string (fg x)))
  (hJ:∀ x g T pre post V K,J w x g T pre post V K→∃ A M,Lens w J o x g T pre post V K M A∧A[pre.length+o]? = some (.string (fg x)) ∧
   ∀ y V',Mem w V' ((g,.cells (A.setIfInBounds (pre.length+o) (.string y)) T (0,0))::M)→J w (fs x y) g T pre post V' K) :
  Fd w L I J (fvTxt_T bo) (spTxt fg fs):=by
 refine ⟨enters_of Tryz.func273 (by kernel_rfl) rfl,enters_of Tryz.func274 (by kernel_rfl) rfl,enters_of Tryz.func275 (by kernel_rfl) rfl,?_,?_,?_⟩
 ·intro K hK x r g off hx v l V hO hb
  exact twr_T hO bo ko ⟨g,off,none⟩ ⟨g,off+o,none⟩ (fg x) (hI _ _ _ _ _ (hx V hO.mem)).1 (fun V hV=>by rw [mem_box hV (hK _ mo)];rfl) eo (fun V=>ho V g off) (fun V hV=>(hI _ _ _ _ _ (hx V hV)).2) hb
 ·intro K hK x g T pre post a l c V hj hS
  obtain ⟨A,M,hl,hA,hset⟩:=hJ x g T pre post V K hj
  have:=trd_T hl.mem hS bo ko (pre.length+o) ⟨g,pre.length,none⟩ (fg x) hA (fun V hV=>by rw [mem_box hV (hl.sub _ (hK _ mo))];rfl) eo (fun V=>ho V g pre.length)
  refine this.mono ?_
  intro e V' hR
  exact hR.mono (fs x) rfl (hl.back V') (fun y hy=>hset y V' hy)
 ·intro K hK x y r r' g off h of' hx V hV
  exact tsm_T hV bo ko ⟨g,off,none⟩ ⟨g,off+o,none⟩ ⟨h,of',none⟩ ⟨h,of'+o,none⟩ (fg x) (fg y) (fun V hV=>by rw [mem_box hV (hK _ mo)];rfl) eo (fun V=>ho V g off) (fun V=>ho V h of') (fun V hV=>(hI _ _ _ _ _ (hx V hV).1).2) (fun V hV=>(hI _ _ _ _ _ (hx V hV).2).2)
theorem mk_Txt_T {w W:World} {L:List (Nat×Obj)} (h:Mem w W L) (ko:Nat) :
  Calls Tryz.prog 231 #[.func (.func ko) #[] #[]] W fun e W'=>∃ bo,e=.returned (fvTxt_T bo).val∧Mem w W' ((bo,.cells #[.func (.func ko) #[] #[]] 290)::L):=by
 have hM:Mem w (W.alloc (.cells #[.func (.func ko) #[] #[]] 290)) ((W.heap.size,.cells #[.func (.func ko) #[] #[]] 290)::L):=(h.push W.heap.size (.cells #[.func (.func ko) #[] #[]] 290) rfl).perm List.perm_append_comm
 have hmf:∀ (fn:Fn) (first cap:Array Value) (w:World),(Instr.makeFunc fn first cap).run Tryz.prog w=.ok (.func fn first cap) w:=fun _ _ _ _=>rfl
 have HM:Hid (Mem w (W.alloc (.cells #[.func (.func ko) #[] #[]] 290)) ((W.heap.size,.cells #[.func (.func ko) #[] #[]] 290)::L)):=hM
 clear hM h
 go_enter Tryz.func231,Tryz.ntmps231
 go_wp2_with fail
 refine bodyPost_ret (v:=(fvTxt_T W.heap.size).val) ?_ rfl ⟨_,rfl,HM.out.after ((Below.refl _ _).alloc (Nat.le_refl _) _)⟩
 exact results_cell_row (p:=2) (ty:=246) rfl _ _ (W.heap.size+1) 246 _ (0,0) _ rfl (heap_alloc2_new _ _ _) Tryz.underlying246 rfl (by kernel_rfl)
def fvNum_UU (bs bo:Nat):Fv:=⟨315,316,317,#[.pointer (some ⟨bs,0,none⟩),.pointer (some ⟨bo,0,none⟩)],#[.pointer (some ⟨bs,0,none⟩),.pointer (some ⟨bo,0,none⟩)],#[.pointer (some ⟨bo,0,none⟩)]⟩
theorem fd_num_UU {α ρ:Type} {w:World} {L:List (Nat×Obj)} {I:Rp α ρ} {J:St' α} (bs bo sz ko o:Nat) (hs:sz≤4) (fits:∀ q,0≤q→q < 256 ^ sz→IntKind.u32.wrap q=q) (fg:α→Int) (fs:α→Int→α)
  (mb:(bs,.cells #[.int .i64 sz] 3)∈L) (mo:(bo,.cells #[.func (.func ko) #[] #[]] 331)∈L)
  (eo:Ent ko) (ho:∀ V g off,Calls Tryz.prog ko #[.pointer (some ⟨g,off,none⟩)] V fun e V'=>e=.returned (.pointer (some ⟨g,off+o,none⟩))∧V=V')
  (hI:∀ x r V g off,I x r V g off→V.cell? ⟨g,off+o,none⟩=some (.int .u32 (fg x)))
  (hJ:∀ x g T pre post V K,J w x g T pre post V K→∃ A M,Lens w J o x g T pre post V K M A∧A[pre.length+o]? = some (.int .u32 (fg x)) ∧
   ∀ y V',Mem w V' ((g,.cells (A.setIfInBounds (pre.length+o) (.int .u32 y)) T (0,0))::M)→J w (fs x y) g T pre post V' K) :
  Fd w L I J (fvNum_UU bs bo) (spNum sz fg fs):=by
 refine ⟨enters_of Tryz.func315 (by kernel_rfl) rfl,enters_of Tryz.func316 (by kernel_rfl) rfl,enters_of Tryz.func317 (by kernel_rfl) rfl,?_,?_,?_⟩
 ·intro K hK x r g off hx v l V hO hb
  have hb':l.length+sz≤1000000000:=by simpa [spNum,be_len] using hb
  have:=nwr_UU hO bs bo sz ko ⟨g,off,none⟩ ⟨g,off+o,none⟩ (fg x) (by omega) (fun V hV=>by rw [mem_box hV (hK _ mb)];rfl) (fun V hV=>by rw [mem_box hV (hK _ mo)];rfl) eo (fun V=>ho V g off) (fun V hV=>hI _ _ _ _ _ (hx V hV)) hb'
  rw [be_wrap sz (by omega)] at this
  exact this
 ·intro K hK x g T pre post a l c V hj hS
  obtain ⟨A,M,hl,hA,hset⟩:=hJ x g T pre post V K hj
  have:=nrd_UU hl.mem hS bs bo sz ko (pre.length+o) ⟨g,pre.length,none⟩ (fg x) hs fits hA (fun V hV=>by rw [mem_box hV (hl.sub _ (hK _ mb))];rfl) (fun V hV=>by rw [mem_box hV (hl.sub _ (hK _ mo))];rfl) eo (fun V=>ho V g pre.length)
  refine this.mono ?_
  intro e V' hR
  refine hR.mono (fs x) ?_ (hl.back V') (fun y hy=>hset y V' hy)
  simp only [spNum]
  split <;> rfl
 ·intro K hK x y r r' g off h of' hx V hV
  exact nsm_UU hV bo ko ⟨g,off,none⟩ ⟨g,off+o,none⟩ ⟨h,of',none⟩ ⟨h,of'+o,none⟩ (fg x) (fg y) (fun V hV=>by rw [mem_box hV (hK _ mo)];rfl) eo (fun V=>ho V g off) (fun V=>ho V h of') (fun V hV=>hI _ _ _ _ _ (hx V hV).1) (fun V hV=>hI _ _ _ _ _ (hx V hV).2)
theorem mk_num_UU {w W:World} {L:List (Nat×Obj)} (h:Mem w W L) (sz ko:Nat) :
  Calls Tryz.prog 301 #[.int .i64 sz,.func (.func ko) #[] #[]] W fun e W'=>∃ bs bo,e=.returned (fvNum_UU bs bo).val∧Mem w W' ((bs,.cells #[.int .i64 sz] 3)::(bo,.cells #[.func (.func ko) #[] #[]] 331)::L):=by
 have hM:Mem w ((W.alloc (.cells #[.int .i64 sz] 3)).alloc (.cells #[.func (.func ko) #[] #[]] 331)) ((W.heap.size,.cells #[.int .i64 sz] 3)::(W.heap.size+1,.cells #[.func (.func ko) #[] #[]] 331)::L):=by
  have h1:=(h.push W.heap.size (.cells #[.int .i64 sz] 3) rfl).push (W.heap.size+1) (.cells #[.func (.func ko) #[] #[]] 331) (by simp)
  refine h1.perm ?_
  rw [List.append_assoc]
  exact List.perm_append_comm
 have hmf:∀ (fn:Fn) (first cap:Array Value) (w:World),(Instr.makeFunc fn first cap).run Tryz.prog w=.ok (.func fn first cap) w:=fun _ _ _ _=>rfl
 have HM:Hid (Mem w ((W.alloc (.cells #[.int .i64 sz] 3)).alloc (.cells #[.func (.func ko) #[] #[]] 331)) ((W.heap.size,.cells #[.int .i64 sz] 3)::(W.heap.size+1,.cells #[.func (.func ko) #[] #[]] 331)::L)):=hM
 clear hM h
 go_enter Tryz.func301,Tryz.ntmps301
 go_wp2_with fail
 refine bodyPost_ret (v:=(fvNum_UU W.heap.size (W.heap.size+1)).val) ?_ rfl ⟨_,_,rfl,HM.out.after ((Below.refl _ _).alloc (Nat.le_refl _) _)⟩
 exact results_cell_row (p:=4) (ty:=308) rfl _ _ (W.heap.size+1+1) 308 _ (0,0) _ rfl (heap_alloc3_new _ _ _ _) Tryz.underlying308 rfl (by kernel_rfl)
def fvNum_PU (bs bo:Nat):Fv:=⟨321,322,323,#[.pointer (some ⟨bs,0,none⟩),.pointer (some ⟨bo,0,none⟩)],#[.pointer (some ⟨bs,0,none⟩),.pointer (some ⟨bo,0,none⟩)],#[.pointer (some ⟨bo,0,none⟩)]⟩
theorem fd_num_PU {α ρ:Type} {w:World} {L:List (Nat×Obj)} {I:Rp α ρ} {J:St' α} (bs bo sz ko o:Nat) (hs:sz≤4) (fits:∀ q,0≤q→q < 256 ^ sz→IntKind.u32.wrap q=q) (fg:α→Int) (fs:α→Int→α)
  (mb:(bs,.cells #[.int .i64 sz] 3)∈L) (mo:(bo,.cells #[.func (.func ko) #[] #[]] 337)∈L)
  (eo:Ent ko) (ho:∀ V g off,Calls Tryz.prog ko #[.pointer (some ⟨g,off,none⟩)] V fun e V'=>e=.returned (.pointer (some ⟨g,off+o,none⟩))∧V=V')
  (hI:∀ x r V g off,I x r V g off→V.cell? ⟨g,off+o,none⟩=some (.int .u32 (fg x)))
  (hJ:∀ x g T pre post V K,J w x g T pre post V K→∃ A M,Lens w J o x g T pre post V K M A∧A[pre.length+o]? = some (.int .u32 (fg x)) ∧
   ∀ y V',Mem w V' ((g,.cells (A.setIfInBounds (pre.length+o) (.int .u32 y)) T (0,0))::M)→J w (fs x y) g T pre post V' K) :
  Fd w L I J (fvNum_PU bs bo) (spNum sz fg fs):=by
 refine ⟨enters_of Tryz.func321 (by kernel_rfl) rfl,enters_of Tryz.func322 (by kernel_rfl) rfl,enters_of Tryz.func323 (by kernel_rfl) rfl,?_,?_,?_⟩
 ·intro K hK x r g off hx v l V hO hb
  have hb':l.length+sz≤1000000000:=by simpa [spNum,be_len] using hb
  have:=nwr_PU hO bs bo sz ko ⟨g,off,none⟩ ⟨g,off+o,none⟩ (fg x) (by omega) (fun V hV=>by rw [mem_box hV (hK _ mb)];rfl) (fun V hV=>by rw [mem_box hV (hK _ mo)];rfl) eo (fun V=>ho V g off) (fun V hV=>hI _ _ _ _ _ (hx V hV)) hb'
  rw [be_wrap sz (by omega)] at this
  exact this
 ·intro K hK x g T pre post a l c V hj hS
  obtain ⟨A,M,hl,hA,hset⟩:=hJ x g T pre post V K hj
  have:=nrd_PU hl.mem hS bs bo sz ko (pre.length+o) ⟨g,pre.length,none⟩ (fg x) hs fits hA (fun V hV=>by rw [mem_box hV (hl.sub _ (hK _ mb))];rfl) (fun V hV=>by rw [mem_box hV (hl.sub _ (hK _ mo))];rfl) eo (fun V=>ho V g pre.length)
  refine this.mono ?_
  intro e V' hR
  refine hR.mono (fs x) ?_ (hl.back V') (fun y hy=>hset y V' hy)
  simp only [spNum]
  split <;> rfl
 ·intro K hK x y r r' g off h of' hx V hV
  exact nsm_PU hV bo ko ⟨g,off,none⟩ ⟨g,off+o,none⟩ ⟨h,of',none⟩ ⟨h,of'+o,none⟩ (fg x) (fg y) (fun V hV=>by rw [mem_box hV (hK _ mo)];rfl) eo (fun V=>ho V g off) (fun V=>ho V h of') (fun V hV=>hI _ _ _ _ _ (hx V hV).1) (fun V hV=>hI _ _ _ _ _ (hx V hV).2)
theorem mk_num_PU {w W:World} {L:List (Nat×Obj)} (h:Mem w W L) (sz ko:Nat) :
  Calls Tryz.prog 309 #[.int .i64 sz,.func (.func ko) #[] #[]] W fun e W'=>∃ bs bo,e=.returned (fvNum_PU bs bo).val∧Mem w W' ((bs,.cells #[.int .i64 sz] 3)::(bo,.cells #[.func (.func ko) #[] #[]] 337)::L):=by
 have hM:Mem w ((W.alloc (.cells #[.int .i64 sz] 3)).alloc (.cells #[.func (.func ko) #[] #[]] 337)) ((W.heap.size,.cells #[.int .i64 sz] 3)::(W.heap.size+1,.cells #[.func (.func ko) #[] #[]] 337)::L):=by
  have h1:=(h.push W.heap.size (.cells #[.int .i64 sz] 3) rfl).push (W.heap.size+1) (.cells #[.func (.func ko) #[] #[]] 337) (by simp)
  refine h1.perm ?_
  rw [List.append_assoc]
  exact List.perm_append_comm
 have hmf:∀ (fn:Fn) (first cap:Array Value) (w:World),(Instr.makeFunc fn first cap).run Tryz.prog w=.ok (.func fn first cap) w:=fun _ _ _ _=>rfl
 have HM:Hid (Mem w ((W.alloc (.cells #[.int .i64 sz] 3)).alloc (.cells #[.func (.func ko) #[] #[]] 337)) ((W.heap.size,.cells #[.int .i64 sz] 3)::(W.heap.size+1,.cells #[.func (.func ko) #[] #[]] 337)::L)):=hM
 clear hM h
 go_enter Tryz.func309,Tryz.ntmps309
 go_wp2_with fail
 refine bodyPost_ret (v:=(fvNum_PU W.heap.size (W.heap.size+1)).val) ?_ rfl ⟨_,_,rfl,HM.out.after ((Below.refl _ _).alloc (Nat.le_refl _) _)⟩
 exact results_cell_row (p:=4) (ty:=315) rfl _ _ (W.heap.size+1+1) 315 _ (0,0) _ rfl (heap_alloc3_new _ _ _ _) Tryz.underlying315 rfl (by kernel_rfl)
def fvCnt_TU (bo:Nat):Fv:=⟨288,290,291,#[.pointer (some ⟨bo,0,none⟩)],#[.pointer (some ⟨bo,0,none⟩)],#[.pointer (some ⟨bo,0,none⟩)]⟩
theorem fd_Cnt_TU {α ρ:Type} {w:World} {L:List (Nat×Obj)} {I:Rp α ρ} {J:St' α} (bo ko o:Nat) (fl:α→Nat) (fs:α→Nat→α)
  (mo:(bo,.cells #[.func (.func ko) #[] #[]] 284)∈L)
  (eo:Ent ko) (ho:∀ V g off,Calls Tryz.prog ko #[.pointer (some ⟨g,off,none⟩)] V fun e V'=>e=.returned (.pointer (some ⟨g,off+o,none⟩))∧V=V')
  (sv:ρ→Value) (hI:∀ x r V g off,I x r V g off→(∃ a c,sv r=.slice a (fl x) c∧fl x≤c∧c≤9223372036854775807∧(a=none→c=0))∧V.cell? ⟨g,off+o,none⟩=some (sv r))
  (hJ:∀ x g T pre post V K,J w x g T pre post V K→∃ A M y,Lens w J o x g T pre post V K M A∧A[pre.length+o]? = some y ∧
   ∀ m V',m≤255→CMade_TU w V' g A T (pre.length+o) M m→J w (fs x m) g T pre post V' K) :
  Fd w L I J (fvCnt_TU bo) (spCnt fl fs):=by
 refine ⟨enters_of Tryz.func288 (by kernel_rfl) rfl,enters_of Tryz.func290 (by kernel_rfl) rfl,enters_of Tryz.func291 (by kernel_rfl) rfl,?_,?_,?_⟩
 ·intro K hK x r g off hx v l V hO hb
  obtain ⟨⟨a,c,e,h1,h2,h3⟩,-⟩:=hI _ _ _ _ _ (hx V hO.mem)
  exact cwr_TU hO bo ko ⟨g,off,none⟩ ⟨g,off+o,none⟩ a (fl x) c h1 h2 h3 (fun V hV=>by rw [mem_box hV (hK _ mo)];rfl) eo (fun V=>ho V g off) (fun V hV=>by rw [←e];exact (hI _ _ _ _ _ (hx V hV)).2) (by simpa [spCnt] using hb)
 ·intro K hK x g T pre post a l c V hj hS
  obtain ⟨A,M,y,hl,hA,hset⟩:=hJ x g T pre post V K hj
  have:=crd_TU hl.mem hS bo ko (pre.length+o) ⟨g,pre.length,none⟩ y hA (fun V hV=>by rw [mem_box hV (hl.sub _ (hK _ mo))];rfl) eo (fun V=>ho V g pre.length)
  refine this.mono ?_
  intro e V' hR
  refine hR.mono2 (fs x) ?_ (hl.back V') (fun m l' hm hc=>?_)
  ·cases l <;> rfl
  ·cases l with
   | nil=>cases hm
   | cons b r =>
    simp only [Option.some.injEq,Prod.mk.injEq] at hm
    obtain ⟨rfl,rfl⟩:=hm
    have:=hS.row.bytes 0
    simp only [List.getD_cons_zero] at this
    exact hset _ V' (by omega) hc
 ·intro K hK x y r r' g off h of' hx V hV
  obtain ⟨⟨a,c,e,h1,h2,h3⟩,-⟩:=hI _ _ _ _ _ (hx V hV).1
  obtain ⟨⟨a',c',e',h1',h2',h3'⟩,-⟩:=hI _ _ _ _ _ (hx V hV).2
  exact csm_TU hV bo ko ⟨g,off,none⟩ ⟨g,off+o,none⟩ ⟨h,of',none⟩ ⟨h,of'+o,none⟩ a a' (fl x) (fl y) c c' (fun V hV=>by rw [mem_box hV (hK _ mo)];rfl) eo (fun V=>ho V g off) (fun V=>ho V h of') (fun V hV=>by rw [←e];exact (hI _ _ _ _ _ (hx V hV).1).2) (fun V hV=>by rw [←e'];exact (hI _ _ _ _ _ (hx V hV).2).2)
theorem mk_Cnt_TU {w W:World} {L:List (Nat×Obj)} (h:Mem w W L) (ko:Nat) :
  Calls Tryz.prog 249 #[.func (.func ko) #[] #[]] W fun e W'=>∃ bo,e=.returned (fvCnt_TU bo).val∧Mem w W' ((bo,.cells #[.func (.func ko) #[] #[]] 284)::L):=by
 have hM:Mem w (W.alloc (.cells #[.func (.func ko) #[] #[]] 284)) ((W.heap.size,.cells #[.func (.func ko) #[] #[]] 284)::L):=(h.push W.heap.size (.cells #[.func (.func ko) #[] #[]] 284) rfl).perm List.perm_append_comm
 have hmf:∀ (fn:Fn) (first cap:Array Value) (w:World),(Instr.makeFunc fn first cap).run Tryz.prog w=.ok (.func fn first cap) w:=fun _ _ _ _=>rfl
 have HM:Hid (Mem w (W.alloc (.cells #[.func (.func ko) #[] #[]] 284)) ((W.heap.size,.cells #[.func (.func ko) #[] #[]] 284)::L)):=hM
 clear hM h
 go_enter Tryz.func249,Tryz.ntmps249
 go_wp2_with fail
 refine bodyPost_ret (v:=(fvCnt_TU W.heap.size).val) ?_ rfl ⟨_,rfl,HM.out.after ((Below.refl _ _).alloc (Nat.le_refl _) _)⟩
 exact results_cell_row (p:=2) (ty:=246) rfl _ _ (W.heap.size+1) 246 _ (0,0) _ rfl (heap_alloc2_new _ _ _) Tryz.underlying246 rfl (by kernel_rfl)
def fvCnt_TP (bo:Nat):Fv:=⟨292,294,295,#[.pointer (some ⟨bo,0,none⟩)],#[.pointer (some ⟨bo,0,none⟩)],#[.pointer (some ⟨bo,0,none⟩)]⟩
theorem fd_Cnt_TP {α ρ:Type} {w:World} {L:List (Nat×Obj)} {I:Rp α ρ} {J:St' α} (bo ko o:Nat) (fl:α→Nat) (fs:α→Nat→α)
  (mo:(bo,.cells #[.func (.func ko) #[] #[]] 286)∈L)
  (eo:Ent ko) (ho:∀ V g off,Calls Tryz.prog ko #[.pointer (some ⟨g,off,none⟩)] V fun e V'=>e=.returned (.pointer (some ⟨g,off+o,none⟩))∧V=V')
  (sv:ρ→Value) (hI:∀ x r V g off,I x r V g off→(∃ a c,sv r=.slice a (fl x) c∧fl x≤c∧c≤9223372036854775807∧(a=none→c=0))∧V.cell? ⟨g,off+o,none⟩=some (sv r))
  (hJ:∀ x g T pre post V K,J w x g T pre post V K→∃ A M y,Lens w J o x g T pre post V K M A∧A[pre.length+o]? = some y ∧
   ∀ m V',m≤255→CMade_TP w V' g A T (pre.length+o) M m→J w (fs x m) g T pre post V' K) :
  Fd w L I J (fvCnt_TP bo) (spCnt fl fs):=by
 refine ⟨enters_of Tryz.func292 (by kernel_rfl) rfl,enters_of Tryz.func294 (by kernel_rfl) rfl,enters_of Tryz.func295 (by kernel_rfl) rfl,?_,?_,?_⟩
 ·intro K hK x r g off hx v l V hO hb
  obtain ⟨⟨a,c,e,h1,h2,h3⟩,-⟩:=hI _ _ _ _ _ (hx V hO.mem)
  exact cwr_TP hO bo ko ⟨g,off,none⟩ ⟨g,off+o,none⟩ a (fl x) c h1 h2 h3 (fun V hV=>by rw [mem_box hV (hK _ mo)];rfl) eo (fun V=>ho V g off) (fun V hV=>by rw [←e];exact (hI _ _ _ _ _ (hx V hV)).2) (by simpa [spCnt] using hb)
 ·intro K hK x g T pre post a l c V hj hS
  obtain ⟨A,M,y,hl,hA,hset⟩:=hJ x g T pre post V K hj
  have:=crd_TP hl.mem hS bo ko (pre.length+o) ⟨g,pre.length,none⟩ y hA (fun V hV=>by rw [mem_box hV (hl.sub _ (hK _ mo))];rfl) eo (fun V=>ho V g pre.length)
  refine this.mono ?_
  intro e V' hR
  refine hR.mono2 (fs x) ?_ (hl.back V') (fun m l' hm hc=>?_)
  ·cases l <;> rfl
  ·cases l with
   | nil=>cases hm
   | cons b r =>
    simp only [Option.some.injEq,Prod.mk.injEq] at hm
    obtain ⟨rfl,rfl⟩:=hm
    have:=hS.row.bytes 0
    simp only [List.getD_cons_zero] at this
    exact hset _ V' (by omega) hc
 ·intro K hK x y r r' g off h of' hx V hV
  obtain ⟨⟨a,c,e,h1,h2,h3⟩,-⟩:=hI _ _ _ _ _ (hx V hV).1
  obtain ⟨⟨a',c',e',h1',h2',h3'⟩,-⟩:=hI _ _ _ _ _ (hx V hV).2
  exact csm_TP hV bo ko ⟨g,off,none⟩ ⟨g,off+o,none⟩ ⟨h,of',none⟩ ⟨h,of'+o,none⟩ a a' (fl x) (fl y) c c' (fun V hV=>by rw [mem_box hV (hK _ mo)];rfl) eo (fun V=>ho V g off) (fun V=>ho V h of') (fun V hV=>by rw [←e];exact (hI _ _ _ _ _ (hx V hV).1).2) (fun V hV=>by rw [←e'];exact (hI _ _ _ _ _ (hx V hV).2).2)
theorem mk_Cnt_TP {w W:World} {L:List (Nat×Obj)} (h:Mem w W L) (ko:Nat) :
  Calls Tryz.prog 250 #[.func (.func ko) #[] #[]] W fun e W'=>∃ bo,e=.returned (fvCnt_TP bo).val∧Mem w W' ((bo,.cells #[.func (.func ko) #[] #[]] 286)::L):=by
 have hM:Mem w (W.alloc (.cells #[.func (.func ko) #[] #[]] 286)) ((W.heap.size,.cells #[.func (.func ko) #[] #[]] 286)::L):=(h.push W.heap.size (.cells #[.func (.func ko) #[] #[]] 286) rfl).perm List.perm_append_comm
 have hmf:∀ (fn:Fn) (first cap:Array Value) (w:World),(Instr.makeFunc fn first cap).run Tryz.prog w=.ok (.func fn first cap) w:=fun _ _ _ _=>rfl
 have HM:Hid (Mem w (W.alloc (.cells #[.func (.func ko) #[] #[]] 286)) ((W.heap.size,.cells #[.func (.func ko) #[] #[]] 286)::L)):=hM
 clear hM h
 go_enter Tryz.func250,Tryz.ntmps250
 go_wp2_with fail
 refine bodyPost_ret (v:=(fvCnt_TP W.heap.size).val) ?_ rfl ⟨_,rfl,HM.out.after ((Below.refl _ _).alloc (Nat.le_refl _) _)⟩
 exact results_cell_row (p:=2) (ty:=246) rfl _ _ (W.heap.size+1) 246 _ (0,0) _ rfl (heap_alloc2_new _ _ _) Tryz.underlying246 rfl (by kernel_rfl)
def fvNum_TU (bs bo:Nat):Fv:=⟨276,277,278,#[.pointer (some ⟨bs,0,none⟩),.pointer (some ⟨bo,0,none⟩)],#[.pointer (some ⟨bs,0,none⟩),.pointer (some ⟨bo,0,none⟩)],#[.pointer (some ⟨bo,0,none⟩)]⟩
theorem fd_num_TU {α ρ:Type} {w:World} {L:List (Nat×Obj)} {I:Rp α ρ} {J:St' α} (bs bo sz ko o:Nat) (hs:sz≤4) (fits:∀ q,0≤q→q < 256 ^ sz→IntKind.u32.wrap q=q) (fg:α→Int) (fs:α→Int→α)
  (mb:(bs,.cells #[.int .i64 sz] 3)∈L) (mo:(bo,.cells #[.func (.func ko) #[] #[]] 292)∈L)
  (eo:Ent ko) (ho:∀ V g off,Calls Tryz.prog ko #[.pointer (some ⟨g,off,none⟩)] V fun e V'=>e=.returned (.pointer (some ⟨g,off+o,none⟩))∧V=V')
  (hI:∀ x r V g off,I x r V g off→V.cell? ⟨g,off+o,none⟩=some (.int .u32 (fg x)))
  (hJ:∀ x g T pre post V K,J w x g T pre post V K→∃ A M,Lens w J o x g T pre post V K M A∧A[pre.length+o]? = some (.int .u32 (fg x)) ∧
   ∀ y V',Mem w V' ((g,.cells (A.setIfInBounds (pre.length+o) (.int .u32 y)) T (0,0))::M)→J w (fs x y) g T pre post V' K) :
  Fd w L I J (fvNum_TU bs bo) (spNum sz fg fs):=by
 refine ⟨enters_of Tryz.func276 (by kernel_rfl) rfl,enters_of Tryz.func277 (by kernel_rfl) rfl,enters_of Tryz.func278 (by kernel_rfl) rfl,?_,?_,?_⟩
 ·intro K hK x r g off hx v l V hO hb
  have hb':l.length+sz≤1000000000:=by simpa [spNum,be_len] using hb
  have:=nwr_TU hO bs bo sz ko ⟨g,off,none⟩ ⟨g,off+o,none⟩ (fg x) (by omega) (fun V hV=>by rw [mem_box hV (hK _ mb)];rfl) (fun V hV=>by rw [mem_box hV (hK _ mo)];rfl) eo (fun V=>ho V g off) (fun V hV=>hI _ _ _ _ _ (hx V hV)) hb'
  rw [be_wrap sz (by omega)] at this
  exact this
 ·intro K hK x g T pre post a l c V hj hS
  obtain ⟨A,M,hl,hA,hset⟩:=hJ x g T pre post V K hj
  have:=nrd_TU hl.mem hS bs bo sz ko (pre.length+o) ⟨g,pre.length,none⟩ (fg x) hs fits hA (fun V hV=>by rw [mem_box hV (hl.sub _ (hK _ mb))];rfl) (fun V hV=>by rw [mem_box hV (hl.sub _ (hK _ mo))];rfl) eo (fun V=>ho V g pre.length)
  refine this.mono ?_
  intro e V' hR
  refine hR.mono (fs x) ?_ (hl.back V') (fun y hy=>hset y V' hy)
  simp only [spNum]
  split <;> rfl
 ·intro K hK x y r r' g off h of' hx V hV
  exact nsm_TU hV bo ko ⟨g,off,none⟩ ⟨g,off+o,none⟩ ⟨h,of',none⟩ ⟨h,of'+o,none⟩ (fg x) (fg y) (fun V hV=>by rw [mem_box hV (hK _ mo)];rfl) eo (fun V=>ho V g off) (fun V=>ho V h of') (fun V hV=>hI _ _ _ _ _ (hx V hV).1) (fun V hV=>hI _ _ _ _ _ (hx V hV).2)
theorem mk_num_TU {w W:World} {L:List (Nat×Obj)} (h:Mem w W L) (sz ko:Nat) :
  Calls Tryz.prog 233 #[.int .i64 sz,.func (.func ko) #[] #[]] W fun e W'=>∃ bs bo,e=.returned (fvNum_TU bs bo).val∧Mem w W' ((bs,.cells #[.int .i64 sz] 3)::(bo,.cells #[.func (.func ko) #[] #[]] 292)::L):=by
 have hM:Mem w ((W.alloc (.cells #[.int .i64 sz] 3)).alloc (.cells #[.func (.func ko) #[] #[]] 292)) ((W.heap.size,.cells #[.int .i64 sz] 3)::(W.heap.size+1,.cells #[.func (.func ko) #[] #[]] 292)::L):=by
  have h1:=(h.push W.heap.size (.cells #[.int .i64 sz] 3) rfl).push (W.heap.size+1) (.cells #[.func (.func ko) #[] #[]] 292) (by simp)
  refine h1.perm ?_
  rw [List.append_assoc]
  exact List.perm_append_comm
 have hmf:∀ (fn:Fn) (first cap:Array Value) (w:World),(Instr.makeFunc fn first cap).run Tryz.prog w=.ok (.func fn first cap) w:=fun _ _ _ _=>rfl
 have HM:Hid (Mem w ((W.alloc (.cells #[.int .i64 sz] 3)).alloc (.cells #[.func (.func ko) #[] #[]] 292)) ((W.heap.size,.cells #[.int .i64 sz] 3)::(W.heap.size+1,.cells #[.func (.func ko) #[] #[]] 292)::L)):=hM
 clear hM h
 go_enter Tryz.func233,Tryz.ntmps233
 go_wp2_with fail
 refine bodyPost_ret (v:=(fvNum_TU W.heap.size (W.heap.size+1)).val) ?_ rfl ⟨_,_,rfl,HM.out.after ((Below.refl _ _).alloc (Nat.le_refl _) _)⟩
 exact results_cell_row (p:=4) (ty:=246) rfl _ _ (W.heap.size+1+1) 246 _ (0,0) _ rfl (heap_alloc3_new _ _ _ _) Tryz.underlying246 rfl (by kernel_rfl)
def fvNum_TH (bs bo:Nat):Fv:=⟨282,283,284,#[.pointer (some ⟨bs,0,none⟩),.pointer (some ⟨bo,0,none⟩)],#[.pointer (some ⟨bs,0,none⟩),.pointer (some ⟨bo,0,none⟩)],#[.pointer (some ⟨bo,0,none⟩)]⟩
theorem fd_num_TH {α ρ:Type} {w:World} {L:List (Nat×Obj)} {I:Rp α ρ} {J:St' α} (bs bo sz ko o:Nat) (hs:sz≤4) (fits:∀ q,0≤q→q < 256 ^ sz→IntKind.u16.wrap q=q) (fg:α→Int) (fs:α→Int→α)
  (mb:(bs,.cells #[.int .i64 sz] 3)∈L) (mo:(bo,.cells #[.func (.func ko) #[] #[]] 297)∈L)
  (eo:Ent ko) (ho:∀ V g off,Calls Tryz.prog ko #[.pointer (some ⟨g,off,none⟩)] V fun e V'=>e=.returned (.pointer (some ⟨g,off+o,none⟩))∧V=V')
  (hI:∀ x r V g off,I x r V g off→V.cell? ⟨g,off+o,none⟩=some (.int .u16 (fg x)))
  (hJ:∀ x g T pre post V K,J w x g T pre post V K→∃ A M,Lens w J o x g T pre post V K M A∧A[pre.length+o]? = some (.int .u16 (fg x)) ∧
   ∀ y V',Mem w V' ((g,.cells (A.setIfInBounds (pre.length+o) (.int .u16 y)) T (0,0))::M)→J w (fs x y) g T pre post V' K) :
  Fd w L I J (fvNum_TH bs bo) (spNum sz fg fs):=by
 refine ⟨enters_of Tryz.func282 (by kernel_rfl) rfl,enters_of Tryz.func283 (by kernel_rfl) rfl,enters_of Tryz.func284 (by kernel_rfl) rfl,?_,?_,?_⟩
 ·intro K hK x r g off hx v l V hO hb
  have hb':l.length+sz≤1000000000:=by simpa [spNum,be_len] using hb
  have:=nwr_TH hO bs bo sz ko ⟨g,off,none⟩ ⟨g,off+o,none⟩ (fg x) (by omega) (fun V hV=>by rw [mem_box hV (hK _ mb)];rfl) (fun V hV=>by rw [mem_box hV (hK _ mo)];rfl) eo (fun V=>ho V g off) (fun V hV=>hI _ _ _ _ _ (hx V hV)) hb'
  rw [be_wrap sz (by omega)] at this
  exact this
 ·intro K hK x g T pre post a l c V hj hS
  obtain ⟨A,M,hl,hA,hset⟩:=hJ x g T pre post V K hj
  have:=nrd_TH hl.mem hS bs bo sz ko (pre.length+o) ⟨g,pre.length,none⟩ (fg x) hs fits hA (fun V hV=>by rw [mem_box hV (hl.sub _ (hK _ mb))];rfl) (fun V hV=>by rw [mem_box hV (hl.sub _ (hK _ mo))];rfl) eo (fun V=>ho V g pre.length)
  refine this.mono ?_
  intro e V' hR
  refine hR.mono (fs x) ?_ (hl.back V') (fun y hy=>hset y V' hy)
  simp only [spNum]
  split <;> rfl
 ·intro K hK x y r r' g off h of' hx V hV
  exact nsm_TH hV bo ko ⟨g,off,none⟩ ⟨g,off+o,none⟩ ⟨h,of',none⟩ ⟨h,of'+o,none⟩ (fg x) (fg y) (fun V hV=>by rw [mem_box hV (hK _ mo)];rfl) eo (fun V=>ho V g off) (fun V=>ho V h of') (fun V hV=>hI _ _ _ _ _ (hx V hV).1) (fun V hV=>hI _ _ _ _ _ (hx V hV).2)
theorem mk_num_TH {w W:World} {L:List (Nat×Obj)} (h:Mem w W L) (sz ko:Nat) :
  Calls Tryz.prog 240 #[.int .i64 sz,.func (.func ko) #[] #[]] W fun e W'=>∃ bs bo,e=.returned (fvNum_TH bs bo).val∧Mem w W' ((bs,.cells #[.int .i64 sz] 3)::(bo,.cells #[.func (.func ko) #[] #[]] 297)::L):=by
 have hM:Mem w ((W.alloc (.cells #[.int .i64 sz] 3)).alloc (.cells #[.func (.func ko) #[] #[]] 297)) ((W.heap.size,.cells #[.int .i64 sz] 3)::(W.heap.size+1,.cells #[.func (.func ko) #[] #[]] 297)::L):=by
  have h1:=(h.push W.heap.size (.cells #[.int .i64 sz] 3) rfl).push (W.heap.size+1) (.cells #[.func (.func ko) #[] #[]] 297) (by simp)
  refine h1.perm ?_
  rw [List.append_assoc]
  exact List.perm_append_comm
 have hmf:∀ (fn:Fn) (first cap:Array Value) (w:World),(Instr.makeFunc fn first cap).run Tryz.prog w=.ok (.func fn first cap) w:=fun _ _ _ _=>rfl
 have HM:Hid (Mem w ((W.alloc (.cells #[.int .i64 sz] 3)).alloc (.cells #[.func (.func ko) #[] #[]] 297)) ((W.heap.size,.cells #[.int .i64 sz] 3)::(W.heap.size+1,.cells #[.func (.func ko) #[] #[]] 297)::L)):=hM
 clear hM h
 go_enter Tryz.func240,Tryz.ntmps240
 go_wp2_with fail
 refine bodyPost_ret (v:=(fvNum_TH W.heap.size (W.heap.size+1)).val) ?_ rfl ⟨_,_,rfl,HM.out.after ((Below.refl _ _).alloc (Nat.le_refl _) _)⟩
 exact results_cell_row (p:=4) (ty:=246) rfl _ _ (W.heap.size+1+1) 246 _ (0,0) _ rfl (heap_alloc3_new _ _ _ _) Tryz.underlying246 rfl (by kernel_rfl)
def fvOct_T (bo:Nat):Fv:=⟨279,280,281,#[.pointer (some ⟨bo,0,none⟩)],#[.pointer (some ⟨bo,0,none⟩)],#[.pointer (some ⟨bo,0,none⟩)]⟩
theorem fd_Oct_T {α ρ:Type} {w:World} {L:List (Nat×Obj)} {I:Rp α ρ} {J:St' α} (bo n ko o:Nat) (hn:n≤8) (hn0:0 < n) (fg:α→List Int) (fs:α→List Int→α)
  (mo:(bo,.cells #[.func (.func ko) #[] #[]] 294)∈L)
  (eo:Ent ko) (ho:∀ V g off,Calls Tryz.prog ko #[.pointer (some ⟨g,off,none⟩)] V fun e V'=>e=.returned (.slice (some ⟨g,off+o,none⟩) n n)∧V=V')
  (hI:∀ x r V g off,I x r V g off→(fg x).length=n∧Row V (some ⟨g,off+o,none⟩) (fg x))
  (hJ:∀ x g T pre post V K,J w x g T pre post V K→∃ A M,Lens w J o x g T pre post V K M A∧pre.length+o+n≤A.size ∧
   ∀ y V',y.length=n→IsBytes y→Mem w V' ((g,.cells (spl A (pre.length+o) y) T (0,0))::M)→J w (fs x y) g T pre post V' K) :
  Fd w L I J (fvOct_T bo) (spOct n fg fs):=by
 refine ⟨enters_of Tryz.func279 (by kernel_rfl) rfl,enters_of Tryz.func280 (by kernel_rfl) rfl,enters_of Tryz.func281 (by kernel_rfl) rfl,?_,?_,?_⟩
 ·intro K hK x r g off hx v l V hO hb
  obtain ⟨hl,-⟩:=hI _ _ _ _ _ (hx V hO.mem)
  exact owr_T hO bo ko n ⟨g,off,none⟩ ⟨g,off+o,none⟩ (fg x) hl (fun V hV=>by rw [mem_box hV (hK _ mo)];rfl) eo (fun V=>ho V g off) (fun V hV=>(hI _ _ _ _ _ (hx V hV)).2) (by rw [←hl];exact hb)
 ·intro K hK x g T pre post a l c V hj hS
  obtain ⟨A,M,hl,hA,hset⟩:=hJ x g T pre post V K hj
  have:=ord_T hl.mem hS bo n ko (pre.length+o) ⟨g,pre.length,none⟩ hn hn0 hA (fun V hV=>by rw [mem_box hV (hl.sub _ (hK _ mo))];rfl) eo (fun V=>ho V g pre.length)
  refine this.mono ?_
  intro e V' hR
  refine hR.mono2 (fs x) ?_ (hl.back V') (fun y l' hy hm=>?_)
  ·simp only [spOct]
   split <;> rfl
  ·by_cases hlt:l.length < n
   ·rw [if_pos hlt] at hy;cases hy
   ·rw [if_neg hlt] at hy
    simp only [Option.some.injEq,Prod.mk.injEq] at hy
    obtain ⟨rfl,rfl⟩:=hy
    exact hset _ V' (by rw [List.length_take];omega) (bytes_tk hS.row.bytes n) hm
 ·intro K hK x y r r' g off h of' hx V hV
  obtain ⟨hl,-⟩:=hI _ _ _ _ _ (hx V hV).1
  obtain ⟨hl2,-⟩:=hI _ _ _ _ _ (hx V hV).2
  exact osm_T hV bo ko n ⟨g,off,none⟩ ⟨g,off+o,none⟩ ⟨h,of',none⟩ ⟨h,of'+o,none⟩ (fg x) (fg y) hl hl2 (fun V hV=>by rw [mem_box hV (hK _ mo)];rfl) eo (fun V=>ho V g off) (fun V=>ho V h of') (fun V hV=>(hI _ _ _ _ _ (hx V hV).1).2) (fun V hV=>(hI _ _ _ _ _ (hx V hV).2).2)
theorem mk_Oct_T {w W:World} {L:List (Nat×Obj)} (h:Mem w W L) (ko:Nat) :
  Calls Tryz.prog 235 #[.func (.func ko) #[] #[]] W fun e W'=>∃ bo,e=.returned (fvOct_T bo).val∧Mem w W' ((bo,.cells #[.func (.func ko) #[] #[]] 294)::L):=by
 have hM:Mem w (W.alloc (.cells #[.func (.func ko) #[] #[]] 294)) ((W.heap.size,.cells #[.func (.func ko) #[] #[]] 294)::L):=(h.push W.heap.size (.cells #[.func (.func ko) #[] #[]] 294) rfl).perm List.perm_append_comm
 have hmf:∀ (fn:Fn) (first cap:Array Value) (w:World),(Instr.makeFunc fn first cap).run Tryz.prog w=.ok (.func fn first cap) w:=fun _ _ _ _=>rfl
 have HM:Hid (Mem w (W.alloc (.cells #[.func (.func ko) #[] #[]] 294)) ((W.heap.size,.cells #[.func (.func ko) #[] #[]] 294)::L)):=hM
 clear hM h
 go_enter Tryz.func235,Tryz.ntmps235
 go_wp2_with fail
 refine bodyPost_ret (v:=(fvOct_T W.heap.size).val) ?_ rfl ⟨_,rfl,HM.out.after ((Below.refl _ _).alloc (Nat.le_refl _) _)⟩
 exact results_cell_row (p:=2) (ty:=246) rfl _ _ (W.heap.size+1) 246 _ (0,0) _ rfl (heap_alloc2_new _ _ _) Tryz.underlying246 rfl (by kernel_rfl)
def fvCnt_CT (bo:Nat):Fv:=⟨218,220,221,#[.pointer (some ⟨bo,0,none⟩)],#[.pointer (some ⟨bo,0,none⟩)],#[.pointer (some ⟨bo,0,none⟩)]⟩
theorem fd_Cnt_CT {α ρ:Type} {w:World} {L:List (Nat×Obj)} {I:Rp α ρ} {J:St' α} (bo ko o:Nat) (fl:α→Nat) (fs:α→Nat→α)
  (mo:(bo,.cells #[.func (.func ko) #[] #[]] 233)∈L)
  (eo:Ent ko) (ho:∀ V g off,Calls Tryz.prog ko #[.pointer (some ⟨g,off,none⟩)] V fun e V'=>e=.returned (.pointer (some ⟨g,off+o,none⟩))∧V=V')
  (sv:ρ→Value) (hI:∀ x r V g off,I x r V g off→(∃ a c,sv r=.slice a (fl x) c∧fl x≤c∧c≤9223372036854775807∧(a=none→c=0))∧V.cell? ⟨g,off+o,none⟩=some (sv r))
  (hJ:∀ x g T pre post V K,J w x g T pre post V K→∃ A M y,Lens w J o x g T pre post V K M A∧A[pre.length+o]? = some y ∧
   ∀ m V',m≤255→CMade_CT w V' g A T (pre.length+o) M m→J w (fs x m) g T pre post V' K) :
  Fd w L I J (fvCnt_CT bo) (spCnt fl fs):=by
 refine ⟨enters_of Tryz.func218 (by kernel_rfl) rfl,enters_of Tryz.func220 (by kernel_rfl) rfl,enters_of Tryz.func221 (by kernel_rfl) rfl,?_,?_,?_⟩
 ·intro K hK x r g off hx v l V hO hb
  obtain ⟨⟨a,c,e,h1,h2,h3⟩,-⟩:=hI _ _ _ _ _ (hx V hO.mem)
  exact cwr_CT hO bo ko ⟨g,off,none⟩ ⟨g,off+o,none⟩ a (fl x) c h1 h2 h3 (fun V hV=>by rw [mem_box hV (hK _ mo)];rfl) eo (fun V=>ho V g off) (fun V hV=>by rw [←e];exact (hI _ _ _ _ _ (hx V hV)).2) (by simpa [spCnt] using hb)
 ·intro K hK x g T pre post a l c V hj hS
  obtain ⟨A,M,y,hl,hA,hset⟩:=hJ x g T pre post V K hj
  have:=crd_CT hl.mem hS bo ko (pre.length+o) ⟨g,pre.length,none⟩ y hA (fun V hV=>by rw [mem_box hV (hl.sub _ (hK _ mo))];rfl) eo (fun V=>ho V g pre.length)
  refine this.mono ?_
  intro e V' hR
  refine hR.mono2 (fs x) ?_ (hl.back V') (fun m l' hm hc=>?_)
  ·cases l <;> rfl
  ·cases l with
   | nil=>cases hm
   | cons b r =>
    simp only [Option.some.injEq,Prod.mk.injEq] at hm
    obtain ⟨rfl,rfl⟩:=hm
    have:=hS.row.bytes 0
    simp only [List.getD_cons_zero] at this
    exact hset _ V' (by omega) hc
 ·intro K hK x y r r' g off h of' hx V hV
  obtain ⟨⟨a,c,e,h1,h2,h3⟩,-⟩:=hI _ _ _ _ _ (hx V hV).1
  obtain ⟨⟨a',c',e',h1',h2',h3'⟩,-⟩:=hI _ _ _ _ _ (hx V hV).2
  exact csm_CT hV bo ko ⟨g,off,none⟩ ⟨g,off+o,none⟩ ⟨h,of',none⟩ ⟨h,of'+o,none⟩ a a' (fl x) (fl y) c c' (fun V hV=>by rw [mem_box hV (hK _ mo)];rfl) eo (fun V=>ho V g off) (fun V=>ho V h of') (fun V hV=>by rw [←e];exact (hI _ _ _ _ _ (hx V hV).1).2) (fun V hV=>by rw [←e'];exact (hI _ _ _ _ _ (hx V hV).2).2)
theorem mk_Cnt_CT {w W:World} {L:List (Nat×Obj)} (h:Mem w W L) (ko:Nat) :
  Calls Tryz.prog 158 #[.func (.func ko) #[] #[]] W fun e W'=>∃ bo,e=.returned (fvCnt_CT bo).val∧Mem w W' ((bo,.cells #[.func (.func ko) #[] #[]] 233)::L):=by
 have hM:Mem w (W.alloc (.cells #[.func (.func ko) #[] #[]] 233)) ((W.heap.size,.cells #[.func (.func ko) #[] #[]] 233)::L):=(h.push W.heap.size (.cells #[.func (.func ko) #[] #[]] 233) rfl).perm List.perm_append_comm
 have hmf:∀ (fn:Fn) (first cap:Array Value) (w:World),(Instr.makeFunc fn first cap).run Tryz.prog w=.ok (.func fn first cap) w:=fun _ _ _ _=>rfl
 have HM:Hid (Mem w (W.alloc (.cells #[.func (.func ko) #[] #[]] 233)) ((W.heap.size,.cells #[.func (.func ko) #[] #[]] 233)::L)):=hM
 clear hM h
 go_enter Tryz.func158,Tryz.ntmps158
 go_wp2_with fail
 refine bodyPost_ret (v:=(fvCnt_CT W.heap.size).val) ?_ rfl ⟨_,rfl,HM.out.after ((Below.refl _ _).alloc (Nat.le_refl _) _)⟩
 exact results_cell_row (p:=2) (ty:=189) rfl _ _ (W.heap.size+1) 189 _ (0,0) _ rfl (heap_alloc2_new _ _ _) Tryz.underlying189 rfl (by kernel_rfl)
def fvNum_CU (bs bo:Nat):Fv:=⟨208,210,213,#[.pointer (some ⟨bs,0,none⟩),.pointer (some ⟨bo,0,none⟩)],#[.pointer (some ⟨bs,0,none⟩),.pointer (some ⟨bo,0,none⟩)],#[.pointer (some ⟨bo,0,none⟩)]⟩
theorem fd_num_CU {α ρ:Type} {w:World} {L:List (Nat×Obj)} {I:Rp α ρ} {J:St' α} (bs bo sz ko o:Nat) (hs:sz≤4) (fits:∀ q,0≤q→q < 256 ^ sz→IntKind.u32.wrap q=q) (fg:α→Int) (fs:α→Int→α)
  (mb:(bs,.cells #[.int .i64 sz] 3)∈L) (mo:(bo,.cells #[.func (.func ko) #[] #[]] 237)∈L)
  (eo:Ent ko) (ho:∀ V g off,Calls Tryz.prog ko #[.pointer (some ⟨g,off,none⟩)] V fun e V'=>e=.returned (.pointer (some ⟨g,off+o,none⟩))∧V=V')
  (hI:∀ x r V g off,I x r V g off→V.cell? ⟨g,off+o,none⟩=some (.int .u32 (fg x)))
  (hJ:∀ x g T pre post V K,J w x g T pre post V K→∃ A M,Lens w J o x g T pre post V K M A∧A[pre.length+o]? = some (.int .u32 (fg x)) ∧
   ∀ y V',Mem w V' ((g,.cells (A.setIfInBounds (pre.length+o) (.int .u32 y)) T (0,0))::M)→J w (fs x y) g T pre post V' K) :
  Fd w L I J (fvNum_CU bs bo) (spNum sz fg fs):=by
 refine ⟨enters_of Tryz.func208 (by kernel_rfl) rfl,enters_of Tryz.func210 (by kernel_rfl) rfl,enters_of Tryz.func213 (by kernel_rfl) rfl,?_,?_,?_⟩
 ·intro K hK x r g off hx v l V hO hb
  have hb':l.length+sz≤1000000000:=by simpa [spNum,be_len] using hb
  have:=nwr_CU hO bs bo sz ko ⟨g,off,none⟩ ⟨g,off+o,none⟩ (fg x) (by omega) (fun V hV=>by rw [mem_box hV (hK _ mb)];rfl) (fun V hV=>by rw [mem_box hV (hK _ mo)];rfl) eo (fun V=>ho V g off) (fun V hV=>hI _ _ _ _ _ (hx V hV)) hb'
  rw [be_wrap sz (by omega)] at this
  exact this
 ·intro K hK x g T pre post a l c V hj hS
  obtain ⟨A,M,hl,hA,hset⟩:=hJ x g T pre post V K hj
  have:=nrd_CU hl.mem hS bs bo sz ko (pre.length+o) ⟨g,pre.length,none⟩ (fg x) hs fits hA (fun V hV=>by rw [mem_box hV (hl.sub _ (hK _ mb))];rfl) (fun V hV=>by rw [mem_box hV (hl.sub _ (hK _ mo))];rfl) eo (fun V=>ho V g pre.length)
  refine this.mono ?_
  intro e V' hR
  refine hR.mono (fs x) ?_ (hl.back V') (fun y hy=>hset y V' hy)
  simp only [spNum]
  split <;> rfl
 ·intro K hK x y r r' g off h of' hx V hV
  exact nsm_CU hV bo ko ⟨g,off,none⟩ ⟨g,off+o,none⟩ ⟨h,of',none⟩ ⟨h,of'+o,none⟩ (fg x) (fg y) (fun V hV=>by rw [mem_box hV (hK _ mo)];rfl) eo (fun V=>ho V g off) (fun V=>ho V h of') (fun V hV=>hI _ _ _ _ _ (hx V hV).1) (fun V hV=>hI _ _ _ _ _ (hx V hV).2)
theorem mk_num_CU {w W:World} {L:List (Nat×Obj)} (h:Mem w W L) (sz ko:Nat) :
  Calls Tryz.prog 150 #[.int .i64 sz,.func (.func ko) #[] #[]] W fun e W'=>∃ bs bo,e=.returned (fvNum_CU bs bo).val∧Mem w W' ((bs,.cells #[.int .i64 sz] 3)::(bo,.cells #[.func (.func ko) #[] #[]] 237)::L):=by
 have hM:Mem w ((W.alloc (.cells #[.int .i64 sz] 3)).alloc (.cells #[.func (.func ko) #[] #[]] 237)) ((W.heap.size,.cells #[.int .i64 sz] 3)::(W.heap.size+1,.cells #[.func (.func ko) #[] #[]] 237)::L):=by
  have h1:=(h.push W.heap.size (.cells #[.int .i64 sz] 3) rfl).push (W.heap.size+1) (.cells #[.func (.func ko) #[] #[]] 237) (by simp)
  refine h1.perm ?_
  rw [List.append_assoc]
  exact List.perm_append_comm
 have hmf:∀ (fn:Fn) (first cap:Array Value) (w:World),(Instr.makeFunc fn first cap).run Tryz.prog w=.ok (.func fn first cap) w:=fun _ _ _ _=>rfl
 have HM:Hid (Mem w ((W.alloc (.cells #[.int .i64 sz] 3)).alloc (.cells #[.func (.func ko) #[] #[]] 237)) ((W.heap.size,.cells #[.int .i64 sz] 3)::(W.heap.size+1,.cells #[.func (.func ko) #[] #[]] 237)::L)):=hM
 clear hM h
 go_enter Tryz.func150,Tryz.ntmps150
 go_wp2_with fail
 refine bodyPost_ret (v:=(fvNum_CU W.heap.size (W.heap.size+1)).val) ?_ rfl ⟨_,_,rfl,HM.out.after ((Below.refl _ _).alloc (Nat.le_refl _) _)⟩
 exact results_cell_row (p:=4) (ty:=189) rfl _ _ (W.heap.size+1+1) 189 _ (0,0) _ rfl (heap_alloc3_new _ _ _ _) Tryz.underlying189 rfl (by kernel_rfl)
def fvAll_T (cb:Nat):Fv:=⟨270,271,272,#[.pointer (some ⟨cb,0,none⟩)],#[.pointer (some ⟨cb,0,none⟩)],#[.pointer (some ⟨cb,0,none⟩)]⟩
theorem fd_all_T {α ρ:Type} {w:World} {L:List (Nat×Obj)} {I:Rp α ρ} {J:St' α} (cb lb n:Nat) (fs:List Fv) (ss:List (Sp α)) (hn:fs.length=n) (hn2:n≤1000)
  (mc:(cb,.cells #[.slice (some ⟨lb,0,none⟩) n n] 317)∈L) (ml:(lb,.cells (fs.flatMap Fv.cells).toArray 246)∈L)
  (hfs:FdAll w L I J fs ss) (hst:∀ x g T pre post V V' K,J w x g T pre post V K→Below V.heap.size V V'→J w x g T pre post V' K) (hJM:∀ x g T pre post V K,J w x g T pre post V K→Mem w V K) :
  Fd w L I J (fvAll_T cb) (spAll ss):=by
 have hss:ss.length=n:=by rw [←hfs.len];exact hn
 have hcell:∀ K,Sub L K→∀ V,Mem w V K→V.cell? ⟨cb,0,none⟩=some (.slice (some ⟨lb,0,none⟩) n n):=fun K hK V hV=>by rw [mem_box hV (hK _ mc)];rfl
 have hcells:∀ K,Sub L K→∀ V,Mem w V K→∀ i,i < n→V.cell? ⟨lb,i * 3,none⟩=some (.func (.func (fs.getD i fv0).kw) #[] (fs.getD i fv0).cw) ∧
   V.cell? ⟨lb,i * 3+1,none⟩=some (.func (.func (fs.getD i fv0).kr) #[] (fs.getD i fv0).cr)∧V.cell? ⟨lb,i * 3+2,none⟩=some (.func (.func (fs.getD i fv0).ks) #[] (fs.getD i fv0).cs):=by
  intro K hK V hV i hi
  obtain ⟨h1,h2,h3⟩:=flat_get fs i (by omega)
  refine ⟨?_,?_,?_⟩
  ·rw [mem_box hV (hK _ ml)];simpa using h1
  ·rw [mem_box hV (hK _ ml)];simpa using h2
  ·rw [mem_box hV (hK _ ml)];simpa using h3
 refine ⟨enters_of Tryz.func270 (by kernel_rfl) rfl,enters_of Tryz.func271 (by kernel_rfl) rfl,enters_of Tryz.func272 (by kernel_rfl) rfl,?_,?_,?_⟩
 ·intro K hK x r g off hx v l V hO hb
  have:=awr_T (H:=fun v l V=>Out w V v l K) (fun v l V V' h hB=>h.after hB) ⟨g,off,none⟩ cb lb n hn2 (fun i=>(fs.getD i fv0).kw) (fun i=>(fs.getD i fv0).kr) (fun i=>(fs.getD i fv0).ks) (fun i=>(fs.getD i fv0).cw) (fun i=>(fs.getD i fv0).cr) (fun i=>(fs.getD i fv0).cs)
   (fun v l V h=>hcell K hK V h.mem) (fun v l V h=>hcells K hK V h.mem) (fun i=>(ss.getD i sp0).enc x) (fun i hi=>(hfs.at_ i (by omega)).ew) (fun i hi v l V h hb=>(hfs.at_ i (by omega)).wr K hK x r g off hx v l V h hb) v l V hO (by simp only [spAll,hss] at hb;exact hb)
  simp only [spAll,hss]
  exact this
 ·intro K hK x g T pre post a l c V hj hS
  have:=ard_T (w:=w) (L:=K) (J:=fun y V=>J w y g T pre post V K) (fun y V V' h hB=>hst y g T pre post V V' K h hB) ⟨g,pre.length,none⟩ cb lb n hn2 (fun i=>(fs.getD i fv0).kw) (fun i=>(fs.getD i fv0).kr) (fun i=>(fs.getD i fv0).ks) (fun i=>(fs.getD i fv0).cw) (fun i=>(fs.getD i fv0).cr) (fun i=>(fs.getD i fv0).cs)
   (fun y V h=>hcell K hK V (hJM _ _ _ _ _ _ _ h)) (fun y V h=>hcells K hK V (hJM _ _ _ _ _ _ _ h)) (fun i=>(ss.getD i sp0).dec) (fun i hi=>(hfs.at_ i (by omega)).er) (fun i hi y l a c V h hS=>(hfs.at_ i (by omega)).rd K hK y g T pre post a l c V h hS) x l a c V hj hS
  simp only [spAll,hss]
  exact this
 ·intro K hK x y r r' g off h of' hx V hV
  have:=asm_T (M:=fun V=>Mem w V K) (fun V V' h hB=>h.after hB) ⟨g,off,none⟩ ⟨h,of',none⟩ cb lb n hn2 (fun i=>(fs.getD i fv0).kw) (fun i=>(fs.getD i fv0).kr) (fun i=>(fs.getD i fv0).ks) (fun i=>(fs.getD i fv0).cw) (fun i=>(fs.getD i fv0).cr) (fun i=>(fs.getD i fv0).cs)
   (fun V h=>hcell K hK V h) (fun V h=>hcells K hK V h) (fun i=>(ss.getD i sp0).eq x y) (fun i hi=>(hfs.at_ i (by omega)).es) (fun i hi V hV=>(hfs.at_ i (by omega)).sm K hK x y r r' g off h of' hx V hV) V hV
  simp only [spAll,hss]
  exact this
theorem mk_all_T {w W:World} {L:List (Nat×Obj)} (h:Mem w W L) (lb n:Nat) :
  Calls Tryz.prog 230 #[.slice (some ⟨lb,0,none⟩) n n] W fun e W'=>∃ cb,e=.returned (fvAll_T cb).val∧Mem w W' ((cb,.cells #[.slice (some ⟨lb,0,none⟩) n n] 317)::L):=by
 have hM:Mem w (W.alloc (.cells #[.slice (some ⟨lb,0,none⟩) n n] 317)) ((W.heap.size,.cells #[.slice (some ⟨lb,0,none⟩) n n] 317)::L):=(h.push W.heap.size (.cells #[.slice (some ⟨lb,0,none⟩) n n] 317) rfl).perm List.perm_append_comm
 have hmf:∀ (fn:Fn) (first cap:Array Value) (w:World),(Instr.makeFunc fn first cap).run Tryz.prog w=.ok (.func fn first cap) w:=fun _ _ _ _=>rfl
 have HM:Hid (Mem w (W.alloc (.cells #[.slice (some ⟨lb,0,none⟩) n n] 317)) ((W.heap.size,.cells #[.slice (some ⟨lb,0,none⟩) n n] 317)::L)):=hM
 clear hM h
 go_enter Tryz.func230,Tryz.ntmps230
 go_wp2_with fail
 refine bodyPost_ret (v:=(fvAll_T W.heap.size).val) ?_ rfl ⟨_,rfl,HM.out.after ((Below.refl _ _).alloc (Nat.le_refl _) _)⟩
 exact results_cell_row (p:=2) (ty:=246) rfl _ _ (W.heap.size+1) 246 _ (0,0) _ rfl (heap_alloc2_new _ _ _) Tryz.underlying246 rfl (by kernel_rfl)
end Go.Proofs.YtdigofgjhaakmaaGreatDoor
