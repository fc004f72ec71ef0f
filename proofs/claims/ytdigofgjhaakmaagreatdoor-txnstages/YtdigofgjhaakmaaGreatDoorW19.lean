/-
  Settings as bytes: the program's Config and OpenConfig, at all settings and all bytes.
  Settings as bytes: the document's own OpenTenant.
  P12.3 at every two tenants that are light.
  Settings as bytes: the document's tenants, one behind the other: numbers.
  lychlaw10.known: a record that is there again.
  Settings as bytes: the document's own Config and Change, at all settings and changes.
  What settings, a change, a list of tenants that come in are.
  Settings as bytes: the document's own OpenChange.
-/
import Derived.Test.YtdigofgjhaakmaaGreatDoorW18
import Derived.Test.YtdigofgjhaakmaaGreatDoorW17
import Derived.Test.YtdigofgjhaakmaaGreatDoorW12
import Derived.Deep.MidRow
import Derived.Test.YtdigofgjhaakmaaGreatDoorW13
import Derived.Lib.SlBytesConst
import Derived.Test.YtdigofgjhaakmaaGreatDoorW15
set_option linter.unusedVariables false
set_option linter.unusedSimpArgs false
set_option maxRecDepth 100000
set_option maxHeartbeats 40000000
namespace Go.Proofs.YtdigofgjhaakmaaGreatDoor
open Go.RowKit
open Sm
open Cf
def TSV (V:World) (v:Value) (ts:List Ten):Prop:=∃ zs:List Tv,zs.map Prod.fst=ts∧Rw V 33 v (zs.map zc)∧∀ z∈zs,TLen z.1∧Rws V z
def CV (V:World) (v:Value) (c:Cgf):Prop:=CLen c∧∃ u,v=.agg (cc c u).toArray∧TSV V u c.ten
theorem zc_ne {zs:List Tv}:∀ x∈zs.map zc,x≠[]:=by
 intro x hx
 obtain ⟨z,-,rfl⟩:=List.mem_map.mp hx
 simp [zc,tc]
theorem Rws.below {V V':World} {z:Tv} (h:Rws V z) {B:Nat} (hb:Below B V V') (hB:V.heap.size≤B):Rws V' z:=⟨h.1.below ux_ne hb hB,h.2.1.below px_ne hb hB,h.2.2.below px_ne hb hB⟩
theorem TSV.at_ {w V:World} {v:Value} {ts:List Ten} (h:TSV w v ts) {B:Nat} (hb:Below B w V) (hB:w.heap.size≤B):TSV V v ts:=by
 obtain ⟨zs,h1,h2,h3⟩:=h
 exact ⟨zs,h1,h2.below zc_ne hb hB,fun z hz=>⟨(h3 z hz).1,(h3 z hz).2.below hb hB⟩⟩
theorem CV.at_ {w V:World} {v:Value} {c:Cgf} (h:CV w v c) {B:Nat} (hb:Below B w V) (hB:w.heap.size≤B):CV V v c:=by
 obtain ⟨h1,u,h2,h3⟩:=h
 exact ⟨h1,u,h2,h3.at_ hb hB⟩
theorem TSV.one {w:World} {v:Value} {ts:List Ten} (h:TSV w v ts):v.oneCell'=true:=by
 obtain ⟨zs,-,h,-⟩:=h
 exact rw_slice h
theorem cc_one (c:Cgf) {v:Value} (h:v.oneCell'=true):(cc c v).toArray.all (·.oneCell')=true:=by
 apply all_oneCell_toArray
 intro u hu
 simp only [cc,List.mem_cons,List.mem_append,List.mem_map,List.not_mem_nil,or_false] at hu
 rcases hu with rfl | ⟨x,_,rfl⟩ | ⟨x,_,rfl⟩ | ⟨x,_,rfl⟩ | ⟨x,_,rfl⟩ | rfl | rfl <;> first | rfl | exact h
theorem tsv_own {w V:World} {h:Nat} {zs:List Tz} {K:List (Nat×Obj)} (hok:∀ z∈zs,tok z) (hl:zs.length≤255) (hM:Mem w V (tbk h zs++K)):TSV V (lv h (zs.map tcs)) (zs.map Prod.fst):=by
 have ec:∀ z:Tz,zc (z.1,lv z.2.1 (ux z.1.pool),lv z.2.2.1 (px z.1.stat),lv z.2.2.2 (px z.1.twi))=tcs z:=fun z=>rfl
 refine ⟨zs.map (fun z=>(z.1,lv z.2.1 (ux z.1.pool),lv z.2.2.1 (px z.1.stat),lv z.2.2.2 (px z.1.twi))),by simp [Function.comp_def],?_,?_⟩
 ·have e2:(zs.map (fun z:Tz=>(z.1,lv z.2.1 (ux z.1.pool),lv z.2.2.1 (px z.1.stat),lv z.2.2.2 (px z.1.twi)))).map zc=zs.map tcs:=by
   rw [List.map_map];rfl
  rw [e2]
  by_cases h0:zs=[]
  ·subst h0;exact ⟨none,0,rfl,Nat.le_refl _,by omega,fun _=>rfl,Or.inl rfl⟩
  ·have hne:zs.map tcs≠[]:=fun e=>h0 (List.map_eq_nil_iff.mp e)
   rw [tbk_ne h0] at hM
   rw [lv_one hne]
   refine ⟨_,_,rfl,Nat.le_refl _,by rw [List.length_map];omega,(fun e=>by cases e),Or.inr ⟨h,0,rfl,fun i hi j u hj=>?_⟩⟩
   rw [List.length_map] at hi
   obtain ⟨A,z,B,rfl,hA⟩:=pick zs i hi
   have ex:((A++z::B).map tcs).getD i []=tcs z:=by subst hA;simp [List.getD]
   rw [ex] at hj
   have hcell:=hM.cell 0 rfl (0+i * 33+j)
   rw [hcell]
   have:=get_mid (A.flatMap tcs) (tcs z) (B.flatMap tcs) j u hj
   rw [tcs_len (fun z hz=>hok z (List.mem_append_left _ hz)),hA] at this
   rw [show (A++z::B).flatMap tcs=A.flatMap tcs++(tcs z++B.flatMap tcs) by simp,Nat.zero_add]
   exact this
 ·intro y hy
  obtain ⟨z,hz,rfl⟩:=List.mem_map.mp hy
  have ho:=hok z hz
  refine ⟨ho.1,?_⟩
  obtain ⟨A,B,rfl⟩:=List.append_of_mem hz
  rw [tbk_ne (by simp)] at hM
  have hM2:Mem w V (lb z.2.1 33 (ux z.1.pool)++(lb z.2.2.1 122 (px z.1.stat)++(lb z.2.2.2 122 (px z.1.twi)++(A.flatMap tbs++(B.flatMap tbs++K))))):=(show Mem w V ((A++z::B).flatMap tbs++K) from hM.sub).perm (by
   classical
   rw [List.perm_iff_count]
   intro q
   simp only [List.flatMap_append,List.flatMap_cons,tbs,List.count_append]
   omega)
  exact ⟨rw_own_U _ _ hM2 ho.2.1,rw_own_P _ _ hM2.dropA ho.2.2.1,rw_own_P _ _ hM2.dropA.dropA ho.2.2.2⟩
theorem IC_box {w:World} {c:Cgf} {u:Value} {zs:List Tv} (hi:CIn c) (ht:∀ t∈c.ten,TIn t) (hz:zs.map Prod.fst=c.ten) (hr:Rw w 33 u (zs.map zc)) (hq:∀ z∈zs,TLen z.1∧Rws w z) {g:Nat} {pre post:List Value} {T:TypeId} {K:List (Nat×Obj)} (hm:(g,.cells (pre++(cc c u++post)).toArray T (0,0))∈K) :
  ∀ V,Mem w V K→IC c (u,zs) V g pre.length:=by
 intro V hV
 refine ⟨hi,fun j v hj=>?_,hz,hV.rw' hr zc_ne,fun z h=>⟨ht _ (by rw [←hz];exact List.mem_map_of_mem h),(hq z h).2.below hV.below (Nat.le_refl _)⟩⟩
 rw [mem_box hV hm]
 exact get_mid _ _ _ j v hj
def cenc (c:Cgf):List Int:=spC.enc c
theorem cfgConfig_any {w:World} {v:Value} {c:Cgf} (h:CV w v c) (hi:CIn c) (ht:∀ t∈c.ten,TIn t) (hb:(cenc c).length≤1000000000) :
  Calls Tryz.prog 88 #[v] w fun e w'=>∃ u,e=.returned u∧Out w w' u (cenc c) []:=by
 obtain ⟨-,u,rfl,zs,h1,h2,h3⟩:=h
 have hM0:Mem w (w.alloc (.cells (cc c u).toArray 39)) [(w.heap.size,.cells (cc c u).toArray 39)]:=(Mem.nil w).push1 rfl
 have C:=config_any hM0
 obtain ⟨g,hg⟩:∃ g,w.heap.size=g:=⟨_,rfl⟩
 rw [hg] at C
 have HI:=fun K (hm:(g,Obj.cells ([]++(cc c u++[])).toArray 39)∈K)=>IC_box (w:=w) hi ht h1 h2 h3 hm
 simp only [List.nil_append,List.append_nil,List.length_nil] at HI
 have HII:Hid (∀ K,(g,Obj.cells (cc c u).toArray 39)∈K→∀ V,Mem w V K→IC c (u,zs) V g 0):=HI
 clear HI hM0 h1 h2 h3 hi ht
 generalize cc c u=tl at C HII
 go_enter Tryz.func88,Tryz.ntmps88
 go_wp2_with fail
 refine C.mono ?_
 rintro e V ⟨⟨k1,k2,k3,c1,c2,c3⟩,E,rfl,hM,hF⟩
 have CW:=hF.wr (E++[(g,.cells tl.toArray 39)]) (fun q hq=>List.mem_append_left _ hq) c (u,zs) g 0 (HII.out _ (by simp)) (.slice none 0 0) [] V (Out.nil hM) (by simpa [cenc] using hb)
 have eg:∀ args V,(callFunc k1 args).run Tryz.prog V=.ok (.enter k1 args) V:=hF.ew
 have hfd:∀ V,(Instr.field 189 (.agg #[.func (.func k1) #[] c1,.func (.func k2) #[] c2,.func (.func k3) #[] c3]) 0).run Tryz.prog V=.ok (.func (.func k1) #[] c1) V:=fun V=>by kernel_rfl
 simp only at CW
 simp only [Fv.val]
 clear hF HII C hM
 go_wp2_with fail
 refine CW.mono ?_
 rintro e V2 ⟨u,rfl,hO⟩
 go_wp2_with fail
 go_ret
 refine ⟨u,rfl,?_⟩
 rw [List.nil_append] at hO
 have hdrop:∀ K,Out w V2 u (spC.enc c) K→Out w V2 u (spC.enc c) []:=by
  intro K
  induction K with
  | nil=>exact id
  | cons p K ih=>exact fun h=>ih h.drop
 exact hdrop _ hO
def CVs (n:Nat) (V:World) (v:Value) (c:Cgf):Prop:=∀ w1 V':World,w1.heap.size≤n→Below w1.heap.size w1 V'→(∀ b,n≤b→b < V.heap.size→V'.heap[b]? = V.heap[b]?)→CV V' v c
theorem Mem.move {w V w1 V':World} {L:List (Nat×Obj)} (h:Mem w V L) (h1:w1.heap.size≤w.heap.size) (hb:Below w1.heap.size w1 V') (ha:∀ b,w.heap.size≤b→b < V.heap.size→V'.heap[b]? = V.heap[b]?):Mem w1 V' L :=
 ⟨hb,fun p hp=>Nat.le_trans h1 (h.low p hp),fun p hp=>(ha _ (h.low p hp) (h.lt hp)).trans (h.at_ p hp),h.apart⟩
theorem fin_C {w:World} {g0:Nat} {z0:Array Value}:∀ x g rb z V K,(g0,Obj.cells z0 39)∈K→JC w x g 39 [] [] V ((rb,.cells z 39)::K)→∃ tl,V.heap[g]? = some (.cells tl 39)∧tl.size=29∧tl.all (·.oneCell')=true∧V.heap[rb]? = some (.cells z 39)∧Mem w (V.setRow rb tl) ((rb,.cells tl 39)::K)∧∀ B,CVs w.heap.size ((V.setRow rb tl).setRow g0 B) (.agg tl) x:=by
 rintro t g rb z V K hK ⟨hlen,hbd,h,zs,hz,hok,hM2⟩
 simp only [List.nil_append,List.append_nil] at hM2
 have hzl:zs.length≤255:=by rw [←hz,List.length_map] at hbd;exact hbd
 have hone:=cc_one t (v:=lv h (zs.map tcs)) (by cases zs <;> rfl)
 obtain ⟨tl,htl⟩:∃ tl,(cc t (lv h (zs.map tcs))).toArray=tl:=⟨_,rfl⟩
 rw [htl] at hM2 hone
 have hM3:Mem w V ((rb,.cells z 39)::(g,.cells tl 39)::(tbk h zs++K)):=hM2.perm (by
  classical
  rw [List.perm_iff_count]
  intro q
  simp only [List.count_append,List.count_cons]
  omega)
 have hg3:=hM3.get 0 rfl
 have hM4:Mem w (V.setRow rb tl) ((rb,.cells tl 39)::(g,.cells tl 39)::(tbk h zs++K)):=hM3.wrote 0 rfl (wrote_setRow V rb z _ _ hg3)
 refine ⟨tl,hM2.get 0 rfl,by rw [←htl,List.size_toArray];exact cc_len hlen _,hone,hg3,hM4.subl ?_,fun B w1 V' h1 hb ha=>⟨hlen,_,by rw [←htl],?_⟩⟩
 ·exact List.Sublist.cons_cons _ (List.Sublist.cons _ (List.sublist_append_right _ _))
 ·rw [←hz]
  obtain ⟨K1,K2,rfl⟩:=List.append_of_mem hK
  have hM5:Mem w (V.setRow rb tl) ((g0,.cells z0 39)::(tbk h zs++(K1++K2))):=(show Mem w (V.setRow rb tl) (tbk h zs++(K1++(g0,.cells z0 39)::K2)) from hM4.sub.sub).perm (by
   classical
   rw [List.perm_iff_count]
   intro q
   simp only [List.count_append,List.count_cons]
   omega)
  exact tsv_own hok hzl ((hM5.wrote 0 rfl (wrote_setRow _ g0 z0 B _ (hM5.get 0 rfl))).sub.move h1 hb ha)
theorem JC_mem {w:World} {x:Cgf} {g:Nat} {V:World} {K:List (Nat×Obj)} {T:TypeId} {pre post:List Value} (h:JC w x g T pre post V K):Mem w V K:=by
 obtain ⟨h1,h2,h,zs,h3,h4,h5⟩:=h
 exact h5.sub.dropA
theorem JC_zero {w V:World} {g:Nat} {T:TypeId} {K:List (Nat×Obj)} (h:Mem w V ((g,.cells cz T (0,0))::K)):JC w cfg0 g T [] [] V K :=
 ⟨cfg0_len,by decide,0,[],rfl,(by simp),h⟩
def cdec (l:List Int):Option Cgf:=match spC.dec l cfg0 with | some (x,[])=>some x | _=>none
def OPC (w:World) (r:Option Cgf) (e:Ending) (w':World):Prop:=Below w.heap.size w w'∧match r with
 | none=>e=.returned (.tuple #[.agg cz,.int .i64 70])
 | some h=>∃ v,e=.returned (.tuple #[v,.int .i64 0])∧CVs w.heap.size w' v h
theorem CV.row {w:World} {v:Value} {c:Cgf} (h:CV w v c):∃ tl:Array Value,v=.agg tl∧tl.size=29∧tl.all (·.oneCell')=true:=by
 obtain ⟨h1,u,rfl,h2⟩:=h
 exact ⟨_,rfl,by rw [List.size_toArray];exact cc_len h1 _,cc_one c h2.one⟩
theorem openConfig_any {w:World} {a:Option Addr} {l:List Int} {c:Nat} (hS:Sl w a l c) :
  Calls Tryz.prog 98 #[.slice a l.length c] w (OPC w (cdec l)):=by
 obtain ⟨g,hg⟩:∃ g,w.heap.size=g:=⟨_,rfl⟩
 have hM0:Mem w (w.alloc (.cells cz 39)) ((g,.cells cz 39)::[]):=(Mem.nil w).push1 hg.symm
 have hCW:=fun {f:Fv} {E:List (Nat×Obj)} {V:World} (hM:Mem w V (E++[(g,.cells cz 39)])) (hF:Fw w E IC JC f spC)=>whole_C (I:=IC) (Q:=fun x V v=>∃ tl,v=.agg tl∧tl.size=29∧tl.all (·.oneCell')=true∧∀ B,CVs w.heap.size (V.setRow g B) v x) hM hF.er hF.rd hS cfg0 (fun g V K h=>JC_zero h) (fun x V K h=>JC_mem h) (fun x g' rb z V K hs h=>by
  obtain ⟨tl,h1,h2,h3,h4,h5,h6⟩:=fin_C (g0:=g) (z0:=cz) x g' rb z V K (hs _ (by simp)) h
  exact ⟨tl,h1,h2,h3,h4,h5,tl,rfl,h2,h3,h6⟩)
 obtain ⟨R,hR⟩:∃ R,cdec l=R:=⟨_,rfl⟩
 have HCW:Hid (∀ (k1 k2 k3:Nat) (c1' c2 c3:Array Value) (E:List (Nat×Obj)) (V:World),Mem w V (E++[(g,.cells cz 39)])→Fw w E IC JC ⟨k1,k2,k3,c1',c2,c3⟩ spC →
     Calls Tryz.prog 130 #[.agg #[.func (.func k1) #[] c1',.func (.func k2) #[] c2,.func (.func k3) #[] c3],.slice a l.length c] V fun e W'=>∃ (tl:Array Value) (er:Int),e=.returned (.tuple #[.agg tl,.int .i64 er])∧tl.size=29∧tl.all (·.oneCell')=true∧Mem w W' (E++[(g,.cells cz 39)]) ∧
      (Below w.heap.size w (W'.setRow g tl)→OPC w R (.returned (.tuple #[.agg tl,.int .i64 er])) (W'.setRow g tl))):=by
  intro k1 k2 k3 c1' c2 c3 E V hM hF
  have h:=hCW hM hF
  have hzo:(cz:Array Value).all (·.oneCell')=true:=by kernel_rfl
  rw [←hR]
  unfold cdec
  cases hd:spC.dec l cfg0 with
  | none =>
   rw [hd] at h
   exact h.mono (fun e W' h=>⟨cz,70,h.2,rfl,hzo,h.1,fun hb=>⟨hb,rfl⟩⟩)
  | some x =>
   obtain ⟨s,l'⟩:=x
   rw [hd] at h
   cases l' with
   | nil =>
    refine h.mono ?_
    rintro e W' ⟨h1,v,h2,tl,rfl,h4,h5,h6⟩
    exact ⟨tl,0,h2,h4,h5,h1,fun hb=>⟨hb,_,rfl,h6 tl⟩⟩
   | cons x xs=>exact h.mono (fun e W' h=>⟨cz,70,h.2,rfl,hzo,h.1,fun hb=>⟨hb,rfl⟩⟩)
 rw [hR]
 have C:=config_any hM0
 clear hCW hS hR
 generalize l.length=n at *
 go_enter Tryz.func98,Tryz.ntmps98
 go_upto_region 1 with fail
 refine wp_letter (fun V=>V=w.alloc (.cells cz 39)) rfl ?_
 rintro V0 rfl
 clear hM0
 go_wp2_with fail
 refine C.mono ?_
 rintro e V ⟨⟨k1,k2,k3,q1,q2,q3⟩,E,rfl,hM,hF⟩
 simp only [Fv.val]
 have CW:=HCW.out _ _ _ _ _ _ _ _ hM hF
 clear HCW C hM hF
 go_wp2_with fail
 refine CW.mono ?_
 rintro e V2 ⟨tl,er,rfl,hs1,hs2,hM2,hP⟩
 have hM3:Mem w V2 ((g,.cells cz 39)::E):=hM2.perm List.perm_append_comm
 have hg3:=hM3.get 0 rfl
 have hM4:Mem w (V2.setRow g tl) ((g,.cells tl 39)::E):=hM3.wrote 0 rfl (wrote_setRow V2 g _ _ _ hg3)
 have hi29:(Tryz.prog.info? 39).map (·.size)=some tl.size:=by rw [hs1];kernel_rfl
 have HP:Hid (OPC w R (.returned (.tuple #[.agg tl,.int .i64 er])) (V2.setRow g tl)):=hP hM4.below
 clear CW hP hM2 hM3
 go_wp2_with (refine wpList_store_row rfl 39 (.tmp 2) (.tmp 7) (by with_reducible rfl) g tl (by first | rfl | simp [Act.eval]) (by first | rfl | simp [Act.eval]) 39 cz hg3 hi29 (by rw [hs1];rfl) hs2 ?_)
 refine bodyPost_ret (v:=.tuple #[.agg tl,.int .i64 er]) ?_ rfl HP.out
 exact results_two' (p:=2) (q:=3) (ty:=39) rfl _ _ g _ rfl (run_loadVar_row _ _ 39 39 _ (0,0) _ (hM4.get 0 rfl) Tryz.underlying39 rfl hi29)
theorem flat_at {α:Type} {sz:Nat}:∀ (xs:List (List α)) (i j:Nat) (u:α),(∀ x∈xs,x.length=sz)→(xs.getD i [])[j]? = some u→xs.flatten[i * sz+j]? = some u
 | [],i,j,u,_,h=>by simp [List.getD] at h
 | x::xs,0,j,u,hx,h=>by
  rw [Nat.zero_mul,Nat.zero_add,List.flatten_cons]
  have h':x[j]? = some u:=h
  obtain ⟨hj,-⟩:=List.getElem?_eq_some_iff.mp h'
  rw [List.getElem?_append_left hj];exact h'
 | x::xs,i+1,j,u,hx,h=>by
  have h':(xs.getD i [])[j]? = some u:=by simpa [List.getD] using h
  have e:=hx x (List.mem_cons_self ..)
  rw [List.flatten_cons,List.getElem?_append_right (by rw [e,Nat.succ_mul];omega),show (i+1) * sz+j - x.length=i * sz+j by rw [e,Nat.succ_mul];omega]
  exact flat_at xs i j u (fun y hy=>hx y (List.mem_cons_of_mem _ hy)) h'
theorem TV.at_ {w V:World} {v:Value} {t:Ten} (h:TV w v t) {B:Nat} (hb:Below B w V) (hB:w.heap.size≤B):TV V v t:=by
 obtain ⟨hl,p,s,q,rfl,h1,h2,h3⟩:=h
 exact ⟨hl,p,s,q,rfl,h1.below ux_ne hb hB,h2.below px_ne hb hB,h3.below px_ne hb hB⟩
theorem TV.row {w:World} {v:Value} {t:Ten} (h:TV w v t):∃ tl:List Value,v=.agg tl.toArray∧tl.length=33∧∀ v∈tl,v.oneCell'=true:=by
 obtain ⟨hl,p,s,q,rfl,h1,h2,h3⟩:=h
 refine ⟨_,rfl,tc_len hl p s q,fun v hv=>?_⟩
 have:=tc_one2 t (rw_one h1) (rw_one h2) (rw_one h3)
 rw [Array.all_eq_true_iff_forall_mem] at this
 exact this v (by simpa using hv)
theorem wpList_load_row_g {ops:Array Oper} {rest:List Oper} {o:Oper} {a:Act} {w:World} {Q:Exit→Act→World→Prop} (hw:Region.wanted o (yielded ops a.tmps)=true) (ty:TypeId) (x:Operand) (ho:o.op=.load ty x)
  (g:Nat) (hx:a.eval x=.pointer (some ⟨g,0,none⟩)) (t:TypeId) (cs:Array Value) (fr:Nat×Nat) (fs:Array Field) (hg:w.heap[g]? = some (.cells cs t fr))
  (hu:Tryz.prog.underlying ty=some (.struct fs)) (hi:(Tryz.prog.info? ty).map (·.size)=some cs.size)
  (h:wpList Tryz.prog ops Q rest (a.put o.dst (.agg cs)) w):wpList Tryz.prog ops Q (o::rest) a w:=by
 unfold wpList
 rw [if_pos hw]
 exact Or.inl (wp_load_row ty x ho g hx t cs fr _ hg hu rfl hi h)
def trs:Nat→Option (List Int)→List Ten×Option (List Int)
 | 0,σ=>([],σ)
 | _+1,none=>([],none)
 | n+1,some r=>((rt (some r)).1::(trs n (rt (some r)).2).1,(trs n (rt (some r)).2).2)
end Go.Proofs.YtdigofgjhaakmaaGreatDoor
namespace Go.Proofs.YtdigofgjhaakmaaGreatDoor
open Go.RowKit
open Sm
theorem rs_nil {v:Value} {Y:List (Nat×Obj)} (h:RS v [] Y):v=.slice none 0 0∧Y=[]:=by
 rcases h with ⟨h1,_,h2⟩ | ⟨_,_,_,_,_,h0,_⟩
 ·exact ⟨h1,h2⟩
 ·simp at h0
theorem Sd.mem {W W':World} {p h m N:Nat} {D:Dk} {B:Int} {all:List (List Int)} {L:List (Nat×Obj)} (H:Sd W W' p h m N D B all L):∃ K,Mem W W' K:=by
 obtain ⟨hc,ks,K,h1,_⟩:=H.at_
 exact ⟨_,h1.st.mem⟩
theorem row_of_bk {W:World} {g gc:Nat} {cur:Array Value} {r:List Int} (ho:(Bk.mk g gc cur r).Ok r.length) (hg:W.heap[g]? = some (.cells cur 5)) (hl:r.length≤140737488351232):Row W (some ⟨g,0,none⟩) r:=by
 refine ⟨ho.bytes,hl,Or.inr ⟨g,0,rfl,fun j hj=>?_⟩⟩
 rw [Nat.zero_add,cell_of hg]
 have e2:=congrArg (fun l=>l[j]?) ho.here
 simp only [List.getElem?_map,List.getElem?_take,if_pos hj,Array.getElem?_toList,List.getElem?_eq_getElem hj,Option.map_some] at e2
 rw [e2,getD_eq hj]
end Go.Proofs.YtdigofgjhaakmaaGreatDoor
namespace Go.Proofs.YtdigofgjhaakmaaGreatDoor
open Go.RowKit
open Sm
open Cf
def chead (c:Cgf):List Int:=((((((([]++be 4 c.ip)++c.mac)++c.omac)++c.nmac)++c.key)++be 4 c.drain)++[((min c.ten.length 255:Nat):Int)])
theorem cenc_eq (c:Cgf):cenc c=chead c++cat (fun i=>tenc (c.ten.getD i ten0)) (min c.ten.length 255):=rfl
theorem tsv_at {V:World} {a:Option Addr} {n c:Nat} {zs:List Tv} (hr:Rw V 33 (.slice a n c) (zs.map zc)) (hz:∀ z∈zs,TLen z.1∧Rws V z) (i:Nat) (hi:i < zs.length):∃ b off x,a=some ⟨b,off,none⟩∧V.rangeAt b (off+i * 33) x∧x.length=33∧x.toArray.all (·.oneCell')=true∧TV V (.agg x.toArray) ((zs.map Prod.fst).getD i ten0):=by
 obtain ⟨b,off,rfl,hc⟩:=rw_at hr i (by rw [List.length_map];exact hi)
 obtain ⟨z,hx⟩:∃ z,zs[i]? = some z:=⟨_,List.getElem?_eq_getElem hi⟩
 have hzm:=hz z (List.mem_of_getElem? hx)
 have ex:(zs.map zc).getD i []=zc z:=by simp [List.getD,hx]
 rw [ex] at hc
 have et:(zs.map Prod.fst).getD i ten0=z.1:=by simp [List.getD,hx]
 rw [et]
 exact ⟨b,off,zc z,rfl,fun j u hj=>hc j u hj,tc_len hzm.1 _ _ _,zc_one hzm.2,hzm.1,z.2.1,z.2.2.1,z.2.2.2,rfl,hzm.2⟩
theorem Ob.none {w W:World} {u:Value} {l:List Int} {K:List (Nat×Obj)} {n:Nat} (h:Ob w W u l K n):Ob w W u l [] n:=⟨h.1.none,h.2⟩
end Go.Proofs.YtdigofgjhaakmaaGreatDoor
namespace Go.Proofs.YtdigofgjhaakmaaGreatDoor
open Go.ChangeShapes Go.WideShapes Go.ChangeAt Go.RowKit Go.Joins
open Sm
open Cf
structure TBy (t:Ten):Prop where
 key:IsBytes t.key
 vmac:IsBytes t.vmac
 host:IsBytes t.host
structure TRg (t:Ten):Prop where
 vni:0≤t.vni∧t.vni≤4294967295
 vtep:0≤t.vtep∧t.vtep≤4294967295
 lo:0≤t.lo∧t.lo≤65535
 hi:0≤t.hi∧t.hi≤65535
 filter:-9223372036854775808≤t.filter∧t.filter≤9223372036854775807
 sess:-9223372036854775808≤t.sess∧t.sess≤9223372036854775807
 queue:-9223372036854775808≤t.queue∧t.queue≤9223372036854775807
 rate:0≤t.rate∧t.rate≤4294967295
 burst:0≤t.burst∧t.burst≤4294967295
 pool:∀ x∈t.pool,0≤x∧x≤4294967295
 stat:∀ x∈t.stat,(0≤x.1∧x.1≤4294967295)∧0≤x.2∧x.2≤4294967295
 twi:∀ x∈t.twi,(0≤x.1∧x.1≤4294967295)∧0≤x.2∧x.2≤4294967295
section
variable {H:Type} {enc:TypeId×Value→H} {W:World} {base:Nat} {held:Bool}
structure CRg (c:Cgf):Prop where
 ip:0≤c.ip∧c.ip≤4294967295
 drain:0≤c.drain∧c.drain≤4294967295
end
end Go.Proofs.YtdigofgjhaakmaaGreatDoor
namespace Go.Proofs.YtdigofgjhaakmaaGreatDoor
open Go.RowKit
open Sm
open Cf
end Go.Proofs.YtdigofgjhaakmaaGreatDoor
