/-
  A store's methods: Version, Down, Config, Begin, Abort, Gateway, Staged.
  Which settings may be: what is asked of a tenant where it stands.
  Settings as text: the program's reader: a tenant's line.
  P15.3: from one to a second, and on to a third.
  A store's Stage.
  A store's Staged.
  Which settings may be: the rules of a tenant where it stands.
  Settings as text: a tenant that lies at a place, its lists in blocks of their own; one field turned, one element more.
  What is changed: the document's list in order: where it lies, what is put into it and taken out of it.
-/
import Derived.Test.YtdigofgjhaakmaaGreatDoorW30
import Derived.BigQuiet
import Derived.Test.YtdigofgjhaakmaaGreatDoorW01
import Derived.Test.YtdigofgjhaakmaaGreatDoorW17
import Derived.Deep.DeepCutAuto
import Derived.ArgAppend
set_option linter.unusedVariables false
set_option linter.unusedSimpArgs false
set_option maxRecDepth 20000
set_option maxHeartbeats 40000000
namespace Go.Proofs.YtdigofgjhaakmaaGreatDoor
open Go.RowKit
open Sm
open Cf
open Df
section
variable {W:World} {ps:Nat} {ver:Int} {dn:Bool} {sp:Option Addr}
theorem version_any (h1:W.cell? ⟨ps,1,none⟩=some (.int .u64 ver)):Calls Tryz.prog 15 #[.pointer (some ⟨ps,0,none⟩)] W fun e W'=>e=.returned (.int .u64 ver)∧W=W':=by
 go_enter Tryz.func15,Tryz.ntmps15
 go_wp2
 go_ret
 exact ⟨rfl,rfl⟩
def Cpd (W:World) (c:Cgf) (ts:List Ten) (v:Value) (V:World):Prop:=∃ u,v=.agg (cc c u).toArray∧∃ B C,TsB u ts B C∧Mem W V (B++C)
theorem Cpd.cv {V:World} {c:Cgf} {v:Value} (h:Cpd W c c.ten v V) (hl:CLen c):CV V v c:=by
 obtain ⟨u,rfl,B,C,h1,h2⟩:=h
 exact ⟨hl,u,rfl,tsb_tsv h1 fun x hx=>h2.at_ x hx⟩
theorem Cpd.below {V:World} {c:Cgf} {ts:List Ten} {v:Value} (h:Cpd W c ts v V):Below W.heap.size W V:=by
 obtain ⟨u,rfl,B,C,h1,h2⟩:=h
 exact h2.below
theorem tsb_one {u:Value} {ts:List Ten} {B C:List (Nat×Obj)} (h:TsB u ts B C):u.oneCell'=true:=by
 obtain ⟨zs,-,h1,-⟩:=h
 exact owb_one h1
theorem config_any16 {c:Cgf} {u:Value} {zs:List Tv} (hra:W.rangeAt ps 2 (cc c u)) (hcl:CLen c) (hz:ZV W u zs) (hf:∀ z∈zs,TFew z.1) (hm:zs.length≤1000) :
 Calls Tryz.prog 17 #[.pointer (some ⟨ps,0,none⟩)] W fun e V=>∃ v,e=.returned v∧Cpd W c (zs.map Prod.fst) v V:=by
 obtain ⟨g,hg⟩:∃ g,W.heap.size=g:=⟨_,rfl⟩
 have hM0:Mem W (W.alloc (.cells cz 39)) [(g,.cells cz 39)]:=(Mem.nil W).push1 hg.symm
 have hra1:(W.alloc (.cells cz 39)).rangeAt ps 2 (cc c u):=fun j x hj=>by
  have h:=hra j x hj
  rw [hM0.old (cell_lt h)];exact h
 have C:=cop_any hcl (hz.at_ hM0.below) hf hm
 have hi29:(Tryz.prog.info? 39).map (·.size)=some (cc c u).length:=by rw [cc_len hcl];kernel_rfl
 have HL:Hid (Mem W (W.alloc (.cells cz 39)) [(g,.cells cz 39)]∧(W.alloc (.cells cz 39)).rangeAt ps 2 (cc c u)∧Calls Tryz.prog 51 #[.agg (cc c u).toArray] (W.alloc (.cells cz 39)) fun e V=>∃ u',e=.returned (.agg (cc c u').toArray)∧∃ B C,TsB u' (zs.map Prod.fst) B C∧Mem (W.alloc (.cells cz 39)) V (B++C)):=⟨hM0,hra1,C⟩
 clear hM0 hz hf hra hra1 C
 go_enter Tryz.func17,Tryz.ntmps17
 go_upto_region 1 with fail
 refine wp_letter (fun X=>Mem W X [(g,.cells cz 39)]∧X.rangeAt ps 2 (cc c u)∧Calls Tryz.prog 51 #[.agg (cc c u).toArray] X fun e V=>∃ u',e=.returned (.agg (cc c u').toArray)∧∃ B C,TsB u' (zs.map Prod.fst) B C∧Mem X V (B++C)) (by exact HL.out) ?_
 rintro V0 ⟨hM0,hra,C⟩
 try simp only [hg]
 clear HL hg
 have HM0:Hid (Mem W V0 [(g,.cells cz 39)]):=hM0
 clear hM0
 go_wp2_with (refine wpList_load_mid rfl 39 (.tmp 6) (by with_reducible rfl) ps 2 (by simp [Act.eval]) (cc c u) _ hra Tryz.underlying39 rfl hi29 ?_)
 refine C.mono ?_
 rintro e V ⟨u',rfl,B,C',hT,hM⟩
 have hM1:=HM0.out.more hM
 have hM2:Mem W V ((g,.cells cz 39)::(B++C')):=hM1.perm List.perm_append_comm
 have k2:=hM2.get 0 rfl
 obtain ⟨A,hA⟩:∃ A,(cc c u').toArray=A:=⟨_,rfl⟩
 have hsz:A.size=29:=by rw [←hA,List.size_toArray];exact cc_len hcl _
 have hone:A.all (·.oneCell')=true:=by rw [←hA];exact cc_one c (tsb_one hT)
 have i29:(Tryz.prog.info? 39).map (·.size)=some A.size:=by rw [hsz];kernel_rfl
 have z29:(cz:Array Value).size=A.size:=by rw [hsz];rfl
 have hM3:=hM2.wrote 0 rfl (wrote_setRow V g _ A _ k2)
 have HQ:Hid ((V.setRow g A).heap[g]? = some (.cells A 39)∧∃ v,Ending.returned (.agg A)=.returned v∧Cpd W c (zs.map Prod.fst) v (V.setRow g A)):=⟨hM3.get 0 rfl,_,rfl,u',by rw [hA],B,C',hT,hM3.sub⟩
 rw [hA]
 clear hM hM1 hM2 hM3 HM0 C hra hT hA
 go_wp2_with (refine wpList_store_row rfl 39 (.tmp 2) (.tmp 8) (by with_reducible rfl) g A (by first | rfl | simp [Act.eval]) (by first | rfl | simp [Act.eval]) 39 cz k2 i29 z29 hone ?_)
 refine bodyPost_ret (v:=.agg A) ?_ rfl HQ.out.2
 exact results_cell_row (p:=2) (ty:=39) rfl _ _ g 39 _ (0,0) _ rfl HQ.out.1 Tryz.underlying39 rfl i29
end
section
variable {w W:World} {ps pl:Nat} {ver:Int} {c:Cgf} {u:Value} {sp:Option Addr} {dn:Bool} {L:List (Nat×Obj)}
abbrev bxS (ps pl:Nat) (ver:Int) (c:Cgf) (u:Value) (sp:Option Addr) (dn:Bool):Nat×Obj:=(ps,.cells (xA pl ver c u sp dn).toArray stT (0,0))
abbrev bxC (g:Nat) (c:Cgf) (u:Value):Nat×Obj:=(g,.cells (cc c u).toArray 39)
theorem bx1 (hM:Mem w W (bxS ps pl ver c u sp dn::L)):W.cell? ⟨ps,1,none⟩=some (.int .u64 ver):=by rw [hM.cell 0 rfl];exact xA_1
theorem bx0 (hM:Mem w W (bxS ps pl ver c u sp dn::L)):W.cell? ⟨ps,0,none⟩=some (.pointer (some ⟨pl,0,none⟩)):=by rw [hM.cell 0 rfl];exact xA_0
theorem bx31 (hM:Mem w W (bxS ps pl ver c u sp dn::L)) (hl:CLen c):W.cell? ⟨ps,31,none⟩=some (.pointer sp):=by rw [hM.cell 0 rfl];exact xA_31 hl
theorem bx32 (hM:Mem w W (bxS ps pl ver c u sp dn::L)) (hl:CLen c):W.cell? ⟨ps,32,none⟩=some (.bool dn):=by rw [hM.cell 0 rfl];exact xA_32 hl
theorem begin_ok (hM:Mem w W (bxS ps pl ver c u none false::L)) (hl:CLen c) :
 Calls Tryz.prog 22 #[.pointer (some ⟨ps,0,none⟩),.int .u64 ver] W fun e W'=>∃ g,e=.returned (.int .i64 0)∧Mem w W' (bxS ps pl ver c u (some ⟨g,0,none⟩) false::bxC g c u::L):=by
 have h1:=bx1 hM
 have h31:=bx31 hM hl
 have h32:=bx32 hM hl
 have hra:=xA_range hM
 have C:=stage_any (cl:=(cc c u).toArray) hM (xA_size hl) (xA_31 hl)
 simp only [xA_set31 hl] at C
 have hi29:(Tryz.prog.info? 39).map (·.size)=some (cc c u).length:=by rw [cc_len hl];kernel_rfl
 have hv:(ver != ver)=false:=by simp
 clear hM
 obtain ⟨cl,hcl⟩:∃ cl,cc c u=cl:=⟨_,rfl⟩
 rw [hcl] at hra hi29
 simp only [hcl] at C
 have HCL:Hid (cc c u=cl):=hcl
 clear hcl
 go_enter Tryz.func22,Tryz.ntmps22
 go_wp2_with (refine wpList_load_mid rfl 39 (.tmp 28) (by with_reducible rfl) ps 2 (by simp [Act.eval]) cl _ hra Tryz.underlying39 rfl hi29 ?_)
 refine C.mono ?_
 rintro e W' ⟨g,rfl,hM⟩
 go_wp2_with fail
 go_ret
 exact ⟨g,rfl,by rw [bxC,HCL.out];exact hM⟩
theorem abort_ok {g:Nat} (hM:Mem w W (bxS ps pl ver c u (some ⟨g,0,none⟩) false::L)) (hl:CLen c) :
 Calls Tryz.prog 23 #[.pointer (some ⟨ps,0,none⟩)] W fun e W'=>e=.returned (.int .i64 0)∧Mem w W' (bxS ps pl ver c u none false::L):=by
 have h31:=bx31 hM hl
 have C:=begun_any h31 (bx32 hM hl)
 have C2:=failed_any 0 W
 have f31:=hM.free 0 rfl 31
 have hM2:=hM.set 0 rfl 31 (.pointer none)
 simp only [List.set_cons_zero] at hM2
 rw [xA_set31 hl] at hM2
 have HM2:Hid (Mem w (W.setCell ⟨ps,31,none⟩ (.pointer none)) (bxS ps pl ver c u none false::L)):=hM2
 have hz:((0:Int) != 0)=false:=rfl
 clear hM hM2
 go_enter Tryz.func23,Tryz.ntmps23
 go_wp2_with fail
 refine C.mono ?_
 rintro e _ ⟨rfl,rfl⟩
 go_wp2_with fail
 refine C2.mono ?_
 rintro e _ ⟨rfl,rfl⟩
 go_wp2_with fail
 go_ret
 exact ⟨rfl,HM2.out⟩
theorem gateway_ok {g:Nat} {c1 c2:Cgf} {u1 u2:Value} (hM:Mem w W (bxS ps pl ver c u (some ⟨g,0,none⟩) false::L)) (hg:bxC g c1 u1∈L) (hl:CLen c) (hl1:CLen c1) (hl2:CLen c2) (hs1:∃ a n m,u1=.slice a n m) :
 Calls Tryz.prog 26 #[.pointer (some ⟨ps,0,none⟩),.agg (cc c2 u2).toArray] W fun e W'=>∃ g',e=.returned (.int .i64 0)∧Mem w W' (bxS ps pl ver c u (some ⟨g',0,none⟩) false::bxC g' { c2 with ten:=c1.ten } u1::L):=by
 obtain ⟨sa,sn,sm,rfl⟩:=hs1
 obtain ⟨g0,hg0⟩:∃ g,W.heap.size=g:=⟨_,rfl⟩
 have hM1:Mem w (W.alloc (.cells (cc c2 u2).toArray 39)) (bxC g0 c2 u2::bxS ps pl ver c u (some ⟨g,0,none⟩) false::L):=hM.front _ hg0.symm
 have hM1':=hM1.sub
 have C1:=begun_any (bx31 hM1' hl) (bx32 hM1' hl)
 have C2:=failed_any 0 (W.alloc (.cells (cc c2 u2).toArray 39))
 have h31:=bx31 hM1' hl
 have h28:(W.alloc (.cells (cc c2 u2).toArray 39)).cell? ⟨g,28,none⟩=some (.slice sa sn sm):=by
  rw [cell_of (hM1.at_ _ (List.mem_cons_of_mem _ (List.mem_cons_of_mem _ hg)))];exact cc_28 hl1 (.slice sa sn sm)
 have k28:(W.alloc (.cells (cc c2 u2).toArray 39)).cell? ⟨g0,28,none⟩=some u2:=by rw [hM1.cell 0 rfl];exact cc_28 hl2 u2
 have f28:=hM1.free 0 rfl 28
 have HM2:Hid (Mem w (W.alloc (.cells ((cc c2 u2).toArray.setIfInBounds 28 (.slice sa sn sm)) 39)) (bxC g0 { c2 with ten:=c1.ten } (.slice sa sn sm)::bxS ps pl ver c u (some ⟨g,0,none⟩) false::L)):=by
  rw [cc_set28 hl2,show cc c2 (.slice sa sn sm)=cc { c2 with ten:=c1.ten } (.slice sa sn sm) from rfl]
  exact hM.front _ hg0.symm
 obtain ⟨A,hA⟩:∃ A,(cc c2 u2).toArray=A:=⟨_,rfl⟩
 obtain ⟨A2,hA2⟩:∃ A2,(cc { c2 with ten:=c1.ten } (.slice sa sn sm)).toArray=A2:=⟨_,rfl⟩
 have hsz:A2.size=29:=by rw [←hA2,List.size_toArray];exact cc_len ⟨hl2.mac,hl2.omac,hl2.nmac,hl2.key⟩ _
 have i29:(Tryz.prog.info? 39).map (·.size)=some A2.size:=by rw [hsz];kernel_rfl
 have HA2:Hid ((cc { c2 with ten:=c1.ten } (.slice sa sn sm)).toArray=A2):=hA2
 rw [hA] at C1 C2 h31 h28 k28 f28 HM2 ⊢
 have hz:((0:Int) != 0)=false:=rfl
 clear hM hM1 hM1' hg hA
 go_enter Tryz.func26,Tryz.ntmps26
 go_wp2_with fail
 refine C1.mono ?_
 rintro e _ ⟨rfl,rfl⟩
 go_wp2_with fail
 refine C2.mono ?_
 rintro e _ ⟨rfl,rfl⟩
 go_upto_region 5 with fail
 refine wp_letter (fun X=>Mem w X (bxC g0 { c2 with ten:=c1.ten } (.slice sa sn sm)::bxS ps pl ver c u (some ⟨g,0,none⟩) false::L)) (by exact HM2.out) ?_
 intro V hM
 try simp only [hg0]
 clear HM2 C1 C2 h31 h28 k28 f28 hg0
 have k0:=hM.get 0 rfl
 have C3:=stage_any (cl:=A2) hM.sub (xA_size hl) (xA_31 hl)
 simp only [xA_set31 hl] at C3
 rw [hA2] at k0
 clear hA2 hM
 go_wp2_with (refine wpList_load_row rfl 39 (.tmp 3) (by with_reducible rfl) g0 (by first | rfl | simp [Act.eval]) 39 A2 (0,0) _ k0 Tryz.underlying39 rfl i29 ?_)
 refine C3.mono ?_
 rintro e W' ⟨g',rfl,hM⟩
 go_wp2_with fail
 go_ret
 exact ⟨g',rfl,by rw [bxC,HA2.out];exact hM⟩
end
end Go.Proofs.YtdigofgjhaakmaaGreatDoor
namespace Go.Proofs.YtdigofgjhaakmaaGreatDoor
open Go.RowKit
open Va
theorem pp1 {W:World} {g:Nat} {t:Ten} (h:TBo W g t):PrT W 109 #[.pointer (some ⟨g,0,none⟩)] (fun o=>o.vni == t.vni):=by
 refine ⟨enters_of Tryz.func109 (by kernel_rfl) rfl,fun V v o hV hv hm=>?_⟩
 obtain ⟨tl,pa,sa,qa,pc,sc,qc,hg,hx⟩:=h.later hV
 obtain ⟨ol,pa',sa',qa',pc',sc',qc',rfl,ho⟩:=hv.tb
 obtain ⟨g2,hg2⟩:∃ g2,V.heap.size=g2:=⟨_,rfl⟩
 have hM0:Mem V (V.alloc (.cells ol.toArray 46)) [(g2,.cells ol.toArray 46)]:=(Mem.nil V).push1 hg2.symm
 have HX:Hid (∀ X,Mem V X [(g2,.cells ol.toArray 46)]→X.cell? ⟨g2,1,none⟩=some (.int .u32 o.vni)∧X.cell? ⟨g,1,none⟩=some (.int .u32 t.vni)):=fun X hX=>⟨cell_tl (hX.get 0 rfl) ho.vni,cell_later hX.below (cell_tl hg hx.vni)⟩
 clear h hg hx ho hv hm
 simp only [List.append_toArray,List.cons_append,List.nil_append,Array.empty_append]
 generalize ol.toArray=A at *
 generalize o.vni=x at *
 generalize t.vni=y at *
 go_enter Tryz.func109,Tryz.ntmps109
 go_upto_region 1 with fail
 refine wp_letter (fun X=>Mem V X [(g2,.cells A 46)]) (by exact hM0) ?_
 intro V1 hM
 try simp only [hg2]
 clear hM0 hg2
 obtain ⟨c1,c2⟩:=HX.out V1 hM
 have HB:Hid (Below V.heap.size V V1):=hM.below
 clear HX hM
 go_wp2_with fail
 go_ret
 exact ⟨rfl,HB.out⟩
theorem pp21 {W:World} {g:Nat} {x:Int} (h:W.cell? ⟨g,0,none⟩=some (.int .u32 x)):PrT W 112 #[.pointer (some ⟨g,0,none⟩)] (fun o=>owns o x):=by
 refine ⟨enters_of Tryz.func112 (by kernel_rfl) rfl,fun V v o hV hv hm=>?_⟩
 have c0:=cell_later hV h
 obtain ⟨ol,pa',sa',qa',pc',sc',qc',rfl,ho⟩:=hv.tb
 obtain ⟨g2,hg2⟩:∃ g2,V.heap.size=g2:=⟨_,rfl⟩
 have hM0:Mem V (V.alloc (.cells ol.toArray 46)) [(g2,.cells ol.toArray 46)]:=(Mem.nil V).push1 hg2.symm
 have HC:Hid (∀ X,Below V.heap.size V X→Calls Tryz.prog 113 #[.agg ol.toArray,.int .u32 x] X fun e w'=>e=.returned (.bool (owns o x))∧Below X.heap.size X w'):=fun X hX=>owns_any (ho.later hX).tv hm x
 have i33:=i33_of ho.len
 clear h ho hv hm
 simp only [List.append_toArray,List.cons_append,List.nil_append,Array.empty_append]
 generalize owns o x=B at *
 generalize ol.toArray=A at *
 go_enter Tryz.func112,Tryz.ntmps112
 go_upto_region 1 with fail
 refine wp_letter (fun X=>Mem V X [(g2,.cells A 46)]) (by exact hM0) ?_
 intro V1 hM
 try simp only [hg2]
 clear hM0 hg2
 have c1:=cell_later hM.below c0
 have hk:=hM.get 0 rfl
 have C:=HC.out V1 hM.below
 have HB:Hid (Below V.heap.size V V1):=hM.below
 clear HC hM c0
 go_wp2_with (refine wpList_load_row rfl 46 (.tmp 2) (by with_reducible rfl) g2 (by first | rfl | simp [Act.eval]) 46 A (0,0) _ hk Tryz.underlying46 rfl i33 ?_)
 refine C.mono ?_
 rintro _ X ⟨rfl,hb⟩
 go_wp2_with fail
 go_ret
 exact ⟨rfl,HB.out.trans (hb.mono HB.out.size)⟩
theorem pp2 {W:World} {g ga:Nat} {c:Cgf} {ta:Option Addr} {n tp:Nat} {ah:List Ten} (h:CBo W g c) (hc:W.cell? ⟨ga,0,none⟩=some (.slice ta n tp)) (ht:TSV W (.slice ta n tp) ah) (hl:ah.length≤1000000) (hm:∀ t∈ah,TSm t) :
  PrU W 110 #[.pointer (some ⟨g,0,none⟩),.pointer (some ⟨ga,0,none⟩)] (fun x=>x == c.ip || ah.any (fun o=>owns o x)):=by
 refine ⟨enters_of Tryz.func110 (by kernel_rfl) rfl,fun x V hV=>?_⟩
 obtain ⟨cl,ta',tp',hg,hx⟩:=h.later hV
 obtain ⟨g2,hg2⟩:∃ g2,V.heap.size=g2:=⟨_,rfl⟩
 have hM0:Mem V (V.alloc (.cells #[.int .u32 x] 33)) [(g2,.cells #[.int .u32 x] 33)]:=(Mem.nil V).push1 hg2.symm
 obtain ⟨B,hB⟩:∃ B,ah.any (fun o=>owns o x)=B:=⟨_,rfl⟩
 have HX:Hid (∀ X,Mem V X [(g2,.cells #[.int .u32 x] 33)]→X.cell? ⟨g2,0,none⟩=some (.int .u32 x)∧X.cell? ⟨g,0,none⟩=some (.int .u32 c.ip)∧X.cell? ⟨ga,0,none⟩=some (.slice ta n tp)∧Calls Tryz.prog 111 #[.slice ta n tp,.func (.func 112) #[] #[.pointer (some ⟨g2,0,none⟩)]] X fun e w'=>e=.returned (.bool B)∧Below X.heap.size X w'):=by
  intro X hX
  have hb:=hV.trans (hX.below.mono hV.size)
  have C:=containsf_t (ht.at_ hb (Nat.le_refl _)) hl (pp21 (hX.cell 0 rfl 0)) hm
  rw [hB] at C
  exact ⟨hX.cell 0 rfl 0,cell_later hX.below (cell_tl hg hx.ip),cell_later hb hc,C⟩
 have hmf:=mkf
 simp only [List.append_toArray,List.cons_append,List.nil_append,Array.empty_append]
 rw [hB]
 clear h hc ht hl hm hg hx hB hV
 generalize c.ip=y at *
 cases hxy:(x == y) with
 | true =>
  go_enter Tryz.func110,Tryz.ntmps110
  go_upto_region 1 with fail
  refine wp_letter (fun X=>Mem V X [(g2,.cells #[.int .u32 x] 33)]) (by exact hM0) ?_
  intro V1 hM
  try simp only [hg2]
  clear hM0 hg2
  obtain ⟨c1,c2,c3,C⟩:=HX.out V1 hM
  have HB:Hid (Below V.heap.size V V1):=hM.below
  clear HX hM C
  go_wp2_with fail
  go_ret
  exact ⟨rfl,HB.out⟩
 | false =>
  go_enter Tryz.func110,Tryz.ntmps110
  go_upto_region 1 with fail
  refine wp_letter (fun X=>Mem V X [(g2,.cells #[.int .u32 x] 33)]) (by exact hM0) ?_
  intro V1 hM
  try simp only [hg2]
  clear hM0 hg2
  obtain ⟨c1,c2,c3,C⟩:=HX.out V1 hM
  have HB:Hid (Below V.heap.size V V1):=hM.below
  clear HX hM
  go_wp2_with fail
  refine C.mono ?_
  rintro _ X ⟨rfl,hb⟩
  go_wp2_with fail
  go_ret
  exact ⟨rfl,HB.out.trans (hb.mono HB.out.size)⟩
theorem pr3 {W:World} {g:Nat} {t:Ten} (hv:Vs W) (h:TBo W g t) (hm:TSm t):Rul W 114 #[.pointer (some ⟨g,0,none⟩)] (tchk t):=by
 refine ⟨enters_of Tryz.func114 (by kernel_rfl) rfl,fun V hV=>?_⟩
 obtain ⟨tl,pa,sa,qa,pc,sc,qc,hg,hx⟩:=h.later hV
 have C:=tenant14_any (hv.below hV) hx.tv hm
 have i33:=i33_of hx.len
 clear h hx hm hv
 simp only [List.append_toArray,List.cons_append,List.nil_append,Array.empty_append]
 generalize tchk t=B at *
 generalize tl.toArray=A at *
 go_enter Tryz.func114,Tryz.ntmps114
 go_wp2_with (refine wpList_load_row rfl 46 (.tmp 0) (by with_reducible rfl) g (by first | rfl | simp [Act.eval]) 46 A (0,0) _ hg Tryz.underlying46 rfl i33 ?_)
 refine C.mono ?_
 rintro _ X ⟨rfl,hb⟩
 go_wp2_with fail
 go_ret
 exact ⟨rfl,hb⟩
theorem pq4 {W:World} {g gi ga i:Nat} {t:Ten} {ta:Option Addr} {tp:Nat} {ah:List Ten} (h:TBo W g t) (hi:W.cell? ⟨gi,0,none⟩=some (.int .i64 (i:Int))) (hl:ah.length=i) (hl2:i≤1000000) (hc:W.cell? ⟨ga,0,none⟩=some (.slice ta i tp)) (ht:TSV W (.slice ta i tp) ah) :
  Ask W 115 #[.pointer (some ⟨gi,0,none⟩),.pointer (some ⟨ga,0,none⟩),.pointer (some ⟨g,0,none⟩)] (ah.length == 0 || lss (ah.getD (ah.length - 1) ten0).name t.name):=by
 refine ⟨enters_of Tryz.func115 (by kernel_rfl) rfl,fun V hV=>?_⟩
 obtain ⟨tl,pa,sa,qa,pc,sc,qc,hg,hx⟩:=h.later hV
 have c0:=cell_later hV hi
 have c1:=cell_later hV hc
 have c2:=cell_tl hg hx.name
 have ht2:=ht.at_ hV (Nat.le_refl _)
 simp only [List.append_toArray,List.cons_append,List.nil_append,Array.empty_append]
 subst hl
 by_cases h0:ah.length=0
 ·have e0:(((ah.length:Nat):Int) == 0)=true:=by rw [h0];rfl
  have e1:(ah.length == 0)=true:=by rw [h0];rfl
  rw [e1,Bool.true_or]
  clear h hi hc ht ht2 hg hx hV e1
  have e2:((ah.length:Nat):Int)=0:=by omega
  rw [e2] at c0
  clear e0 e2
  generalize ah.length=n at *
  generalize t.name=s1 at *
  go_enter Tryz.func115,Tryz.ntmps115
  go_upto_region 1 with fail
  go_quiet (fail)
  go_wp2_with fail
  go_ret
  exact ⟨rfl,Go.below_drewN (Below.refl _ _) _⟩
 ·have e1:(ah.length == 0)=false:=by simp [h0]
  rw [e1,Bool.false_or]
  obtain ⟨a',c',e,hle,hcb,hp⟩:=ht2.parts
  simp only [Value.slice.injEq] at e
  obtain ⟨rfl,-,rfl⟩:=e
  obtain ⟨b,off,x,rfl,hsz,hone,hVV⟩:=hp (ah.length - 1) (by omega)
  obtain ⟨hra,hTV⟩:=hVV V (Below.refl _ _)
  obtain ⟨ol,_,_,_,_,_,_,ex,ho⟩:=hTV.tb
  have ex2:x=ol:=by simpa using ex
  have c3:V.cell? ⟨b,off+(ah.length - 1) * 33,none⟩=some (.string (ah.getD (ah.length - 1) ten0).name):=by
   have:=hra 0 _ (by rw [ex2];exact ho.name)
   rwa [Nat.add_zero] at this
  have e3:IntKind.i64.wrap ((ah.length:Nat) - 1:Int)=((ah.length - 1:Nat):Int):=by
   rw [wrap64 (by omega) (by omega)];omega
  have e0:(((ah.length:Nat):Int) == 0)=false:=by rw [beq_eq_false_iff_ne];omega
  have hlt:ah.length - 1 < ah.length:=by omega
  unfold lss
  clear h hi hc ht ht2 hg hx hV e1 hp hVV hra hTV ho ex ex2 hone hsz
  generalize (ah.getD (ah.length - 1) ten0).name=s2 at *
  generalize ah.length - 1=m at *
  generalize ah.length=n at *
  generalize t.name=s1 at *
  have h1:(m:Int) < n:=by omega
  go_enter Tryz.func115,Tryz.ntmps115
  go_upto_region 1 with fail
  go_quiet (fail)
  go_wp2_with fail
  go_ret
  exact ⟨rfl,Go.below_drewN (Below.refl _ _) _⟩
theorem pq5 {W:World} {ga gs k:Nat} {caps:Array Value} {ta:Option Addr} {n tp:Nat} {ah:List Ten} {f:Ten→Bool} (hf:PrT W k caps f) (hs:W.cell? ⟨gs,0,none⟩=some (.func (.func k) #[] caps)) (hc:W.cell? ⟨ga,0,none⟩=some (.slice ta n tp)) (ht:TSV W (.slice ta n tp) ah) (hl:ah.length≤1000000) (hm:∀ t∈ah,TSm t) :
  Ask W 117 #[.pointer (some ⟨ga,0,none⟩),.pointer (some ⟨gs,0,none⟩)] (ah.any f):=by
 refine ⟨enters_of Tryz.func117 (by kernel_rfl) rfl,fun V hV=>?_⟩
 have c0:=cell_later hV hs
 have c1:=cell_later hV hc
 have C:=containsf_t (ht.at_ hV (Nat.le_refl _)) hl (hf.later hV) hm
 clear hf hs hc ht hl hm
 simp only [List.append_toArray,List.cons_append,List.nil_append,Array.empty_append]
 generalize ah.any f=B at *
 go_enter Tryz.func117,Tryz.ntmps117
 go_wp2_with fail
 refine C.mono ?_
 rintro _ X ⟨rfl,hb⟩
 go_wp2_with fail
 go_ret
 exact ⟨rfl,hb⟩
theorem pq6 {W:World} {g gk k:Nat} {caps:Array Value} {t:Ten} {f:Int→Bool} (h:TBo W g t) (hm:TSm t) (hf:PrU W k caps f) (hs:W.cell? ⟨gk,0,none⟩=some (.func (.func k) #[] caps)) :
  Ask W 118 #[.pointer (some ⟨g,0,none⟩),.pointer (some ⟨gk,0,none⟩)] (ow1 t f):=by
 refine ⟨enters_of Tryz.func118 (by kernel_rfl) rfl,fun V hV=>?_⟩
 obtain ⟨tl,pa,sa,qa,pc,sc,qc,hg,hx⟩:=h.later hV
 have c0:=cell_later hV hs
 have C:=ownsOne_any hx.tv hm (hf.later hV)
 have i33:=i33_of hx.len
 clear h hx hm hf hs
 simp only [List.append_toArray,List.cons_append,List.nil_append,Array.empty_append]
 generalize ow1 t f=B at *
 generalize tl.toArray=A at *
 go_enter Tryz.func118,Tryz.ntmps118
 go_wp2_with (refine wpList_load_row rfl 46 (.tmp 0) (by with_reducible rfl) g (by first | rfl | simp [Act.eval]) 46 A (0,0) _ hg Tryz.underlying46 rfl i33 ?_)
 refine C.mono ?_
 rintro _ X ⟨rfl,hb⟩
 go_wp2_with fail
 go_ret
 exact ⟨rfl,hb⟩
end Go.Proofs.YtdigofgjhaakmaaGreatDoor
namespace Go.Proofs.YtdigofgjhaakmaaGreatDoor
open Go.RowKit
open La
open Ad
end Go.Proofs.YtdigofgjhaakmaaGreatDoor
namespace Go.Proofs.YtdigofgjhaakmaaGreatDoor
open Go.RowKit
open Sm
open Cf
open Df
namespace Df
end Df
theorem below_dr {V X:World} (h:Below V.drew.heap.size V.drew X):Below V.heap.size V X:=((Below.refl V.heap.size V).drew).trans h
theorem bslC (h:Chg) (hl:TLen h.t) (p s q:Value) (V:World):(Instr.buildSlice 109 1 #[(0,.agg (hc h p s q).toArray)]).run Tryz.prog V=.ok (.slice (some ⟨V.heap.size,0,none⟩) 1 1) (V.alloc (.cells (hc h p s q).toArray 48)):=by
 obtain ⟨put,name,n,vn,key,vt,vm,ho,po,lo,hi,fi,st,tw,se,qu,ra,bu⟩:=h
 obtain ⟨h1,h2,h3⟩:=hl
 obtain ⟨a,b,c,d,f,g,x,y,rfl⟩:=eight8 h1
 obtain ⟨a1,b1,c1,d1,f1,g1,rfl⟩:=six6 h2
 obtain ⟨a2,b2,c2,d2,f2,g2,rfl⟩:=six6 h3
 obtain ⟨os,tape,heap⟩:=V
 kernel_rfl
section
variable {w W:World} {ps pl:Nat} {ver:Int} {c:Cgf} {u:Value} {sp:Option Addr} {dn:Bool} {L:List (Nat×Obj)}
theorem stageS_no (hM:Mem w W (bxS ps pl ver c u sp dn::L)) (hl:CLen c) (hk:bgn dn sp≠0) (cl:Array Value) :
 Calls Tryz.prog 29 #[.pointer (some ⟨ps,0,none⟩),.agg cl] W fun e W'=>e=.returned (.int .i64 (bgn dn sp))∧Below W.heap.size W W':=by
 have hM1:Mem W (W.alloc (.cells cl 48)) [(W.heap.size,.cells cl 48)]:=(Mem.nil W).push1 rfl
 have C1:=begun_any (bx31 (hM.after hM1.below) hl) (bx32 (hM.after hM1.below) hl)
 have C2:=failed_any (bgn dn sp) (W.alloc (.cells cl 48))
 have h2:(bgn dn sp != 0)=true:=by simp [hk]
 have HB:Hid (Below W.heap.size W (W.alloc (.cells cl 48))):=hM1.below
 rw [h2] at C2
 generalize bgn dn sp=k at C1 C2
 clear hk h2 hM hM1
 go_enter Tryz.func29,Tryz.ntmps29
 go_wp2_with fail
 refine C1.mono ?_
 rintro e _ ⟨rfl,rfl⟩
 go_wp2_with fail
 refine C2.mono ?_
 rintro e _ ⟨rfl,rfl⟩
 go_wp2_with fail
 go_ret
 exact ⟨rfl,HB.out⟩
def StgP (w W:World) (ps pl:Nat) (ver:Int) (c:Cgf) (u:Value) (c1:Cgf) (h:Chg) (L:List (Nat×Obj)) (e:Ending) (W':World):Prop :=
 (ftsB c1.ten h=false∧e=.returned (.int .i64 90)∧Below W.heap.size W W')∨(ftsB c1.ten h=true∧e=.returned (.int .i64 0)∧∃ g' u' B C,TsB u' (app c1.ten [h]) B C∧Mem w W' (bxS ps pl ver c u (some ⟨g',0,none⟩) false::bxC g' { c1 with ten:=app c1.ten [h] } u'::(B++C++L)))
theorem stageS_any (hv:Vs W) {g:Nat} {c1:Cgf} {u1:Value} (hM:Mem w W (bxS ps pl ver c u (some ⟨g,0,none⟩) false::L)) (hg:bxC g c1 u1∈L) (hl:CLen c) (hl1:CLen c1) {zs:List Tv} (hz:ZV W u1 zs) (hzt:zs.map Prod.fst=c1.ten) (hzn:∀ z∈zs,Nf z.1) (hm:zs.length≤900)
 {y:Hv} (hyl:TLen y.1.t) (hyr:Rws W (yz y)) (hyn:Nf y.1.t) (hys:y.1.name.size≤1000000) :
 Calls Tryz.prog 29 #[.pointer (some ⟨ps,0,none⟩),.agg (yc y).toArray] W (StgP w W ps pl ver c u c1 y.1 L):=by
 obtain ⟨g3,hg3⟩:∃ g,W.heap.size=g:=⟨_,rfl⟩
 obtain ⟨Y,hY⟩:∃ Y,(yc y).toArray=Y:=⟨_,rfl⟩
 obtain ⟨sa,sm,rfl,-,-,-⟩:=hz.parts
 have hM1:Mem w (W.alloc (.cells Y 48)) ((g3,.cells Y 48)::bxS ps pl ver c u (some ⟨g,0,none⟩) false::L):=hM.front _ hg3.symm
 have hbl:Below W.heap.size W (W.alloc (.cells Y 48)):=(Below.refl _ _).alloc (Nat.le_refl _) _
 have C1:=begun_any (bx31 hM1.sub hl) (bx32 hM1.sub hl)
 have C2:=failed_any 0 (W.alloc (.cells Y 48))
 have HFT0:Hid (∀ X,Below W.heap.size W X→Calls Tryz.prog 54 #[.agg (yc y).toArray,.slice sa zs.length sm] X fun e V=>e=.returned (.bool (ftsB c1.ten y.1))∧Below X.heap.size X V):=fun X hX=>by
  rw [←hzt];exact fits_any16 (hv.below hX) (hz.at_ hX) hzn (by omega) hyl (Rws.at_ hyr hX) hys
 have HAP:Hid (∀ X ga,Below W.heap.size W X→X.heap[ga]? = some (.cells (yc y).toArray 48)→Calls Tryz.prog 55 #[.slice sa zs.length sm,.slice (some ⟨ga,0,none⟩) 1 1] X fun e V=>∃ r,e=.returned r∧∃ B C,TsB r (app c1.ten [y.1]) B C∧Mem X V (B++C)):=fun X ga hX hga=>by
  have:=apply_own (hz.at_ hX) (one_chg hga hyl (Rws.at_ hyr hX)) hzn (by intro y' hy';rw [List.mem_singleton] at hy';subst hy';exact ⟨hyn,hys⟩) (by omega) (by simp)
  rw [hzt] at this;exact this
 have HBS:Hid (∀ V,(Instr.buildSlice 109 1 #[(0,.agg Y)]).run Tryz.prog V=.ok (.slice (some ⟨V.heap.size,0,none⟩) 1 1) (V.alloc (.cells Y 48))):=fun V=>by rw [←hY];exact bslC y.1 hyl _ _ _ V
 have i35:(Tryz.prog.info? 48).map (·.size)=some (yc y).length:=by rw [yc_len hyl];kernel_rfl
 have j35:(Tryz.prog.info? 48).map (·.size)=some Y.size:=by rw [←hY,List.size_toArray,yc_len hyl];kernel_rfl
 have HS0:Hid (∀ X,Below (W.alloc (.cells Y 48)).heap.size (W.alloc (.cells Y 48)) X→Mem w X ((g3,.cells Y 48)::bxS ps pl ver c u (some ⟨g,0,none⟩) false::L)∧X.rangeAt g3 0 (yc y)∧X.cell? ⟨ps,31,none⟩=some (.pointer (some ⟨g,0,none⟩))∧X.cell? ⟨g,28,none⟩=some (.slice sa zs.length sm)∧X.heap[g]? = some (.cells (cc c1 (.slice sa zs.length sm)).toArray 39)∧Below W.heap.size W X):=by
  intro X hX
  have h1:=hM1.after hX
  have h2:=h1.at_ _ (List.mem_cons_of_mem _ (List.mem_cons_of_mem _ hg))
  refine ⟨h1,fun j x hj=>?_,bx31 h1.sub hl,?_,h2,hbl.trans (hX.mono hbl.size)⟩
  ·rw [h1.cell 0 rfl,← hY,List.getElem?_toArray,Nat.zero_add];exact hj
  ·rw [cell_of h2];exact cc_28 hl1 _
 have hz0:((0:Int) != 0)=false:=rfl
 rw [hY]
 obtain ⟨R,hR⟩:∃ R,ftsB c1.ten y.1=R:=⟨_,rfl⟩
 rw [hR] at HFT0
 have HRR:Hid (ftsB c1.ten y.1=R):=hR
 clear hM hM1 hg hz hzn hyr hbl hR hzt hv
 go_enter Tryz.func29,Tryz.ntmps29
 go_wp2_with fail
 refine C1.mono ?_
 rintro e _ ⟨rfl,rfl⟩
 go_wp2_with fail
 refine C2.mono ?_
 rintro e _ ⟨rfl,rfl⟩
 go_upto_region 4 with fail
 refine wp_letter (fun V=>V=W.alloc (.cells Y 48)) rfl ?_
 rintro V0 hV0
 rw [←hV0] at HS0
 try simp only [hg3]
 have HS:Hid (∀ X,Below V0.heap.size V0 X→X.rangeAt g3 0 (yc y)∧X.cell? ⟨ps,31,none⟩=some (.pointer (some ⟨g,0,none⟩))∧X.cell? ⟨g,28,none⟩=some (.slice sa zs.length sm)):=fun X hX=>⟨(HS0.out X hX).2.1,(HS0.out X hX).2.2.1,(HS0.out X hX).2.2.2.1⟩
 have HFT:Hid (∀ X,Below V0.heap.size V0 X→Calls Tryz.prog 54 #[.agg Y,.slice sa zs.length sm] X fun e V=>e=.returned (.bool R)∧Below X.heap.size X V):=fun X hX=>by rw [←hY];exact HFT0.out X (HS0.out X hX).2.2.2.2.2
 clear hV0 HFT0 C1 C2
 refine wp_region_held_drew (S:=fun X=>X.rangeAt g3 0 (yc y)∧X.cell? ⟨ps,31,none⟩=some (.pointer (some ⟨g,0,none⟩))∧X.cell? ⟨g,28,none⟩=some (.slice sa zs.length sm)) (by kernel_rfl) (HS.out _ (Below.refl _ _).drew) (fun hHeld=>?_)
 refine tkq 0 rfl (v:=_) (yieldsIf_load_mid (by rfl) _ _ rfl _ _ rfl _ _ ?qs0 Tryz.underlying48 rfl i35) ?_
 case qs0 =>
  intro w hSw
  (try dsimp only at hSw)
  go_split_ands
  assumption
 try simp only [sqa,sqb,sqc,Act.put,sqd,sqe,sqf]
 refine tkq 1 rfl (v:=?_) (Or.inl ⟨by rfl,?qy1⟩) ?_
 case qy1=>intro w hSw;(try dsimp only at hSw);go_simp;all_goals with_reducible rfl
 try simp only [sqa,sqb,sqc,Act.put,sqd,sqe,sqf]
 refine tkq 2 rfl (v:=?_) (Or.inl ⟨by rfl,?qy2⟩) ?_
 case qy2=>intro w hSw;(try dsimp only at hSw);go_simp;all_goals with_reducible rfl
 try simp only [sqa,sqb,sqc,Act.put,sqd,sqe,sqf]
 refine tkq 3 rfl (v:=?_) (Or.inl ⟨by rfl,?qy3⟩) ?_
 case qy3=>intro w hSw;(try dsimp only at hSw);go_simp;all_goals with_reducible rfl
 try simp only [sqa,sqb,sqc,Act.put,sqd,sqe,sqf]
 refine tkq 4 rfl (v:=?_) (Or.inl ⟨by rfl,?qy4⟩) ?_
 case qy4=>intro w hSw;(try dsimp only at hSw);go_simp;all_goals with_reducible rfl
 try simp only [sqa,sqb,sqc,Act.put,sqd,sqe,sqf]
 refine tkq 5 rfl (v:=?_) (Or.inl ⟨by rfl,?qy5⟩) ?_
 case qy5=>intro w hSw;(try dsimp only at hSw);go_simp;all_goals with_reducible rfl
 try simp only [sqa,sqb,sqc,Act.put,sqd,sqe,sqf]
 refine tkq 6 rfl (v:=?_) (Or.inl ⟨by rfl,?qy6⟩) ?_
 case qy6=>intro w hSw;(try dsimp only at hSw);go_simp;all_goals with_reducible rfl
 try simp only [sqa,sqb,sqc,Act.put,sqd,sqe,sqf]
 refine tkq 7 rfl (v:=?_) (Or.inl ⟨by rfl,?qy7⟩) ?_
 case qy7=>intro w hSw;(try dsimp only at hSw);go_simp;all_goals with_reducible rfl
 try simp only [sqa,sqb,sqc,Act.put,sqd,sqe,sqf]
 refine wpAnyH_ready (rs:=[8]) (by kernel_rfl) (by simp) ?_
 refine AllReadyH.cons rfl (fun K hK=>?_) AllReadyH.nil
 go_simp
 with_reducible refine (HFT.out _ (Below.refl _ _).drew).mono ?_
 rintro e V2 ⟨rfl,hb2⟩
 try go_wp2_with fail
 refine hK.out _ _ (HS.out _ (below_dr hb2)) (fun hHeld=>?_)
 clear hK K
 try simp only [sqa,sqb,sqc,Act.put,sqd,sqe,sqf]
 refine tkq 9 rfl (v:=?_) (Or.inl ⟨by rfl,?qy9⟩) ?_
 case qy9=>intro w hSw;(try dsimp only at hSw);go_simp;all_goals with_reducible rfl
 try simp only [sqa,sqb,sqc,Act.put,sqd,sqe,sqf]
 refine wpAnyH_done (by kernel_rfl) ?_ _
 have hb3:Below V0.heap.size V0 V2:=below_dr hb2
 have HB3:Hid (Below V0.heap.size V0 V2):=hb3
 clear HS HFT hb2 hb3
 cases R
 ·go_wp2_with fail
  go_ret
  exact Or.inl ⟨HRR.out,rfl,(HS0.out _ HB3.out).2.2.2.2.2⟩
 ·obtain ⟨hM2,-,k31,-,kg,kb⟩:=HS0.out _ HB3.out
  obtain ⟨A,hA⟩:∃ A,(cc c1 (.slice sa zs.length sm)).toArray=A:=⟨_,rfl⟩
  have hsz:A.size=29:=by rw [←hA,List.size_toArray];exact cc_len hl1 _
  have hone:A.all (·.oneCell')=true:=by rw [←hA];exact cc_one c1 rfl
  have i29:(Tryz.prog.info? 39).map (·.size)=some A.size:=by rw [hsz];kernel_rfl
  have z29:(cz:Array Value).size=A.size:=by rw [hsz];rfl
  rw [hA] at kg
  obtain ⟨g6,hg6⟩:∃ g,V2.heap.size=g:=⟨_,rfl⟩
  have hk6:(V2.alloc (.cells cz 39)).heap[g6]? = some (.cells cz 39):=by rw [←hg6];exact heap_alloc_new _ _
  have HM3:Hid (Mem w ((V2.alloc (.cells cz 39)).setRow g6 A) ((g6,.cells A 39)::(g3,.cells Y 48)::bxS ps pl ver c u (some ⟨g,0,none⟩) false::L)∧Below W.heap.size W ((V2.alloc (.cells cz 39)).setRow g6 A)):=by
   rw [←hg6,World.setRow_alloc_new];exact ⟨hM2.front _ rfl,kb.alloc kb.size _⟩
  clear HS0 HB3 hM2 kb
  go_upto_region 7 with (first | (refine wpList_load_row rfl 39 (.tmp 27) (by with_reducible rfl) g (by first | rfl | simp [Act.eval]) 39 A (0,0) _ kg Tryz.underlying39 rfl i29 ?_) | (refine wpList_store_row rfl 39 (.tmp 6) (.tmp 28) (by with_reducible rfl) g6 A (by simp [Act.eval];try exact hg6) (by first | rfl | simp [Act.eval]) 39 cz hk6 i29 z29 hone ?_) | fail)
  refine wp_letter (fun X=>Mem w X ((g6,.cells A 39)::(g3,.cells Y 48)::bxS ps pl ver c u (some ⟨g,0,none⟩) false::L)∧Below W.heap.size W X) (by exact HM3.out) ?_
  rintro V3 ⟨hM3,hb3⟩
  try simp only [hg6]
  clear HM3 hk6 hg6 k31 kg
  have c28:V3.cell? ⟨g6,28,none⟩=some (.slice sa zs.length sm):=by rw [hM3.cell 0 rfl,← hA];exact cc_28 hl1 _
  have k3:=hM3.get 1 rfl
  have hbs:=HBS.out V3
  have hb4:Below W.heap.size W (V3.alloc (.cells Y 48)):=hb3.alloc hb3.size _
  have CA:=HAP.out (V3.alloc (.cells Y 48)) V3.heap.size hb4 (by rw [hY];exact heap_alloc_new _ _)
  have HM4:Hid (Mem w (V3.alloc (.cells Y 48)) ((g6,.cells A 39)::(g3,.cells Y 48)::bxS ps pl ver c u (some ⟨g,0,none⟩) false::L)):=hM3.after ((Below.refl _ _).alloc (Nat.le_refl _) _)
  clear hM3 hb3 hb4 HAP HBS
  go_wp2_with (first | (refine wpList_load_row rfl 48 (.tmp 3) (by with_reducible rfl) g3 (by first | rfl | simp [Act.eval]) 48 Y (0,0) _ k3 Tryz.underlying48 rfl j35 ?_) | (refine wpList_bsl rfl 109 1 #[(0,.tmp 31)] (by with_reducible rfl) hbs (by simp [Act.eval,Act.put]) ?_) | fail)
  refine CA.mono ?_
  rintro e V5 ⟨r,rfl,B,C,hT,hM5⟩
  have hM6:=HM4.out.more hM5
  have hM7:Mem w V5 ((g6,.cells A 39)::bxS ps pl ver c u (some ⟨g,0,none⟩) false::(B++C++L)):=Mem.sub (p:=(g3,.cells Y 48)) (hM6.perm (by classical rw [List.perm_iff_count];intro z;simp only [List.count_append,List.count_cons];omega))
  obtain ⟨ra,rn,rm,rfl⟩:∃ a n m,r=.slice a n m:=by
   obtain ⟨xs,-,k,-⟩:=hT
   exact owb_slice k
  have f28:=hM7.free 0 rfl 28
  have d28:V5.cell? ⟨g6,28,none⟩=some (.slice sa zs.length sm):=by rw [hM7.cell 0 rfl,← hA];exact cc_28 hl1 _
  have hM8:=hM7.set 0 rfl 28 (.slice ra rn rm)
  simp only [List.set_cons_zero] at hM8
  rw [←hA,cc_set28 hl1,show cc c1 (.slice ra rn rm)=cc { c1 with ten:=app c1.ten [y.1] } (.slice ra rn rm) from rfl] at hM8
  have HM8:Hid (Mem w (V5.setCell ⟨g6,28,none⟩ (.slice ra rn rm)) (bxC g6 { c1 with ten:=app c1.ten [y.1] } (.slice ra rn rm)::bxS ps pl ver c u (some ⟨g,0,none⟩) false::(B++C++L))):=hM8
  have HT:Hid (TsB (.slice ra rn rm) (app c1.ten [y.1]) B C):=hT
  clear hT hM5 hM6 hM7 hM8 HM4 CA c28 k3 hbs hA hsz hone i29 z29
  go_upto_region 8 with fail
  refine wp_letter (fun X=>Mem w X (bxC g6 { c1 with ten:=app c1.ten [y.1] } (.slice ra rn rm)::bxS ps pl ver c u (some ⟨g,0,none⟩) false::(B++C++L))) (by exact HM8.out) ?_
  intro V6 hM
  clear HM8 f28 d28
  have k0:=hM.get 0 rfl
  obtain ⟨A2,hA2⟩:∃ A2,(cc { c1 with ten:=app c1.ten [y.1] } (.slice ra rn rm)).toArray=A2:=⟨_,rfl⟩
  have hs2:A2.size=29:=by rw [←hA2,List.size_toArray];exact cc_len ⟨hl1.mac,hl1.omac,hl1.nmac,hl1.key⟩ _
  have i29:(Tryz.prog.info? 39).map (·.size)=some A2.size:=by rw [hs2];kernel_rfl
  have C3:=stage_any (cl:=A2) hM.sub (xA_size hl) (xA_31 hl)
  simp only [xA_set31 hl] at C3
  rw [hA2] at k0
  have HA2:Hid ((cc { c1 with ten:=app c1.ten [y.1] } (.slice ra rn rm)).toArray=A2):=hA2
  clear hA2 hM
  go_wp2_with (refine wpList_load_row rfl 39 (.tmp 6) (by with_reducible rfl) g6 (by first | rfl | simp [Act.eval]) 39 A2 (0,0) _ k0 Tryz.underlying39 rfl i29 ?_)
  refine C3.mono ?_
  rintro e W' ⟨g',rfl,hM⟩
  go_wp2_with fail
  go_ret
  exact Or.inr ⟨HRR.out,rfl,g',_,B,C,HT.out,by rw [bxC,HA2.out];exact hM⟩
end
section
variable {w W:World} {ps pl:Nat} {ver:Int} {c:Cgf} {u:Value} {sp:Option Addr} {dn:Bool} {L:List (Nat×Obj)}
theorem staged_ok {g1:Nat} {c1:Cgf} {u1:Value} (hM:Mem w W (bxS ps pl ver c u (some ⟨g1,0,none⟩) false::L)) (hg1:bxC g1 c1 u1∈L) (hl:CLen c) (hl1:CLen c1) {zs:List Tv} (hz:ZV W u1 zs) (hf:∀ z∈zs,TFew z.1) (hm:zs.length≤1000) :
 Calls Tryz.prog 32 #[.pointer (some ⟨ps,0,none⟩)] W fun e V=>∃ v,e=.returned (.tuple #[v,.int .i64 0])∧Cpd W c1 (zs.map Prod.fst) v V:=by
 obtain ⟨g,hg⟩:∃ g,W.heap.size=g:=⟨_,rfl⟩
 have hM0:Mem W (W.alloc (.cells cz 39)) [(g,.cells cz 39)]:=(Mem.nil W).push1 hg.symm
 have hMa:=hM.after hM0.below
 obtain ⟨A1,hA1⟩:∃ A,(cc c1 u1).toArray=A:=⟨_,rfl⟩
 have hs1:A1.size=29:=by rw [←hA1,List.size_toArray];exact cc_len hl1 _
 have i29:(Tryz.prog.info? 39).map (·.size)=some A1.size:=by rw [hs1];kernel_rfl
 have HL:Hid (Mem W (W.alloc (.cells cz 39)) [(g,.cells cz 39)]∧(Calls Tryz.prog 53 #[.pointer (some ⟨ps,0,none⟩)] (W.alloc (.cells cz 39)) fun e W'=>e=.returned (.int .i64 0)∧(W.alloc (.cells cz 39))=W')∧(W.alloc (.cells cz 39)).cell? ⟨ps,31,none⟩=some (.pointer (some ⟨g1,0,none⟩))∧(W.alloc (.cells cz 39)).heap[g1]? = some (.cells A1 39) ∧
  Calls Tryz.prog 51 #[.agg A1] (W.alloc (.cells cz 39)) fun e V=>∃ u',e=.returned (.agg (cc c1 u').toArray)∧∃ B C,TsB u' (zs.map Prod.fst) B C∧Mem (W.alloc (.cells cz 39)) V (B++C)):=by
  refine ⟨hM0,begun_any (bx31 hMa hl) (bx32 hMa hl),bx31 hMa hl,?_,?_⟩
  ·rw [←hA1];exact hMa.at_ _ (List.mem_cons_of_mem _ hg1)
  ·rw [←hA1];exact cop_any hl1 (hz.at_ hM0.below) hf hm
 have hz0:((0:Int) != 0)=false:=rfl
 clear hM hM0 hMa hz hf hg1 hA1
 go_enter Tryz.func32,Tryz.ntmps32
 go_upto_region 1 with fail
 refine wp_letter (fun X=>Mem W X [(g,.cells cz 39)]∧(Calls Tryz.prog 53 #[.pointer (some ⟨ps,0,none⟩)] X fun e W'=>e=.returned (.int .i64 0)∧X=W')∧X.cell? ⟨ps,31,none⟩=some (.pointer (some ⟨g1,0,none⟩))∧X.heap[g1]? = some (.cells A1 39) ∧
  Calls Tryz.prog 51 #[.agg A1] X fun e V=>∃ u',e=.returned (.agg (cc c1 u').toArray)∧∃ B C,TsB u' (zs.map Prod.fst) B C∧Mem X V (B++C)) (by exact HL.out) ?_
 rintro V0 ⟨hM0,C1,c31,kg,C⟩
 try simp only [hg]
 clear HL hg
 have C2:=failed_any 0 V0
 have HM0:Hid (Mem W V0 [(g,.cells cz 39)]):=hM0
 clear hM0
 go_wp2_with fail
 refine C1.mono ?_
 rintro e _ ⟨rfl,rfl⟩
 go_wp2_with fail
 refine C2.mono ?_
 rintro e _ ⟨rfl,rfl⟩
 go_wp2_with (refine wpList_load_row rfl 39 (.tmp 16) (by with_reducible rfl) g1 (by first | rfl | simp [Act.eval]) 39 A1 (0,0) _ kg Tryz.underlying39 rfl i29 ?_)
 refine C.mono ?_
 rintro e V ⟨u',rfl,B,C',hT,hM⟩
 have hM1:=HM0.out.more hM
 have hM2:Mem W V ((g,.cells cz 39)::(B++C')):=hM1.perm List.perm_append_comm
 have k2:=hM2.get 0 rfl
 obtain ⟨A,hA⟩:∃ A,(cc c1 u').toArray=A:=⟨_,rfl⟩
 have hsz:A.size=29:=by rw [←hA,List.size_toArray];exact cc_len hl1 _
 have hone:A.all (·.oneCell')=true:=by rw [←hA];exact cc_one c1 (tsb_one hT)
 have j29:(Tryz.prog.info? 39).map (·.size)=some A.size:=by rw [hsz];kernel_rfl
 have z29:(cz:Array Value).size=A.size:=by rw [hsz];rfl
 have hM3:=hM2.wrote 0 rfl (wrote_setRow V g _ A _ k2)
 have HQ:Hid ((V.setRow g A).heap[g]? = some (.cells A 39)∧Cpd W c1 (zs.map Prod.fst) (.agg A) (V.setRow g A)):=⟨hM3.get 0 rfl,u',by rw [hA],B,C',hT,hM3.sub⟩
 rw [hA]
 clear hM hM1 hM2 hM3 HM0 C hT hA c31 kg C1 C2
 go_wp2_with (refine wpList_store_row rfl 39 (.tmp 2) (.tmp 18) (by with_reducible rfl) g A (by first | rfl | simp [Act.eval]) (by first | rfl | simp [Act.eval]) 39 cz k2 j29 z29 hone ?_)
 refine bodyPost_ret (v:=.tuple #[.agg A,.int .i64 0]) ?_ rfl ⟨_,rfl,HQ.out.2⟩
 exact results_two' (p:=2) (q:=3) (ty:=39) rfl _ _ g _ rfl (run_loadVar_row _ _ 39 39 _ (0,0) _ HQ.out.1 Tryz.underlying39 rfl j29)
end
end Go.Proofs.YtdigofgjhaakmaaGreatDoor
namespace Go.Proofs.YtdigofgjhaakmaaGreatDoor
open Go.RowKit
open Va
theorem anyH_letter {P:Program} {md:Region.Mode} {ops:Array Oper} {Q:Exit→Act→World→Prop} {S:World→Prop} {fuel:Nat} {listed:Array Bool} {a:Act} {W:World} (R:World→Prop) (h:R W) (k:∀ W',R W'→wpAnyH P md ops Q S fuel listed a W'):wpAnyH P md ops Q S fuel listed a W:=k W h
abbrev tz14:Array Value:=(tc ten0 nilV nilV nilV).toArray
structure PR (W X:World) (gc gi gt ga i:Nat) (c:Cgf) (t:Ten) (ta:Option Addr) (tp:Nat):Prop where
 vs:Vs X
 cb:CBo X gc c
 ci:X.cell? ⟨gi,0,none⟩=some (.int .i64 (i:Int))
 tb:TBo X gt t
 ca:X.cell? ⟨ga,0,none⟩=some (.slice ta i tp)
 ts:TSV X (.slice ta i tp) (c.ten.take i)
 below:Below W.heap.size W X
theorem PR.later {W X Y:World} {gc gi gt ga i:Nat} {c:Cgf} {t:Ten} {ta:Option Addr} {tp:Nat} (h:PR W X gc gi gt ga i c t ta tp) (hb:Below X.heap.size X Y):PR W Y gc gi gt ga i c t ta tp :=
 ⟨h.vs.below hb,h.cb.later hb,cell_later hb h.ci,h.tb.later hb,cell_later hb h.ca,h.ts.at_ hb (Nat.le_refl _),h.below.trans (hb.mono h.below.size)⟩
theorem tbo_of {X:World} {g:Nat} {x:List Value} {t:Ten} (h:X.heap[g]? = some (.cells x.toArray 46)) (hv:TV X (.agg x.toArray) t):TBo X g t:=by
 obtain ⟨tl,pa,sa,qa,pc,sc,qc,e,hx⟩:=hv.tb
 obtain rfl:x=tl:=by simpa using e
 exact ⟨x,pa,sa,qa,pc,sc,qc,h,hx⟩
theorem prules_any {W:World} {v:Value} {c:Cgf} (hv:Vs W) (h:CV W v c) (hl:c.ten.length≤1000000) (hm:∀ t∈c.ten,TSm t) {i:Nat} (hi:i < c.ten.length) :
  Calls Tryz.prog 84 #[v,.int .i64 (i:Int)] W (Rls W (Va.prs c.ip (c.ten.take i) (c.ten.getD i ten0))):=by
 obtain ⟨cl,ta,tp,rfl,hx⟩:=h.tb
 have hmf:=mkf
 obtain ⟨a',c',e,hle,hcb,hp⟩:=hx.ts.parts
 simp only [Value.slice.injEq] at e
 obtain ⟨rfl,-,rfl⟩:=e
 obtain ⟨b,off,x,rfl,hsz,hone,hVV⟩:=hp i hi
 have hi33:(Tryz.prog.info? 46).map (·.size)=some x.length:=by rw [hsz];kernel_rfl
 obtain ⟨gc,hgc⟩:∃ g,W.heap.size=g:=⟨_,rfl⟩
 obtain ⟨gi,hgi⟩:∃ g,gc+1=g:=⟨_,rfl⟩
 have HM0:Hid (Mem W ((W.alloc (.cells cl.toArray 39)).alloc (.cells #[.int .i64 (i:Int)] 3)) [(gi,.cells #[.int .i64 (i:Int)] 3),(gc,.cells cl.toArray 39)]):=by
  rw [←hgi,← hgc];exact two_blocks' W _ _
 have HX:Hid (∀ V,Mem W V [(gi,.cells #[.int .i64 (i:Int)] 3),(gc,.cells cl.toArray 39)]→∀ X,Below V.heap.size V X→X.cell? ⟨gc,28,none⟩=some (.slice (some ⟨b,off,none⟩) c.ten.length tp)∧X.cell? ⟨gi,0,none⟩=some (.int .i64 (i:Int))∧X.rangeAt b (off+i * 33) x):=by
  intro V hV X hX
  have hM:=hV.after hX
  exact ⟨cell_tl (hM.get 1 rfl) hx.ten,hM.cell 0 rfl 0,(hVV X hM.below).1⟩
 have HP:Hid (∀ V,Mem W V [(gi,.cells #[.int .i64 (i:Int)] 3),(gc,.cells cl.toArray 39)]→∀ X gt ga,Mem V X [(ga,.cells #[.slice (some ⟨b,off,none⟩) i tp] 37),(gt,.cells x.toArray 46)]→PR W X gc gi gt ga i c (c.ten.getD i ten0) (some ⟨b,off,none⟩) tp):=by
  intro V hV X gt ga hX
  have hM:=hV.after hX.below
  exact ⟨hv.below hM.below,⟨cl,_,tp,hM.get 1 rfl,hx.later hM.below⟩,hM.cell 0 rfl 0,tbo_of (hX.get 1 rfl) (hVV X hM.below).2,hX.cell 0 rfl 0,(hx.ts.head i (by omega)).at_ hM.below (Nat.le_refl _),hM.below⟩
 have HT:Hid ((c.ten.take i).length=i∧i≤1000000∧(∀ t∈c.ten.take i,TSm t)∧TSm (c.ten.getD i ten0)):=⟨by simp;omega,by omega,fun t ht=>hm t (List.mem_of_mem_take ht),hm _ (by simp [List.getD,List.getElem?_eq_getElem hi])⟩
 have HE:Hid (Va.prs c.ip (c.ten.take i) (c.ten.getD i ten0)=[tchk (c.ten.getD i ten0),ul 90 ((c.ten.take i).length == 0 || lss ((c.ten.take i).getD ((c.ten.take i).length - 1) ten0).name (c.ten.getD i ten0).name),wn 91 ((c.ten.take i).any (fun o=>o.vni == (c.ten.getD i ten0).vni)),wn 92 (ow1 (c.ten.getD i ten0) (fun x=>x == c.ip || (c.ten.take i).any (fun o=>owns o x)))]):=rfl
 have h1:(i:Int) < c.ten.length:=by omega
 have h2:(i:Int)≤tp:=by omega
 have h3:i≤tp:=by omega
 clear hv h hl hm hx hp hVV
 generalize Va.prs c.ip (c.ten.take i) (c.ten.getD i ten0)=ES at *
 generalize c.ten.getD i ten0=t at *
 generalize c.ten.length=N at *
 generalize cl.toArray=A at *
 go_enter Tryz.func84,Tryz.ntmps84
 go_upto_region 1 with fail
 refine wp_letter (fun X=>Mem W X [(gi,.cells #[.int .i64 (i:Int)] 3),(gc,.cells A 39)]) (by exact HM0.out) ?_
 intro V hM
 try simp only [hgc,hgi]
 clear HM0 hgc hgi
 have HS:Hid (∀ X,Below V.heap.size V X→X.cell? ⟨gc,28,none⟩=some (.slice (some ⟨b,off,none⟩) N tp)∧X.cell? ⟨gi,0,none⟩=some (.int .i64 (i:Int))∧X.rangeAt b (off+i * 33) x):=HX.out V hM
 have HP2:Hid (∀ X gt ga,Mem V X [(ga,.cells #[.slice (some ⟨b,off,none⟩) i tp] 37),(gt,.cells x.toArray 46)]→PR W X gc gi gt ga i c t (some ⟨b,off,none⟩) tp):=HP.out V hM
 clear HX HP hM
 go_cut [5,6] from 9 (fun u5 u6 w'=>∃ gt ga:Nat,u5=.pointer (some ⟨gt,0,none⟩)∧u6=.pointer (some ⟨ga,0,none⟩)∧Hid (Mem V w' [(ga,.cells #[.slice (some ⟨b,off,none⟩) i tp] 37),(gt,.cells x.toArray 46)]))
 case first =>
  clear HP2 HT HE
  obtain ⟨gv,hgv'⟩:∃ g,V.heap.size=g:=⟨_,rfl⟩
  have HG:Hid (V.heap.size=gv):=hgv'
  clear hgv'
  refine wp_region_held_drew (S:=fun X=>X.cell? ⟨gc,28,none⟩=some (.slice (some ⟨b,off,none⟩) N tp)∧X.cell? ⟨gi,0,none⟩=some (.int .i64 (i:Int))∧X.rangeAt b (off+i * 33) x) (by kernel_rfl) (HS.out _ (Below.refl _ _).drew) (fun hHeld=>?_)
  refine tkq 0 rfl (v:=?_) (Or.inl ⟨by rfl,?qy0⟩) ?_
  case qy0=>intro w hSw;(try dsimp only at hSw);go_simp;all_goals with_reducible rfl
  try simp only [sqa,sqb,sqc,Act.put,sqd,sqe,sqf]
  refine tkq 1 rfl (v:=?_) (Or.inl ⟨by rfl,?qy1⟩) ?_
  case qy1=>intro w hSw;(try dsimp only at hSw);go_simp;all_goals with_reducible rfl
  try simp only [sqa,sqb,sqc,Act.put,sqd,sqe,sqf]
  refine tkq 2 rfl (v:=?_) (Or.inl ⟨by rfl,?qy2⟩) ?_
  case qy2=>intro w hSw;(try dsimp only at hSw);go_simp;all_goals with_reducible rfl
  try simp only [sqa,sqb,sqc,Act.put,sqd,sqe,sqf]
  refine tkq 3 rfl (v:=?_) (Or.inl ⟨by rfl,?qy3⟩) ?_
  case qy3=>intro w hSw;(try dsimp only at hSw);go_simp;all_goals with_reducible rfl
  try simp only [sqa,sqb,sqc,Act.put,sqd,sqe,sqf]
  refine tkq 4 rfl (v:=_) (yieldsIf_load_mid (by rfl) _ _ rfl _ _ rfl _ _ ?qs4 Tryz.underlying46 rfl hi33) ?_
  case qs4 =>
   intro w hSw
   (try dsimp only at hSw)
   go_split_ands
   assumption
  try simp only [sqa,sqb,sqc,Act.put,sqd,sqe,sqf]
  refine tkq 5 rfl (v:=?_) (Or.inl ⟨by rfl,?qy5⟩) ?_
  case qy5=>intro w hSw;(try dsimp only at hSw);go_simp;all_goals with_reducible rfl
  try simp only [sqa,sqb,sqc,Act.put,sqd,sqe,sqf]
  refine tkq 6 rfl (v:=?_) (Or.inl ⟨by rfl,?qy6⟩) ?_
  case qy6=>intro w hSw;(try dsimp only at hSw);go_simp;all_goals with_reducible rfl
  try simp only [sqa,sqb,sqc,Act.put,sqd,sqe,sqf]
  refine tkq 7 rfl (v:=?_) (Or.inl ⟨by rfl,?qy7⟩) ?_
  case qy7=>intro w hSw;(try dsimp only at hSw);go_simp;all_goals with_reducible rfl
  try simp only [sqa,sqb,sqc,Act.put,sqd,sqe,sqf]
  refine tkq 8 rfl (v:=?_) (Or.inl ⟨by rfl,?qy8⟩) ?_
  case qy8=>intro w hSw;(try dsimp only at hSw);go_simp;all_goals with_reducible rfl
  try simp only [sqa,sqb,sqc,Act.put,sqd,sqe,sqf]
  refine wpAnyH_ready (rs:=[9,10]) (by kernel_rfl) (by simp) ?_
  refine AllReadyH.cons rfl (fun KK hK=>?_) (AllReadyH.cons rfl (fun KK hK=>?_) AllReadyH.nil)
  ·go_simp
   have hA1:Mem V (V.drew.alloc (.cells tz14 46)) [(gv,.cells tz14 46)]:=(Mem.nil V).drew.front _ HG.out.symm
   refine hK.out _ _ (HS.out _ hA1.below) (fun hHeld=>?_)
   clear hK KK
   try simp only [sqa,sqb,sqc,Act.put,sqd,sqe,sqf]
   refine anyH_letter (fun X=>Mem V X [(gv,.cells tz14 46)]) (by exact hA1) ?_
   intro Y1 hY1
   try simp only [HG.out]
   clear hA1
   obtain ⟨gw,hgw⟩:∃ gw,Y1.heap.size=gw:=⟨_,rfl⟩
   have HGW:Hid (Y1.heap.size=gw):=hgw
   clear hgw
   have hA2:Mem V (Y1.alloc (.cells #[.slice none 0 0] 37)) [(gw,.cells #[.slice none 0 0] 37),(gv,.cells tz14 46)]:=hY1.front _ HGW.out.symm
   refine wpAnyH_ready (rs:=[10]) (by kernel_rfl) (by simp) ?_
   refine AllReadyH.cons rfl (fun KK hK=>?_) AllReadyH.nil
   go_simp
   refine hK.out _ _ (HS.out _ hA2.below) (fun hHeld=>?_)
   clear hK KK
   try simp only [sqa,sqb,sqc,Act.put,sqd,sqe,sqf]
   refine anyH_letter (fun X=>Mem V X [(gw,.cells #[.slice none 0 0] 37),(gv,.cells tz14 46)]) (by exact hA2) ?_
   intro Y2 hY2
   try simp only [HGW.out]
   clear hA2 HGW hY1
   have hst:=storeCells_row Y2 gv tz14 x.toArray 46 (hY2.get 1 rfl) (by rw [show x.toArray.size=33 by rw [List.size_toArray];exact hsz];rfl) hone
   have hA3:Mem V (Y2.setRow gv x.toArray) [(gw,.cells #[.slice none 0 0] 37),(gv,.cells x.toArray 46)]:=hY2.wrote 1 rfl (wrote_setRow Y2 gv tz14 _ _ (hY2.get 1 rfl))
   refine wpAnyH_ready (rs:=[11]) (by kernel_rfl) (by simp) ?_
   refine AllReadyH.cons rfl (fun KK hK=>?_) AllReadyH.nil
   go_simp
   refine hK.out _ _ (HS.out _ hA3.below) (fun hHeld=>?_)
   clear hK KK
   try simp only [sqa,sqb,sqc,Act.put,sqd,sqe,sqf]
   refine anyH_letter (fun X=>Mem V X [(gw,.cells #[.slice none 0 0] 37),(gv,.cells x.toArray 46)]) (by exact hA3) ?_
   intro Y3 hY3
   clear hA3 hst hY2
   have y1:Y3.cell? ⟨gw,0,none⟩=some (.slice none 0 0):=hY3.cell 0 rfl 0
   have y2:Y3.frozen? ⟨gw,0,none⟩=false:=hY3.free 0 rfl 0
   have hA4:Mem V (Y3.setCell ⟨gw,0,none⟩ (.slice (some ⟨b,off,none⟩) i tp)) [(gw,.cells #[.slice (some ⟨b,off,none⟩) i tp] 37),(gv,.cells x.toArray 46)]:=hY3.set 0 rfl 0 (.slice (some ⟨b,off,none⟩) i tp)
   refine wpAnyH_ready (rs:=[12]) (by kernel_rfl) (by simp) ?_
   refine AllReadyH.cons rfl (fun KK hK=>?_) AllReadyH.nil
   go_simp
   refine hK.out _ _ (HS.out _ hA4.below) (fun hHeld=>?_)
   clear hK KK
   try simp only [sqa,sqb,sqc,Act.put,sqd,sqe,sqf]
   refine wpAnyH_done (by kernel_rfl) ?_ _
   have HF:Hid (Mem V (Y3.setCell ⟨gw,0,none⟩ (.slice (some ⟨b,off,none⟩) i tp)) [(gw,.cells #[.slice (some ⟨b,off,none⟩) i tp] 37),(gv,.cells x.toArray 46)]):=hA4
   clear hA4 hY3 y1 y2 HS
   go_wp2_with fail
   go_meet
   case rel=>exact ⟨gv,gw,rfl,rfl,HF⟩
  ·go_simp
   have hA1:Mem V (V.drew.alloc (.cells #[.slice none 0 0] 37)) [(gv,.cells #[.slice none 0 0] 37)]:=(Mem.nil V).drew.front _ HG.out.symm
   refine hK.out _ _ (HS.out _ hA1.below) (fun hHeld=>?_)
   clear hK KK
   try simp only [sqa,sqb,sqc,Act.put,sqd,sqe,sqf]
   refine anyH_letter (fun X=>Mem V X [(gv,.cells #[.slice none 0 0] 37)]) (by exact hA1) ?_
   intro Y1 hY1
   try simp only [HG.out]
   clear hA1
   obtain ⟨gw,hgw⟩:∃ gw,Y1.heap.size=gw:=⟨_,rfl⟩
   have HGW:Hid (Y1.heap.size=gw):=hgw
   clear hgw
   have hA2:Mem V (Y1.alloc (.cells tz14 46)) [(gw,.cells tz14 46),(gv,.cells #[.slice none 0 0] 37)]:=hY1.front _ HGW.out.symm
   refine wpAnyH_ready (rs:=[9]) (by kernel_rfl) (by simp) ?_
   refine AllReadyH.cons rfl (fun KK hK=>?_) AllReadyH.nil
   go_simp
   refine hK.out _ _ (HS.out _ hA2.below) (fun hHeld=>?_)
   clear hK KK
   try simp only [sqa,sqb,sqc,Act.put,sqd,sqe,sqf]
   refine anyH_letter (fun X=>Mem V X [(gw,.cells tz14 46),(gv,.cells #[.slice none 0 0] 37)]) (by exact hA2) ?_
   intro Y2 hY2
   try simp only [HGW.out]
   clear hA2 HGW hY1
   have hst:=storeCells_row Y2 gw tz14 x.toArray 46 (hY2.get 0 rfl) (by rw [show x.toArray.size=33 by rw [List.size_toArray];exact hsz];rfl) hone
   have hA3:Mem V (Y2.setRow gw x.toArray) [(gw,.cells x.toArray 46),(gv,.cells #[.slice none 0 0] 37)]:=hY2.wrote 0 rfl (wrote_setRow Y2 gw tz14 _ _ (hY2.get 0 rfl))
   refine wpAnyH_ready (rs:=[11]) (by kernel_rfl) (by simp) ?_
   refine AllReadyH.cons rfl (fun KK hK=>?_) AllReadyH.nil
   go_simp
   refine hK.out _ _ (HS.out _ hA3.below) (fun hHeld=>?_)
   clear hK KK
   try simp only [sqa,sqb,sqc,Act.put,sqd,sqe,sqf]
   refine anyH_letter (fun X=>Mem V X [(gw,.cells x.toArray 46),(gv,.cells #[.slice none 0 0] 37)]) (by exact hA3) ?_
   intro Y3 hY3
   clear hA3 hst hY2
   have y1:Y3.cell? ⟨gv,0,none⟩=some (.slice none 0 0):=hY3.cell 1 rfl 0
   have y2:Y3.frozen? ⟨gv,0,none⟩=false:=hY3.free 1 rfl 0
   have hA4:Mem V (Y3.setCell ⟨gv,0,none⟩ (.slice (some ⟨b,off,none⟩) i tp)) [(gw,.cells x.toArray 46),(gv,.cells #[.slice (some ⟨b,off,none⟩) i tp] 37)]:=hY3.set 1 rfl 0 (.slice (some ⟨b,off,none⟩) i tp)
   refine wpAnyH_ready (rs:=[12]) (by kernel_rfl) (by simp) ?_
   refine AllReadyH.cons rfl (fun KK hK=>?_) AllReadyH.nil
   go_simp
   refine hK.out _ _ (HS.out _ hA4.below) (fun hHeld=>?_)
   clear hK KK
   try simp only [sqa,sqb,sqc,Act.put,sqd,sqe,sqf]
   refine wpAnyH_done (by kernel_rfl) ?_ _
   have HF:Hid (Mem V (Y3.setCell ⟨gv,0,none⟩ (.slice (some ⟨b,off,none⟩) i tp)) [(gv,.cells #[.slice (some ⟨b,off,none⟩) i tp] 37),(gw,.cells x.toArray 46)]):=hA4.perm (List.Perm.swap _ _ _)
   clear hA4 hY3 y1 y2 HS
   go_wp2_with fail
   go_meet
   case rel=>exact ⟨gw,gv,rfl,rfl,HF⟩
 case rest =>
  obtain ⟨gt,ga,rfl,rfl,HM⟩:=hcut
  have H0:Hid (PR W wc gc gi gt ga i c t (some ⟨b,off,none⟩) tp):=HP2.out wc gt ga HM.out
  clear HP2 HM HS hi33 hsz hone hcb hle
  obtain ⟨gs,hgs⟩:∃ g,wc.heap.size=g:=⟨_,rfl⟩
  have hA:Mem wc (wc.alloc (.cells #[.func (.func 109) #[] #[.pointer (some ⟨gt,0,none⟩)]] 83)) [(gs,.cells #[.func (.func 109) #[] #[.pointer (some ⟨gt,0,none⟩)]] 83)]:=(Mem.nil wc).push1 hgs.symm
  go_upto_region 3 with fail
  refine wp_letter (fun X=>Mem wc X [(gs,.cells #[.func (.func 109) #[] #[.pointer (some ⟨gt,0,none⟩)]] 83)]) (by exact hA) ?_
  intro V1 hM1
  try simp only [hgs]
  clear hA hgs
  have H1:Hid (PR W V1 gc gi gt ga i c t (some ⟨b,off,none⟩) tp∧V1.cell? ⟨gs,0,none⟩=some (.func (.func 109) #[] #[.pointer (some ⟨gt,0,none⟩)])):=⟨H0.out.later hM1.below,hM1.cell 0 rfl 0⟩
  clear H0 hM1
  obtain ⟨gk,hgk⟩:∃ g,V1.heap.size=g:=⟨_,rfl⟩
  have hA:Mem V1 (V1.alloc (.cells #[.func (.func 110) #[] #[.pointer (some ⟨gc,0,none⟩),.pointer (some ⟨ga,0,none⟩)]] 176)) [(gk,.cells #[.func (.func 110) #[] #[.pointer (some ⟨gc,0,none⟩),.pointer (some ⟨ga,0,none⟩)]] 176)]:=(Mem.nil V1).push1 hgk.symm
  go_upto_region 4 with fail
  refine wp_letter (fun X=>Mem V1 X [(gk,.cells #[.func (.func 110) #[] #[.pointer (some ⟨gc,0,none⟩),.pointer (some ⟨ga,0,none⟩)]] 176)]) (by exact hA) ?_
  intro V2 hM2
  try simp only [hgk]
  clear hA hgk
  have H2:Hid (PR W V2 gc gi gt ga i c t (some ⟨b,off,none⟩) tp∧V2.cell? ⟨gs,0,none⟩=some (.func (.func 109) #[] #[.pointer (some ⟨gt,0,none⟩)])∧V2.cell? ⟨gk,0,none⟩=some (.func (.func 110) #[] #[.pointer (some ⟨gc,0,none⟩),.pointer (some ⟨ga,0,none⟩)])):=⟨H1.out.1.later hM2.below,cell_later hM2.below H1.out.2,hM2.cell 0 rfl 0⟩
  clear H1 hM2
  go_wp2_with fail
  refine (unless_any (pq4 H2.out.1.tb H2.out.1.ci HT.out.1 HT.out.2.1 H2.out.1.ca H2.out.1.ts) 90).mono ?_
  rintro _ X1 ⟨k1,cs1,rfl,hr,hb⟩
  have H3:Hid (PR W X1 gc gi gt ga i c t (some ⟨b,off,none⟩) tp∧X1.cell? ⟨gs,0,none⟩=some (.func (.func 109) #[] #[.pointer (some ⟨gt,0,none⟩)])∧X1.cell? ⟨gk,0,none⟩=some (.func (.func 110) #[] #[.pointer (some ⟨gc,0,none⟩),.pointer (some ⟨ga,0,none⟩)])∧RlsL X1 _ _):=⟨H2.out.1.later hb,cell_later hb H2.out.2.1,cell_later hb H2.out.2.2,.cons ((pr3 H2.out.1.vs H2.out.1.tb HT.out.2.2.2).later hb) (.cons hr .nil)⟩
  clear H2 hr hb
  go_wp2_with fail
  refine (when_any (pq5 (pp1 H3.out.1.tb) H3.out.2.1 H3.out.1.ca H3.out.1.ts (by rw [HT.out.1];exact HT.out.2.1) HT.out.2.2.1) 91).mono ?_
  rintro _ X2 ⟨k2,cs2,rfl,hr,hb⟩
  have H4:Hid (PR W X2 gc gi gt ga i c t (some ⟨b,off,none⟩) tp∧X2.cell? ⟨gk,0,none⟩=some (.func (.func 110) #[] #[.pointer (some ⟨gc,0,none⟩),.pointer (some ⟨ga,0,none⟩)])∧RlsL X2 _ _):=⟨H3.out.1.later hb,cell_later hb H3.out.2.2.1,(H3.out.2.2.2.later hb).snoc hr⟩
  clear H3 hr hb
  go_wp2_with fail
  refine (when_any (pq6 H4.out.1.tb HT.out.2.2.2 (pp2 H4.out.1.cb H4.out.1.ca H4.out.1.ts (by rw [HT.out.1];exact HT.out.2.1) HT.out.2.2.1) H4.out.2.1) 92).mono ?_
  rintro _ X3 ⟨k3,cs3,rfl,hr,hb⟩
  have H5:Hid (Below W.heap.size W X3∧RlsL X3 _ _):=⟨(H4.out.1.later hb).below,(H4.out.2.2.later hb).snoc hr⟩
  clear H4 hr hb
  obtain ⟨gl,hgl⟩:∃ gl,X3.heap.size=gl:=⟨_,rfl⟩
  have hF:=rls_of (cs:=#[.func (.func 114) #[] #[.pointer (some ⟨gt,0,none⟩)],.func (.func k1) #[] cs1,.func (.func k2) #[] cs2,.func (.func k3) #[] cs3]) H5.out.2 H5.out.1 hgl rfl
  have HF:Hid ((∀ i,i < ES.length→∃ k c,(X3.alloc (.cells #[.func (.func 114) #[] #[.pointer (some ⟨gt,0,none⟩)],.func (.func k1) #[] cs1,.func (.func k2) #[] cs2,.func (.func k3) #[] cs3] 173)).cell? ⟨gl,i,none⟩=some (.func (.func k) #[] c)∧Rul (X3.alloc (.cells #[.func (.func 114) #[] #[.pointer (some ⟨gt,0,none⟩)],.func (.func k1) #[] cs1,.func (.func k2) #[] cs2,.func (.func k3) #[] cs3] 173)) k c (ES.getD i 0))∧Below W.heap.size W (X3.alloc (.cells #[.func (.func 114) #[] #[.pointer (some ⟨gt,0,none⟩)],.func (.func k1) #[] cs1,.func (.func k2) #[] cs2,.func (.func k3) #[] cs3] 173))∧ES.length=4):=by
   rw [HE.out];exact ⟨hF.1,hF.2,rfl⟩
  clear H5 HE hF HT
  go_wp2_with fail
  go_ret
  refine ⟨gl,?_,HF.out.1,HF.out.2.1⟩
  rw [HF.out.2.2,← hgl]
  rfl
end Go.Proofs.YtdigofgjhaakmaaGreatDoor
namespace Go.Proofs.YtdigofgjhaakmaaGreatDoor
open Go.RowKit
open La
def TAt (g:Nat) (pre post:List Value) (T:TypeId) (t:Ten) (L:List (Nat×Obj)):Prop:=TLen t∧∃ p s q B1 B2 B3,OwB 33 1 p t.pool.length (ux t.pool).flatten B1∧OwB 122 2 s t.stat.length (px t.stat).flatten B2∧OwB 122 2 q t.twi.length (px t.twi).flatten B3 ∧
 L=(g,.cells (pre++(tc t p s q++post)).toArray T (0,0))::(B1++(B2++B3))
theorem tat_set {g:Nat} {pre post:List Value} {T:TypeId} {t t':Ten} {L:List (Nat×Obj)} (h:TAt g pre post T t L) (o:Nat) (ho:o < 33) (v:Value) (hset:∀ p s q,(tc t p s q).set o v=tc t' p s q) (hl:TLen t') (h1:t'.pool=t.pool) (h2:t'.stat=t.stat) (h3:t'.twi=t.twi) :
  ∃ A R,L=(g,.cells A T (0,0))::R∧pre.length+o < A.size∧TAt g pre post T t' ((g,.cells (A.setIfInBounds (pre.length+o) v) T (0,0))::R):=by
 obtain ⟨hlen,p,s,q,B1,B2,B3,k1,k2,k3,rfl⟩:=h
 refine ⟨_,_,rfl,?_,hl,p,s,q,B1,B2,B3,by rw [h1];exact k1,by rw [h2];exact k2,by rw [h3];exact k3,?_⟩
 ·rw [List.size_toArray,List.length_append,List.length_append,tc_len hlen];omega
 ·rw [set_mid _ _ _ o _ (by rw [tc_len hlen];exact ho),hset]
theorem tat_put {g:Nat} {pre post:List Value} {T:TypeId} {t t':Ten} {L:List (Nat×Obj)} (h:TAt g pre post T t L) (o:Nat) (ho:o < 33) (v:Value) (e:∀ p s q n vn a b c d f g x y vt a1 b1 c1 d1 f1 g1 a2 b2 c2 d2 f2 g2 po lo hi fi st tw se qu ra bu,
  t=⟨n,vn,[a,b,c,d,f,g,x,y],vt,[a1,b1,c1,d1,f1,g1],[a2,b2,c2,d2,f2,g2],po,lo,hi,fi,st,tw,se,qu,ra,bu⟩→(tc t p s q).set o v=tc t' p s q) (hk:t'.key=t.key) (hv:t'.vmac=t.vmac) (hh:t'.host=t.host) (h1:t'.pool=t.pool) (h2:t'.stat=t.stat) (h3:t'.twi=t.twi) :
  ∃ A R,L=(g,.cells A T (0,0))::R∧pre.length+o < A.size∧TAt g pre post T t' ((g,.cells (A.setIfInBounds (pre.length+o) v) T (0,0))::R) :=
 tat_set h o ho v (fun p s q=>tset h.1 (e p s q)) ⟨by rw [hk];exact h.1.key,by rw [hv];exact h.1.vmac,by rw [hh];exact h.1.host⟩ h1 h2 h3
section
variable {g:Nat} {pre post:List Value} {T:TypeId} {t:Ten} {L:List (Nat×Obj)}
theorem tat_lo (h:TAt g pre post T t L) (x:Int):∃ A R,L=(g,.cells A T (0,0))::R∧pre.length+24 < A.size∧TAt g pre post T { t with lo:=x } ((g,.cells (A.setIfInBounds (pre.length+24) (.int .u16 x)) T (0,0))::R) :=
 tat_put h 24 (by omega) _ (by rintro p s q n vn a b c d f g x y vt a1 b1 c1 d1 f1 g1 a2 b2 c2 d2 f2 g2 po lo hi fi st tw se qu ra bu rfl;rfl) rfl rfl rfl rfl rfl rfl
theorem tat_hi (h:TAt g pre post T t L) (x:Int):∃ A R,L=(g,.cells A T (0,0))::R∧pre.length+25 < A.size∧TAt g pre post T { t with hi:=x } ((g,.cells (A.setIfInBounds (pre.length+25) (.int .u16 x)) T (0,0))::R) :=
 tat_put h 25 (by omega) _ (by rintro p s q n vn a b c d f g x y vt a1 b1 c1 d1 f1 g1 a2 b2 c2 d2 f2 g2 po lo hi fi st tw se qu ra bu rfl;rfl) rfl rfl rfl rfl rfl rfl
theorem tat_sess (h:TAt g pre post T t L) (x:Int):∃ A R,L=(g,.cells A T (0,0))::R∧pre.length+29 < A.size∧TAt g pre post T { t with sess:=x } ((g,.cells (A.setIfInBounds (pre.length+29) (.int .i64 x)) T (0,0))::R) :=
 tat_put h 29 (by omega) _ (by rintro p s q n vn a b c d f g x y vt a1 b1 c1 d1 f1 g1 a2 b2 c2 d2 f2 g2 po lo hi fi st tw se qu ra bu rfl;rfl) rfl rfl rfl rfl rfl rfl
theorem tat_queue (h:TAt g pre post T t L) (x:Int):∃ A R,L=(g,.cells A T (0,0))::R∧pre.length+30 < A.size∧TAt g pre post T { t with queue:=x } ((g,.cells (A.setIfInBounds (pre.length+30) (.int .i64 x)) T (0,0))::R) :=
 tat_put h 30 (by omega) _ (by rintro p s q n vn a b c d f g x y vt a1 b1 c1 d1 f1 g1 a2 b2 c2 d2 f2 g2 po lo hi fi st tw se qu ra bu rfl;rfl) rfl rfl rfl rfl rfl rfl
theorem tat_rate (h:TAt g pre post T t L) (x:Int):∃ A R,L=(g,.cells A T (0,0))::R∧pre.length+31 < A.size∧TAt g pre post T { t with rate:=x } ((g,.cells (A.setIfInBounds (pre.length+31) (.int .u32 x)) T (0,0))::R) :=
 tat_put h 31 (by omega) _ (by rintro p s q n vn a b c d f g x y vt a1 b1 c1 d1 f1 g1 a2 b2 c2 d2 f2 g2 po lo hi fi st tw se qu ra bu rfl;rfl) rfl rfl rfl rfl rfl rfl
theorem tat_burst (h:TAt g pre post T t L) (x:Int):∃ A R,L=(g,.cells A T (0,0))::R∧pre.length+32 < A.size∧TAt g pre post T { t with burst:=x } ((g,.cells (A.setIfInBounds (pre.length+32) (.int .u32 x)) T (0,0))::R) :=
 tat_put h 32 (by omega) _ (by rintro p s q n vn a b c d f g x y vt a1 b1 c1 d1 f1 g1 a2 b2 c2 d2 f2 g2 po lo hi fi st tw se qu ra bu rfl;rfl) rfl rfl rfl rfl rfl rfl
end
theorem mem_append {w V:World} {B K:List (Nat×Obj)} {t e ty:TypeId} {sz bytes n:Nat} {z v:Value} {xs:List Value} (ht:Tryz.prog.underlying t=some (.slice e)) (hi:(Tryz.prog.info? e).map (fun i=>(i.zero,i.size,i.bytes))=some (some z,sz,bytes)) (hzs:z.cells.size=sz) (hsz:0 < sz)
  (h:Mem w V (B++K)) (hB:OwB e sz v n xs B) (ad:Addr) (news:List Value) (hl:news.length=sz) (hnews:∀ j u,news[j]? = some u→V.cell? (ad.add j)=some u) (h1:∀ u∈news,u.oneCell'=true) (h63:n+1≤1000000) (hb:(n+1) * bytes≤140737488355328) :
  ∃ v' V' B',(Builtin.append_ #[t,t] ty #[v,.slice (some ad) 1 1]).run Tryz.prog V=.ok v' V'∧Mem w V' (B'++K)∧OwB e sz v' (n+1) (xs++news) B':=by
 obtain ⟨v',V',hr,hO⟩:=ow_append (ty:=ty) ht hi hzs hsz (hB.ow h) ad 1 1 news (by omega) hnews h1 (by unfold maxLen;omega) hb
 obtain ⟨B',hB',hM'⟩:=hO.owb
 exact ⟨v',V',B',hr,hM',hB'⟩
theorem tat_list {g:Nat} {pre post:List Value} {T:TypeId} {t:Ten} {L:List (Nat×Obj)} (h:TAt g pre post T t L) (w:World) (Q:List (Nat×Obj)) :
  (∃ A p B R,L.Perm (B++((g,.cells A T (0,0))::R))∧A[pre.length+23]? = some p∧OwB 33 1 p t.pool.length (ux t.pool).flatten B∧pre.length+23 < A.size ∧
   ∀ (x:Int) (a:Option Addr) (n c:Nat) (B':List (Nat×Obj)),OwB 33 1 (.slice a n c) (t.pool.length+1) ((ux t.pool).flatten++[.int .u32 x]) B'→TAt g pre post T { t with pool:=t.pool++[x] } ((g,.cells (A.setIfInBounds (pre.length+23) (.slice a n c)) T (0,0))::(B'++R))) ∧
  (∃ A p B R,L.Perm (B++((g,.cells A T (0,0))::R))∧A[pre.length+27]? = some p∧OwB 122 2 p t.stat.length (px t.stat).flatten B∧pre.length+27 < A.size ∧
   ∀ (x y:Int) (a:Option Addr) (n c:Nat) (B':List (Nat×Obj)),OwB 122 2 (.slice a n c) (t.stat.length+1) ((px t.stat).flatten++[.int .u32 x,.int .u32 y]) B'→∃ L',L'.Perm (B'++((g,.cells (A.setIfInBounds (pre.length+27) (.slice a n c)) T (0,0))::R))∧TAt g pre post T { t with stat:=t.stat++[(x,y)] } L') ∧
  (∃ A p B R,L.Perm (B++((g,.cells A T (0,0))::R))∧A[pre.length+28]? = some p∧OwB 122 2 p t.twi.length (px t.twi).flatten B∧pre.length+28 < A.size ∧
   ∀ (x y:Int) (a:Option Addr) (n c:Nat) (B':List (Nat×Obj)),OwB 122 2 (.slice a n c) (t.twi.length+1) ((px t.twi).flatten++[.int .u32 x,.int .u32 y]) B'→∃ L',L'.Perm (B'++((g,.cells (A.setIfInBounds (pre.length+28) (.slice a n c)) T (0,0))::R))∧TAt g pre post T { t with twi:=t.twi++[(x,y)] } L'):=by
 obtain ⟨hlen,p,s,q,B1,B2,B3,k1,k2,k3,rfl⟩:=h
 have hsz:∀ o,o < 33→pre.length+o < (pre++(tc t p s q++post)).toArray.size:=by
  intro o ho
  rw [List.size_toArray,List.length_append,List.length_append,tc_len hlen];omega
 have pc:∀ (B R S:List (Nat×Obj)) (o:Nat×Obj),(o::(S++(B++R))).Perm (B++(o::(S++R))):=by
  intro B R S o
  classical
  rw [List.perm_iff_count]
  intro z
  simp only [List.count_append,List.count_cons]
  omega
 refine ⟨⟨_,p,B1,B2++B3,pc B1 (B2++B3) [] _,get_mid _ _ _ 23 _ (tget hlen (by rintro n vn a b c d f g x y vt a1 b1 c1 d1 f1 g1 a2 b2 c2 d2 f2 g2 po lo hi fi st tw se qu ra bu rfl;rfl)),k1,hsz 23 (by omega),fun x a n c B' hB=>⟨⟨hlen.key,hlen.vmac,hlen.host⟩,.slice a n c,s,q,B',B2,B3,?_,k2,k3,?_⟩⟩,
  ⟨_,s,B2,B1++B3,pc B2 B3 B1 _,get_mid _ _ _ 27 _ (tget hlen (by rintro n vn a b c d f g x y vt a1 b1 c1 d1 f1 g1 a2 b2 c2 d2 f2 g2 po lo hi fi st tw se qu ra bu rfl;rfl)),k2,hsz 27 (by omega),fun x y a n c B' hB=>⟨_,?_,⟨hlen.key,hlen.vmac,hlen.host⟩,p,.slice a n c,q,B1,B',B3,k1,?_,k3,rfl⟩⟩,
  ⟨_,q,B3,B1++B2,?_,get_mid _ _ _ 28 _ (tget hlen (by rintro n vn a b c d f g x y vt a1 b1 c1 d1 f1 g1 a2 b2 c2 d2 f2 g2 po lo hi fi st tw se qu ra bu rfl;rfl)),k3,hsz 28 (by omega),fun x y a n c B' hB=>⟨_,?_,⟨hlen.key,hlen.vmac,hlen.host⟩,p,s,.slice a n c,B1,B2,B',k1,k2,?_,rfl⟩⟩⟩
 ·rw [ux_snoc,List.length_append];exact hB
 ·rw [set_mid _ _ _ 23 _ (by rw [tc_len hlen];omega)]
  rw [tset (t':={ t with pool:=t.pool++[x] }) (p':=.slice a n c) (s':=s) (q':=q) hlen (by rintro n vn a b c d f g x y vt a1 b1 c1 d1 f1 g1 a2 b2 c2 d2 f2 g2 po lo hi fi st tw se qu ra bu rfl;rfl)]
 ·rw [set_mid _ _ _ 27 _ (by rw [tc_len hlen];omega)]
  rw [tset (t':={ t with stat:=t.stat++[(x,y)] }) (p':=p) (s':=.slice a n c) (q':=q) hlen (by rintro n vn a b c d f g x y vt a1 b1 c1 d1 f1 g1 a2 b2 c2 d2 f2 g2 po lo hi fi st tw se qu ra bu rfl;rfl)]
  exact pc B' B3 B1 _
 ·rw [px_snoc,List.length_append];exact hB
 ·classical
  rw [List.perm_iff_count]
  intro z
  simp only [List.count_append,List.count_cons]
  omega
 ·rw [set_mid _ _ _ 28 _ (by rw [tc_len hlen];omega)]
  rw [tset (t':={ t with twi:=t.twi++[(x,y)] }) (p':=p) (s':=s) (q':=.slice a n c) hlen (by rintro n vn a b c d f g x y vt a1 b1 c1 d1 f1 g1 a2 b2 c2 d2 f2 g2 po lo hi fi st tw se qu ra bu rfl;rfl)]
  classical
  rw [List.perm_iff_count]
  intro z
  simp only [List.count_append,List.count_cons]
  omega
 ·rw [px_snoc,List.length_append];exact hB
end Go.Proofs.YtdigofgjhaakmaaGreatDoor
namespace Go.Proofs.YtdigofgjhaakmaaGreatDoor
open Go.RowKit
open Sm
open Cf
open Df
namespace Df
def Dl (w W:World) (v:Value) (zs:List Tv):Prop:=(v=.slice none 0 0∧zs=[]∧Mem w W []) ∨
 ∃ g cap cur,v=.slice (some ⟨g,0,none⟩) zs.length cap∧Mem w W [(g,.cells cur 46)]∧zs.length≤cap∧cap≤maxLen∧cur.toList.take (zs.length * 33)=(zs.map zc).flatten
theorem Dl.below {w W:World} {v:Value} {zs:List Tv} (h:Dl w W v zs):Below w.heap.size w W:=by
 rcases h with ⟨-,-,h⟩ | ⟨g,cap,cur,-,h,-⟩
 ·exact h.below
 ·exact h.below
theorem Dl.after {w W W':World} {v:Value} {zs:List Tv} (h:Dl w W v zs) (hb:Below W.heap.size W W'):Dl w W' v zs:=by
 rcases h with ⟨h1,h2,h⟩ | ⟨g,cap,cur,h1,h,h2⟩
 ·exact Or.inl ⟨h1,h2,h.after hb⟩
 ·exact Or.inr ⟨g,cap,cur,h1,h.after hb,h2⟩
theorem Dl.nil {w W:World} (h:Below w.heap.size w W):Dl w W (.slice none 0 0) []:=Or.inl ⟨rfl,rfl,h,by simp,by simp,by simp⟩
theorem Dl.slice {w W:World} {v:Value} {zs:List Tv} (h:Dl w W v zs):∃ a c,v=.slice a zs.length c∧zs.length≤c∧c≤9223372036854775807∧(a=none→c=0):=by
 rcases h with ⟨h1,h2,-⟩ | ⟨g,cap,cur,h1,-,h2,h3,-⟩
 ·subst h2;exact ⟨none,0,h1,Nat.le_refl _,by omega,fun _=>rfl⟩
 ·exact ⟨_,cap,h1,h2,by simpa [maxLen] using h3,nofun⟩
theorem zc33 {z:Tv} (h:TLen z.1):(zc z).length=33:=tc_len h _ _ _
theorem zs33 {zs:List Tv} (h:∀ z∈zs,TLen z.1):∀ x∈zs.map zc,x.length=33:=by
 intro x hx
 obtain ⟨z,hz,rfl⟩:=List.mem_map.1 hx
 exact zc33 (h z hz)
theorem Dl.rw {w W:World} {v:Value} {zs:List Tv} (h:Dl w W v zs) (hl:∀ z∈zs,TLen z.1):Rw W 33 v (zs.map zc):=by
 rcases h with ⟨rfl,rfl,-⟩ | ⟨g,cap,cur,rfl,hM,h1,h2,h3⟩
 ·exact ⟨none,0,rfl,Nat.le_refl _,by omega,fun _=>rfl,Or.inl rfl⟩
 ·refine ⟨some ⟨g,0,none⟩,cap,by rw [List.length_map],by rw [List.length_map];exact h1,by simpa [maxLen] using h2,nofun,Or.inr ⟨g,0,rfl,fun i hi j u hj=>?_⟩⟩
  have h5:=flat_at (zs.map zc) i j u (zs33 hl) hj
  rw [←h3,List.getElem?_take] at h5
  rw [hM.cell 0 rfl,Nat.zero_add]
  split at h5
  ·rw [←Array.getElem?_toList];exact h5
  ·cases h5
end Df
end Go.Proofs.YtdigofgjhaakmaaGreatDoor
