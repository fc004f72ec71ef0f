/-
  What is changed: a tenant with lists of its own (copied).
  What the library's variables hold when a call begins, and a world in which they hold it.
  Addresses of version 4 as text: the program's Ip and the document's own, at every text.
  Names: the program's Name, at every text.
  Rows of bytes written as hexadecimal digits: the program's readHex, at every text, into a row of the caller's own.
  Which settings may be, in plain numbers: rules told in order, the first error; both the program's and the document's.
-/
import Derived.Test.YtdigofgjhaakmaaGreatDoorW22
import Derived.Test.YtdigofgjhaakmaaGreatDoorW20
import Derived.Test.YtdigofgjhaakmaaGreatDoorW19
import Derived.Test.YtdigofgjhaakmaaGreatDoorRows
import Derived.Lib.LaidU8T
import Derived.PinnedBridge
import Derived.LaidMore
import Derived.Lay
import Derived.Handed
import Derived.Shelf.Vars
import Derived.Stop.Joined
import Derived.Lib.ValidLaws
import Derived.Lib.TrimUEq
import Derived.Lib.TrimAscii
import Derived.Test.YtdigofgjhaakmaaGreatDoorW14
set_option linter.unusedVariables false
set_option linter.unusedSimpArgs false
set_option maxRecDepth 20000
set_option maxHeartbeats 40000000
namespace Go.Proofs.YtdigofgjhaakmaaGreatDoor
open Go.RowKit
open Sm
open Cf
open Df
namespace Df
theorem flat_of {α:Type} {sz:Nat} (hsz:0 < sz) (xs:List (List α)) (hx:∀ x∈xs,x.length=sz) (j:Nat) (u:α) (h:xs.flatten[j]? = some u):j / sz < xs.length∧(xs.getD (j / sz) [])[j % sz]? = some u:=by
 have hl:xs.flatten.length=xs.length * sz:=by
  clear h
  induction xs with
  | nil=>simp
  | cons x xs ih=>rw [List.flatten_cons,List.length_append,hx x (by simp),ih fun y hy=>hx y (by simp [hy]),List.length_cons,Nat.succ_mul];omega
 have hj:=(List.getElem?_eq_some_iff.mp h).1
 have hd:j / sz < xs.length:=(Nat.div_lt_iff_lt_mul hsz).2 (by omega)
 refine ⟨hd,?_⟩
 have hm:j % sz < (xs.getD (j / sz) []).length:=by
  have:xs.getD (j / sz) []∈xs:=by
   rw [List.getD_eq_getElem?_getD,List.getElem?_eq_getElem hd,Option.getD_some]
   exact List.getElem_mem _
  rw [hx _ this]
  exact Nat.mod_lt _ hsz
 have:=flat_at xs (j / sz) (j % sz) _ hx (List.getElem?_eq_getElem hm)
 rw [Nat.mul_comm,Nat.div_add_mod,h] at this
 rw [List.getElem?_eq_getElem hm,← this]
theorem rw_flat {W:World} {sz:Nat} (hsz:0 < sz) {a:Option Addr} {m c:Nat} {xs:List (List Value)} (h:Rw W sz (.slice a m c) xs) (hx:∀ x∈xs,x.length=sz) {ad:Addr} (ha:a=some ad):∀ j u,xs.flatten[j]? = some u→W.cell? (ad.add j)=some u:=by
 intro j u hj
 obtain ⟨hd,hu⟩:=flat_of hsz xs hx j u hj
 obtain ⟨a',c',e,h1,h2,h3,h4⟩:=h
 simp only [Value.slice.injEq] at e
 obtain ⟨rfl,-,rfl⟩:=e
 rcases h4 with e | ⟨b,off,e,hc⟩
 ·rw [e] at hd;simp at hd
 ·rw [ha] at e
  cases e
  have:=hc (j / sz) hd (j % sz) u hu
  rw [Addr.add_mid]
  rw [Nat.add_assoc,Nat.mul_comm,Nat.div_add_mod] at this
  exact this
theorem append_none_g {w W:World} {L:List (Nat×Obj)} (hM:Mem w W L) {t e ty:TypeId} {sz bytes:Nat} {z:Value} (ht:Tryz.prog.underlying t=some (.slice e)) (hi:(Tryz.prog.info? e).map (fun i=>(i.zero,i.size,i.bytes))=some (some z,sz,bytes)) (hzs:z.cells.size=sz) (hsz:0 < sz)
  {v:Value} {xs:List (List Value)} (h:Rw W sz v xs) (hx:∀ x∈xs,x.length=sz) (h1:∀ x∈xs,∀ u∈x,u.oneCell'=true) (hl:xs.length≤maxLen) (hb:xs.length * bytes≤140737488355328) :
  ∃ v' W',(Builtin.append_ #[t,t] ty #[.slice none 0 0,v]).run Tryz.prog W=.ok v' W'∧Ow w W' e sz v' xs.length xs.flatten L:=by
 have hn:Ow w W e sz (.slice none 0 0) 0 [] L:=Ow.nil hM
 have h0:=h
 obtain ⟨a,c,rfl,k1,k2,k3,k4⟩:=h
 cases a with
 | none =>
  have hc:c=0:=k3 rfl
  subst hc
  have hl0:xs=[]:=List.eq_nil_of_length_eq_zero (by omega)
  subst hl0
  obtain ⟨i,hi',-,-,-⟩:=info_parts hi
  exact ⟨_,_,run_append_owned_none (P:=Tryz.prog) W w.heap.size t ty e i sz ht hi' _ _ _ hn.owns,hn⟩
 | some ad =>
  have hfl:xs.flatten.length=xs.length * sz:=by
   clear h0 k4 hb hl h1 k1
   induction xs with
   | nil=>simp
   | cons x xs ih=>rw [List.flatten_cons,List.length_append,hx x (by simp),ih fun y hy=>hx y (by simp [hy]),List.length_cons,Nat.succ_mul];omega
  have:=ow_append (ty:=ty) ht hi hzs hsz hn ad xs.length c xs.flatten hfl (rw_flat hsz h0 hx rfl) (by
   intro u hu
   obtain ⟨x,hxm,hux⟩:=List.mem_flatten.mp hu
   exact h1 x hxm u hux) (by omega) (by rw [Nat.zero_add];exact hb)
  rw [Nat.zero_add,List.nil_append] at this
  exact this
theorem ux_sz {l:List Int}:∀ x∈ux l,x.length=1:=by
 intro x hx;simp only [ux,List.mem_map] at hx;obtain ⟨y,-,rfl⟩:=hx;rfl
theorem px_sz {l:List (Int×Int)}:∀ x∈px l,x.length=2:=by
 intro x hx;simp only [px,List.mem_map] at hx;obtain ⟨y,-,rfl⟩:=hx;rfl
theorem ux_oc {l:List Int}:∀ x∈ux l,∀ u∈x,u.oneCell'=true:=by
 intro x hx u hu;simp only [ux,List.mem_map] at hx;obtain ⟨y,-,rfl⟩:=hx;simp at hu;subst hu;rfl
theorem px_oc {l:List (Int×Int)}:∀ x∈px l,∀ u∈x,u.oneCell'=true:=by
 intro x hx u hu;simp only [px,List.mem_map] at hx;obtain ⟨y,-,rfl⟩:=hx;simp at hu;rcases hu with rfl | rfl <;> rfl
theorem tc_set23 {t:Ten} (h:TLen t) (p s q v:Value):(tc t p s q).toArray.setIfInBounds 23 v=(tc t v s q).toArray:=by
 obtain ⟨n,vn,key,vt,vm,ho,po,lo,hi,fi,st,tw,se,qu,ra,bu⟩:=t
 obtain ⟨h1,h2,h3⟩:=h
 obtain ⟨a,b,c,d,f,g,x,y,rfl⟩:=eight8 h1
 obtain ⟨a1,b1,c1,d1,f1,g1,rfl⟩:=six6 h2
 obtain ⟨a2,b2,c2,d2,f2,g2,rfl⟩:=six6 h3
 rfl
theorem tc_set27 {t:Ten} (h:TLen t) (p s q v:Value):(tc t p s q).toArray.setIfInBounds 27 v=(tc t p v q).toArray:=by
 obtain ⟨n,vn,key,vt,vm,ho,po,lo,hi,fi,st,tw,se,qu,ra,bu⟩:=t
 obtain ⟨h1,h2,h3⟩:=h
 obtain ⟨a,b,c,d,f,g,x,y,rfl⟩:=eight8 h1
 obtain ⟨a1,b1,c1,d1,f1,g1,rfl⟩:=six6 h2
 obtain ⟨a2,b2,c2,d2,f2,g2,rfl⟩:=six6 h3
 rfl
theorem tc_set28 {t:Ten} (h:TLen t) (p s q v:Value):(tc t p s q).toArray.setIfInBounds 28 v=(tc t p s v).toArray:=by
 obtain ⟨n,vn,key,vt,vm,ho,po,lo,hi,fi,st,tw,se,qu,ra,bu⟩:=t
 obtain ⟨h1,h2,h3⟩:=h
 obtain ⟨a,b,c,d,f,g,x,y,rfl⟩:=eight8 h1
 obtain ⟨a1,b1,c1,d1,f1,g1,rfl⟩:=six6 h2
 obtain ⟨a2,b2,c2,d2,f2,g2,rfl⟩:=six6 h3
 rfl
theorem tc_at {t:Ten} (h:TLen t) (p s q:Value):(tc t p s q).toArray[0]? = some (.string t.name)∧(tc t p s q).toArray[23]? = some p∧(tc t p s q).toArray[27]? = some s∧(tc t p s q).toArray[28]? = some q:=by
 obtain ⟨n,vn,key,vt,vm,ho,po,lo,hi,fi,st,tw,se,qu,ra,bu⟩:=t
 obtain ⟨h1,h2,h3⟩:=h
 obtain ⟨a,b,c,d,f,g,x,y,rfl⟩:=eight8 h1
 obtain ⟨a1,b1,c1,d1,f1,g1,rfl⟩:=six6 h2
 obtain ⟨a2,b2,c2,d2,f2,g2,rfl⟩:=six6 h3
 exact ⟨rfl,rfl,rfl,rfl⟩
theorem mem_set_in {w W:World} {B L:List (Nat×Obj)} {g:Nat} {A:Array Value} {T:TypeId} (h:Mem w W (B++((g,.cells A T (0,0))::L))) (j:Nat) (v:Value):Mem w (W.setCell ⟨g,j,none⟩ v) ((g,.cells (A.setIfInBounds j v) T (0,0))::(B++L)):=by
 have h1:Mem w W ((g,.cells A T (0,0))::(B++L)):=h.perm List.perm_middle
 exact h1.set 0 rfl j v
theorem copied_any {w:World} {z:Tv} (hl:TLen z.1) (hr:Rws w z) (hf:TFew z.1):Calls Tryz.prog 79 #[tv z] w fun e V=>∃ z' C,e=.returned (tv z')∧z'.1=z.1∧ZB z' C∧Mem w V C:=by
 obtain ⟨t,p,s,q⟩:=z
 obtain ⟨r1,r2,r3⟩:=hr
 obtain ⟨f1,f2,f3⟩:=hf
 simp only at hl r1 r2 r3 f1 f2 f3
 have o1:(tc t p s q).toArray.all (·.oneCell')=true:=tc_one2 t (rw_one r1) (rw_one r2) (rw_one r3)
 have u1:(ux t.pool).length=t.pool.length:=by simp [ux]
 have u2:(px t.stat).length=t.stat.length:=by simp [px]
 have u3:(px t.twi).length=t.twi.length:=by simp [px]
 obtain ⟨g,hg⟩:∃ g,w.heap.size=g:=⟨_,rfl⟩
 have HM0:Hid (Mem w ((w.alloc (.cells (tc t p s q).toArray 46)).alloc (.cells tz 46)) [(g,.cells (tc t p s q).toArray 46),(g+1,.cells tz 46)]):=by
  have:=two_blocks' w (.cells (tc t p s q).toArray 46) (.cells tz 46)
  rw [hg] at this
  exact this.perm (List.Perm.swap _ _ _)
 have S1:Hid (∀ V,Mem w V [(g,.cells (tc t p s q).toArray 46),(g+1,.cells tz 46)]→V.cell? ⟨g,23,none⟩=some p∧∃ a m c V' B,(Builtin.append_ #[43,43] 43 #[.slice none 0 0,p]).run Tryz.prog V=.ok (.slice a m c) V'∧V'.frozen? ⟨g,23,none⟩=false∧V'.cell? ⟨g,23,none⟩=some p ∧
   OwB 33 1 (.slice a m c) t.pool.length (ux t.pool).flatten B∧Mem w (V'.setCell ⟨g,23,none⟩ (.slice a m c)) ((g,.cells (tc t (.slice a m c) s q).toArray 46)::(B++[(g+1,.cells tz 46)]))):=by
  intro V hV
  obtain ⟨v',V',hrun,hO⟩:=append_none_g (ty:=43) hV Tryz.underlying43 infoU rfl (by decide) (r1.below ux_ne hV.below (Nat.le_refl _)) ux_sz ux_oc (by unfold maxLen;omega) (by omega)
  rw [u1] at hO
  obtain ⟨B,hB,hM⟩:=hO.owb
  obtain ⟨a,m,c,rfl⟩:=owb_slice hB
  have hM2:Mem w V' ((g,.cells (tc t p s q).toArray 46)::(B++[(g+1,.cells tz 46)])):=hM.perm List.perm_middle
  have:=mem_set_in hM 23 (.slice a m c)
  rw [tc_set23 hl] at this
  exact ⟨by rw [hV.cell 0 rfl];exact (tc_at hl p s q).2.1,a,m,c,V',B,hrun,hM2.free 0 rfl 23,by rw [hM2.cell 0 rfl];exact (tc_at hl p s q).2.1,hB,this⟩
 have S2:Hid (∀ V p' B1,Mem w V ((g,.cells (tc t p' s q).toArray 46)::(B1++[(g+1,.cells tz 46)]))→V.cell? ⟨g,27,none⟩=some s∧∃ a m c V' B,(Builtin.append_ #[44,44] 44 #[.slice none 0 0,s]).run Tryz.prog V=.ok (.slice a m c) V'∧V'.frozen? ⟨g,27,none⟩=false∧V'.cell? ⟨g,27,none⟩=some s ∧
   OwB 122 2 (.slice a m c) t.stat.length (px t.stat).flatten B∧Mem w (V'.setCell ⟨g,27,none⟩ (.slice a m c)) ((g,.cells (tc t p' (.slice a m c) q).toArray 46)::(B++(B1++[(g+1,.cells tz 46)])))):=by
  intro V p' B1 hV
  obtain ⟨v',V',hrun,hO⟩:=append_none_g (ty:=44) hV Tryz.underlying44 infoP rfl (by decide) (r2.below px_ne hV.below (Nat.le_refl _)) px_sz px_oc (by unfold maxLen;omega) (by omega)
  rw [u2] at hO
  obtain ⟨B,hB,hM⟩:=hO.owb
  obtain ⟨a,m,c,rfl⟩:=owb_slice hB
  have hM2:Mem w V' ((g,.cells (tc t p' s q).toArray 46)::(B++(B1++[(g+1,.cells tz 46)]))):=hM.perm List.perm_middle
  have:=mem_set_in hM 27 (.slice a m c)
  rw [tc_set27 hl] at this
  exact ⟨by rw [hV.cell 0 rfl];exact (tc_at hl p' s q).2.2.1,a,m,c,V',B,hrun,hM2.free 0 rfl 27,by rw [hM2.cell 0 rfl];exact (tc_at hl p' s q).2.2.1,hB,this⟩
 have S3:Hid (∀ V p' s' K,Mem w V ((g,.cells (tc t p' s' q).toArray 46)::K)→V.cell? ⟨g,28,none⟩=some q∧∃ a m c V' B,(Builtin.append_ #[44,44] 44 #[.slice none 0 0,q]).run Tryz.prog V=.ok (.slice a m c) V'∧V'.frozen? ⟨g,28,none⟩=false∧V'.cell? ⟨g,28,none⟩=some q ∧
   OwB 122 2 (.slice a m c) t.twi.length (px t.twi).flatten B∧Mem w (V'.setCell ⟨g,28,none⟩ (.slice a m c)) ((g,.cells (tc t p' s' (.slice a m c)).toArray 46)::(B++K))):=by
  intro V p' s' K hV
  obtain ⟨v',V',hrun,hO⟩:=append_none_g (ty:=44) hV Tryz.underlying44 infoP rfl (by decide) (r3.below px_ne hV.below (Nat.le_refl _)) px_sz px_oc (by unfold maxLen;omega) (by omega)
  rw [u3] at hO
  obtain ⟨B,hB,hM⟩:=hO.owb
  obtain ⟨a,m,c,rfl⟩:=owb_slice hB
  have hM2:Mem w V' ((g,.cells (tc t p' s' q).toArray 46)::(B++K)):=hM.perm List.perm_middle
  have:=mem_set_in hM 28 (.slice a m c)
  rw [tc_set28 hl] at this
  exact ⟨by rw [hV.cell 0 rfl];exact (tc_at hl p' s' q).2.2.2,a,m,c,V',B,hrun,hM2.free 0 rfl 28,by rw [hM2.cell 0 rfl];exact (tc_at hl p' s' q).2.2.2,hB,this⟩
 clear r1 r2 r3
 show Calls Tryz.prog 79 #[.agg (tc t p s q).toArray] w _
 obtain ⟨A,hA⟩:∃ A,(tc t p s q).toArray=A:=⟨_,rfl⟩
 rw [hA] at HM0 S1 o1 ⊢
 clear hA
 go_enter Tryz.func79,Tryz.ntmps79
 go_upto_region 1 with fail
 refine wp_letter (fun X=>Mem w X [(g,.cells A 46),(g+1,.cells tz 46)]) (by exact HM0.out) ?_
 intro V0 hM0
 try simp only [hg]
 clear HM0 hg
 obtain ⟨c1,a1,m1,d1,V1,B1,hr1,hf1,hc1,hB1,hM1⟩:=S1.out V0 hM0
 clear S1 hM0
 go_upto_region 2 with (first | (at_builtin;refine wpList_append_run _ (.tmp 4) 43 43 (by with_reducible rfl) hr1 rfl rfl (by first | rfl | simp [Act.eval]) (by first | rfl | simp [Act.eval]) ?_) | fail)
 clear hr1 c1 hf1 hc1
 generalize V1.setCell ⟨g,23,none⟩ (.slice a1 m1 d1)=V2 at *
 obtain ⟨c2,a2,m2,d2,V3,B2,hr2,hf2,hc2,hB2,hM2⟩:=S2.out V2 _ _ hM1
 clear S2 hM1
 go_upto_region 3 with (first | (at_builtin;refine wpList_append_run _ (.tmp 8) 44 44 (by with_reducible rfl) hr2 rfl rfl (by first | rfl | simp [Act.eval]) (by first | rfl | simp [Act.eval]) ?_) | fail)
 clear hr2 c2 hf2 hc2
 generalize V3.setCell ⟨g,27,none⟩ (.slice a2 m2 d2)=V4 at *
 obtain ⟨c3,a3,m3,d3,V5,B3,hr3,hf3,hc3,hB3,hM3⟩:=S3.out V4 _ _ _ hM2
 clear S3 hM2
 go_upto_region 4 with (first | (at_builtin;refine wpList_append_run _ (.tmp 12) 44 44 (by with_reducible rfl) hr3 rfl rfl (by first | rfl | simp [Act.eval]) (by first | rfl | simp [Act.eval]) ?_) | fail)
 clear hr3 c3 hf3 hc3
 generalize V5.setCell ⟨g,28,none⟩ (.slice a3 m3 d3)=V6 at *
 have hsz:(tc t (.slice a1 m1 d1) (.slice a2 m2 d2) (.slice a3 m3 d3)).toArray.size=33:=by rw [List.size_toArray];exact tc_len hl _ _ _
 have hone:(tc t (.slice a1 m1 d1) (.slice a2 m2 d2) (.slice a3 m3 d3)).toArray.all (·.oneCell')=true:=tc_one3 _ (owb_one hB1) (owb_one hB2) (owb_one hB3)
 obtain ⟨A3,hA3⟩:∃ A,(tc t (.slice a1 m1 d1) (.slice a2 m2 d2) (.slice a3 m3 d3)).toArray=A:=⟨_,rfl⟩
 have hM4:Mem w V6 ((g,.cells A3 46)::(g+1,.cells tz 46)::(B3++(B2++B1))):=by
  rw [←hA3]
  exact hM3.perm (by
   refine List.Perm.cons _ ?_
   rw [←List.append_assoc,← List.append_assoc,← List.append_assoc]
   exact List.perm_append_comm)
 rw [hA3] at hsz hone
 have i33:(Tryz.prog.info? 46).map (·.size)=some A3.size:=by rw [hsz];kernel_rfl
 have k4:=hM4.get 0 rfl
 have k5:=hM4.get 1 rfl
 have hM5:=hM4.wrote 1 rfl (wrote_setRow V6 (g+1) _ A3 _ k5)
 have HQ:Hid ((V6.setRow (g+1) A3).heap[g+1]? = some (.cells A3 46)∧∃ (z':Tv) (C:List (Nat×Obj)),Ending.returned (.agg A3)=.returned (tv z')∧z'.1=t∧ZB z' C∧Mem w (V6.setRow (g+1) A3) C):=by
  refine ⟨hM5.get 1 rfl,(t,.slice a1 m1 d1,.slice a2 m2 d2,.slice a3 m3 d3),B3++(B2++B1),by rw [←hA3];rfl,rfl,⟨hl,B1,B2,B3,fun x hx=>hx,hB1,hB2,hB3⟩,hM5.sub.sub⟩
 clear hM3 hM4 hM5 hB1 hB2 hB3 hA3
 go_wp2_with (first | (refine wpList_load_row rfl 46 (.tmp 1) (by with_reducible rfl) g (by first | rfl | simp [Act.eval]) 46 A3 (0,0) _ k4 Tryz.underlying46 rfl i33 ?_) | (refine wpList_store_row rfl 46 (.tmp 2) (.tmp 15) (by with_reducible rfl) (g+1) A3 (by first | rfl | simp [Act.eval]) (by first | rfl | simp [Act.eval]) 46 tz k5 i33 (by rw [hsz];rfl) hone ?_))
 refine bodyPost_ret (v:=.agg A3) ?_ rfl HQ.out.2
 exact results_cell_row (p:=2) (ty:=46) rfl _ _ (g+1) 46 _ (0,0) _ rfl HQ.out.1 Tryz.underlying46 rfl i33
end Df
end Go.Proofs.YtdigofgjhaakmaaGreatDoor
namespace Go.Proofs.YtdigofgjhaakmaaGreatDoor
open Go.ChangeShapes Go.WideShapes Go.RowKit
theorem la_extra:U8Extra Tryz.prog Tryz.lays196_ren:={
 n3:=by kernel_rfl
 n4:=by kernel_rfl
 y3:=by kernel_rfl
 y4:=by kernel_rfl
 c5:=by kernel_rfl
 c119:=by kernel_rfl
 c138:=by kernel_rfl }
theorem la_acc:(Rows.laid_unicode_utf8_acceptRanges:DataW Unit)=Lib.acceptData:=by kernel_rfl
theorem la_first:Rows.laid_unicode_utf8_first=Lib.firstData:=Pinned.utf8First_eq
theorem returns_of {H:Type} {enc:TypeId×Value→H} {a:Assume} {C:Checked} {os:Os} {f:FuncId} {fn:Func} {s:ChangeSpec} {conds:List PathCond} {apart fresh handsOn again:Bool} {l:List (String×DataW Unit)}
  (own:ownKnob C.prog.godebug=none) (started:os.Started) (noInit:C.prog.inits.idxOf? f=none) (hfn:C.prog.funcs[f]? = some fn)
  (witness:∃ (w:World) (tape:Tape) (i:Input),w.os=os∧(w.forCall tape i).Shaped C.prog∧i.vars=[]∧Input.okWide C.prog (w.forCall tape i) .any w.heap.size f i ∧
   ((s.pre enc C.prog fn conds apart (w.forCall tape i).memory i.args∧laidMetH C.prog l (w.forCall tape i).memory)∧sizedMet enc C.prog fn (OpenSpec.ofChange s) apart (w.forCall tape i).memory i.args)∧a.holds C.prog (lone (Frame.enter C.prog f i.args .normal) [] (w.forCall tape i)))
  (contract:∀ (W:World) (base:Nat) (args:Array Value) (ds gs:List (DataW H)) (before:List MemPlace),
   (∀ (j:Nat) t v,fn.params[j]? = some t→args[j]? = some v→Value.okWide C.prog W .any base t v) →
   DataW.Whole enc C.prog fn.params.toList s.vars apart W args.toList ds gs before →
   laidMetH C.prog l W→W.ShapedOpen C.prog →
   Calls C.prog f args W fun e W'=>∃ v,e=.returned v∧s.post enc C.prog fn apart fresh handsOn again W args v W') :
  ReturnsInHanded a C os f .any (fun w args=>(s.pre enc C.prog fn conds apart w args∧laidMetH C.prog l w)∧sizedMet enc C.prog fn (OpenSpec.ofChange s) apart w args) (s.post enc C.prog fn apart fresh handsOn again):=by
 refine returnsInHanded_of_calls own started noInit witness fun w tape i _ hsh _ hok hpre _=>?_
 obtain ⟨_,_,_,fn',hfn',_,_,_,_,hval⟩:=hok
 obtain rfl:fn'=fn:=Option.some.inj (hfn'.symm.trans hfn)
 obtain ⟨⟨⟨ds,gs,before,hw,_⟩,hl⟩,_⟩:=hpre
 refine (contract (w.forCall tape i) w.heap.size i.args ds gs before hval (DataW.Whole.of_heap (w':=w.forCall tape i) (by rfl) hw) (hl.of_heap (by rfl)) hsh).mono fun e W' hp=>?_
 obtain ⟨v,rfl,hp⟩:=hp
 exact ChangeSpec.post_blind hp
end Go.Proofs.YtdigofgjhaakmaaGreatDoor
namespace Go.Proofs.YtdigofgjhaakmaaGreatDoor
open Go.RowKit
open Ad
namespace Ad
def ipGo:Nat→List (List UInt8)→Option Nat
 | n,[]=>some n
 | n,p::r=>match num p 255 with
  | none=>none
  | some b=>ipGo (n * 256+b) r
def ip (s:List UInt8):Option Nat:=if (cut 46 s).length=4 then ipGo 0 (cut 46 s) else none
end Ad
theorem mayBegin_any (r:Nat) (w:World):Calls Tryz.prog 259 #[.int .i32 (r:Int)] w fun e w'=>e=.returned (.bool (mb r))∧w=w':=by
 have hc:(¬ (97:Int)≤r)∨((97:Int)≤r∧(r:Int)≤122)∨((97:Int)≤r∧¬ (r:Int)≤122∧¬ (127:Int) < r)∨((97:Int)≤r∧¬ (r:Int)≤122∧(127:Int) < r):=by omega
 rcases hc with h1 | ⟨h1,h2⟩ | ⟨h1,h2,h3⟩ | ⟨h1,h2,h3⟩
 ·have h3:¬ (127:Int) < r:=by omega
  have e:mb r=false:=by unfold mb;simp;omega
  rw [e]
  go_enter Tryz.func259,Tryz.ntmps259
  go_wp2
  go_ret
  exact ⟨rfl,rfl⟩
 ·have e:mb r=true:=by unfold mb;simp;omega
  rw [e]
  go_enter Tryz.func259,Tryz.ntmps259
  go_wp2
  go_ret
  exact ⟨rfl,rfl⟩
 ·have e:mb r=false:=by unfold mb;simp;omega
  rw [e]
  go_enter Tryz.func259,Tryz.ntmps259
  go_wp2
  go_ret
  exact ⟨rfl,rfl⟩
 ·have e:mb r=true:=by unfold mb;simp;omega
  rw [e]
  go_enter Tryz.func259,Tryz.ntmps259
  go_wp2
  go_ret
  exact ⟨rfl,rfl⟩
theorem mayFollow_any (r:Nat) (w:World):Calls Tryz.prog 260 #[.int .i32 (r:Int)] w fun e w'=>e=.returned (.bool (mf r))∧w=w':=by
 have cD:=isDigit_any (r:Int)
 by_cases hd:(48:Int)≤r∧(r:Int)≤57
 ·have e:mf r=true:=by unfold mf;simp;omega
  rw [e]
  rw [decide_eq_true hd] at cD
  clear hd
  go_enter Tryz.func260,Tryz.ntmps260
  go_wp2_with fail
  refine (cD _).mono ?_
  rintro e w' ⟨rfl,rfl⟩
  go_wp2_with fail
  go_ret
  exact ⟨rfl,rfl⟩
 ·rw [decide_eq_false hd] at cD
  by_cases h45:r=45
  ·have e:mf r=true:=by unfold mf;simp;omega
   have h45b:(((r:Nat):Int) == 45)=true:=by simp;omega
   rw [e]
   clear hd h45
   go_enter Tryz.func260,Tryz.ntmps260
   go_wp2_with fail
   refine (cD _).mono ?_
   rintro e w' ⟨rfl,rfl⟩
   go_wp2_with fail
   go_ret
   exact ⟨rfl,rfl⟩
  ·have e:mf r=false:=by unfold mf;simp;omega
   have h45b:(((r:Nat):Int) == 45)=false:=by simp;omega
   rw [e]
   clear hd h45
   go_enter Tryz.func260,Tryz.ntmps260
   go_wp2_with fail
   refine (cD _).mono ?_
   rintro e w' ⟨rfl,rfl⟩
   go_wp2_with fail
   go_ret
   exact ⟨rfl,rfl⟩
set_option maxRecDepth 20000 in
theorem name_len {w:World} (hV:Vs w) (s:ByteArray) (h1:1≤s.size) (h2:s.size≤32) :
  Calls Tryz.prog 169 #[.string s] w fun e w'=>e=.returned (.bool (rn s.size true s.data.toList))∧Below w.heap.size w w':=by
 have cV:=valid_any hV s (by omega)
 have hlen:=text_len s
 have hpr:=pn_rn s.size true s.data.toList (by omega)
 have z1:¬ ((s.size:Int) < 1):=by omega
 have z2:¬ ((32:Int) < s.size):=by omega
 cases hv:Lib.validD s.data.toList with
 | false =>
  rw [hv,Bool.false_and] at hpr
  rw [←hpr]
  rw [hv] at cV
  clear hpr
  go_enter Tryz.func169,Tryz.ntmps169
  go_wp2_with fail
  refine cV.mono ?_
  rintro e w1 ⟨rfl,hb1⟩
  go_wp2_with fail
  go_ret
  exact ⟨rfl,hb1⟩
 | true =>
  rw [hv,Bool.true_and] at hpr
  rw [←hpr]
  rw [hv] at cV
  obtain ⟨R,hR⟩:∃ R,pn s.size true s.data.toList=R:=⟨_,rfl⟩
  rw [hR]
  clear hpr
  go_enter Tryz.func169,Tryz.ntmps169
  go_wp2_with fail
  refine cV.mono ?_
  rintro e w1 ⟨rfl,hb1⟩
  have hbi:∀ pos,Below w.heap.size w (w1.iter s pos):=fun pos=>hb1.trans ((iter_below w1 s pos).mono hb1.size)
  go_wp2_with fail
  go_loopw [] (fun w'=>∃ (pos f:Nat),w'=w1.iter s pos∧s.size≤pos+f∧pn f (decide (pos=0)) (s.data.toList.drop pos)=R) (fun w'=>s.size - w'.iterPos w1.heap.size)
  case atStart=>exact ⟨0,s.size,rfl,by omega,by simpa using hR⟩
  case round =>
   obtain ⟨pos,f,rfl,hf,hc⟩:=hrel
   clear cV hR
   by_cases hp:pos < s.size
   ·have hnx:∀ ty,(Instr.next (.pointer (some ⟨w1.heap.size,0,none⟩)) true ty).run Tryz.prog (w1.iter s pos)=_:=fun ty=>run_next_any w1 s pos ty hp
    have hne:s.data.toList.drop pos≠[]:=by rw [drop_cons s pos hp];simp
    rw [pn_step hne (by rw [List.length_drop];omega),Lib.decodeL_drop,List.drop_drop] at hc
    have hwd:1≤(Utf8.decode s pos).2:=by rw [←Lib.decodeL_drop];exact Lib.decodeL_width _
    generalize (Utf8.decode s pos).1=r at hnx hc
    generalize (Utf8.decode s pos).2=q at hnx hc hwd
    have cB:=mayBegin_any r
    have cF:=mayFollow_any r
    have hgo:∀ (hok:okr (decide (pos=0)) r=true),pn (f - 1) (decide (pos+q=0)) (s.data.toList.drop (pos+q))=R:=by
     intro hok
     rw [if_pos hok] at hc
     rw [show decide (pos+q=0)=false by simp;omega]
     exact hc
    have hno:okr (decide (pos=0)) r=false→R=false:=by
     intro hok
     rw [hok] at hc
     exact hc.symm
    unfold okr at hgo hno
    clear hc hne
    cases hB:mb r with
    | true =>
     rw [hB] at cB hgo
     have hc:=hgo (by simp)
     clear hgo hno cF hB
     go_wp2_with fail
     refine (cB _).mono ?_
     rintro e w' ⟨rfl,rfl⟩
     go_wp2_with fail
     go_roundw
     case rel=>exact ⟨pos+q,f - 1,rfl,by omega,hc⟩
     case measure=>simp;omega
    | false =>
     rw [hB] at cB hgo hno
     by_cases h0:pos=0
     ·have hR2:=hno (by simp [h0])
      subst hR2
      have h0b:(((pos:Nat):Int) == 0)=true:=by simp [h0]
      clear hgo hno cF hB h0
      go_wp2_with fail
      refine (cB _).mono ?_
      rintro e w' ⟨rfl,rfl⟩
      go_wp2_with fail
      go_ret
      exact ⟨rfl,hbi _⟩
     ·have h0b:(((pos:Nat):Int) == 0)=false:=by simp;omega
      cases hF:mf r with
      | true =>
       rw [hF] at cF hgo
       have hc:=hgo (by simp [h0])
       clear hgo hno hB hF
       go_wp2_with fail
       refine (cB _).mono ?_
       rintro e w' ⟨rfl,rfl⟩
       go_wp2_with fail
       refine (cF _).mono ?_
       rintro e w' ⟨rfl,rfl⟩
       go_wp2_with fail
       go_roundw
       case rel=>exact ⟨pos+q,f - 1,rfl,by omega,hc⟩
       case measure=>simp;omega
      | false =>
       rw [hF] at cF hno
       have hR2:=hno (by simp)
       subst hR2
       clear hgo hno hB hF
       go_wp2_with fail
       refine (cB _).mono ?_
       rintro e w' ⟨rfl,rfl⟩
       go_wp2_with fail
       refine (cF _).mono ?_
       rintro e w' ⟨rfl,rfl⟩
       go_wp2_with fail
       go_ret
       exact ⟨rfl,hbi _⟩
   ·have hnx:∀ ty,(Instr.next (.pointer (some ⟨w1.heap.size,0,none⟩)) true ty).run Tryz.prog (w1.iter s pos)=_:=fun ty=>run_next_end w1 s pos ty hp
    rw [drop_end s pos hp,pn_nil] at hc
    subst hc
    go_wp2_with fail
    go_ret
    exact ⟨rfl,hbi _⟩
theorem name_any {w:World} (hV:Vs w) (s:ByteArray) (hs:s.size≤140737488355328) :
  Calls Tryz.prog 169 #[.string s] w fun e w'=>e=.returned (.bool (nam s.data.toList))∧Below w.heap.size w w':=by
 unfold nam
 rw [text_len]
 by_cases h:1≤s.size∧s.size≤32
 ·rw [decide_eq_true h,Bool.true_and]
  exact name_len hV s h.1 h.2
 ·rw [decide_eq_false h,Bool.false_and]
  by_cases h1:s.size < 1
  ·have z1:(s.size:Int) < 1:=by omega
   go_enter Tryz.func169,Tryz.ntmps169
   go_wp2_with fail
   go_ret
   exact ⟨rfl,Below.refl _ _⟩
  ·have z1:¬ (s.size:Int) < 1:=by omega
   have z2:(32:Int) < s.size:=by omega
   go_enter Tryz.func169,Tryz.ntmps169
   go_wp2_with fail
   go_ret
   exact ⟨rfl,Below.refl _ _⟩
end Go.Proofs.YtdigofgjhaakmaaGreatDoor
namespace Go.Proofs.YtdigofgjhaakmaaGreatDoor
open Go.RowKit
open Ad
open Sm (IsBytes)
abbrev ab (l:List Int):Array Value:=(l.map (Value.int .u8)).toArray
end Go.Proofs.YtdigofgjhaakmaaGreatDoor
namespace Go.Proofs.YtdigofgjhaakmaaGreatDoor
open Go.RowKit
open Ad
namespace Va
def fnz:List Int→Int
 | []=>0
 | x::r=>if x=0 then fnz r else x
def ul (e:Int) (ok:Bool):Int:=if ok then 0 else e
def wn (e:Int) (bad:Bool):Int:=ul e (!bad)
def wi (n a b:Int):Bool:=decide (a≤n) && decide (n≤b)
def hs (l:List Int) (x:Int):Bool:=l.any (fun y=>x == y)
def bad (l:List Int) (i:Nat):Prop:=l.getD i 0=0∨hs (l.take i) (l.getD i 0)=true
instance (l:List Int) (i:Nat):Decidable (bad l i):=by unfold bad;infer_instance
def unl (l:List Int):Bool:=decide (∀ i,i < l.length→¬ bad l i)
def ow1 (t:Ten) (f:Int→Bool):Bool:=t.pool.any f || t.stat.any (fun p=>f p.2)
def owns (t:Ten) (x:Int):Bool:=ow1 t (fun y=>y == x)
def fst' (l:List (Int×Int)):List Int:=l.map Prod.fst
def snd' (l:List (Int×Int)):List Int:=l.map Prod.snd
def trs (t:Ten):List Int :=
 [ul 90 (nam t.name.data.toList),ul 91 (wi t.vni 1 16777215),ul 92 (decide ((t.pool.length:Int)≤8)),ul 92 (unl t.pool),ul 93 (wi t.lo 1 t.hi),ul 94 (wi t.filter 0 2),
  ul 94 (decide ((t.stat.length:Int)≤16)),ul 94 (decide ((t.twi.length:Int)≤16)),ul 94 (unl (fst' t.stat) && unl (snd' t.stat)),ul 94 (unl (fst' t.twi) && unl (snd' t.twi)),
  wn 94 ((snd' t.stat).any (hs t.pool)),wn 94 ((fst' t.twi).any (owns t)),ul 95 (wi t.sess 1 256),ul 95 (wi t.queue 1 64),ul 95 (decide (t.rate≤1000000)),ul 95 (wi t.burst 1 1000000),ul 96 (t.vtep != 0)]
def tchk (t:Ten):Int:=fnz (trs t)
def lss (a b:ByteArray):Bool:=Op.bytesLess a.toList b.toList
def grs (c:Cgf):List Int:=[ul 96 (c.ip != 0),ul 96 (decide (c.drain≤1000)),ul 96 (decide ((c.ten.length:Int)≤16))]
def prs (ip:Int) (ahead:List Ten) (t:Ten):List Int :=
 [tchk t,ul 90 (ahead.length == 0 || lss (ahead.getD (ahead.length - 1) ten0).name t.name),wn 91 (ahead.any (fun o=>o.vni == t.vni)),wn 92 (ow1 t (fun x=>x == ip || ahead.any (fun o=>owns o x)))]
def pchk (c:Cgf) (i:Nat):Int:=fnz (prs c.ip (c.ten.take i) (c.ten.getD i ten0))
def pfrom (c:Cgf) (i n:Nat):Int:=fnz ((List.range' i n).map (pchk c))
def chk (c:Cgf):Int:=if fnz (grs c)=0 then pfrom c 0 c.ten.length else fnz (grs c)
theorem pfrom_succ (c:Cgf) (i n:Nat):pfrom c i (n+1)=if pchk c i=0 then pfrom c (i+1) n else pchk c i:=by
 unfold pfrom;rw [List.range'_succ,List.map_cons,fnz]
theorem fnz_cons (x:Int) (r:List Int):fnz (x::r)=if x=0 then fnz r else x:=rfl
theorem fnz_yes {x:Int} {r:List Int} (h:x=0):fnz (x::r)=fnz r:=by rw [fnz_cons,if_pos h]
theorem fnz_no {x:Int} {r:List Int} (h:x≠0):fnz (x::r)=x:=by rw [fnz_cons,if_neg h]
theorem fnz_zero {l:List Int}:fnz l=0 ↔ ∀ x∈l,x=0:=by
 induction l with
 | nil=>simp [fnz]
 | cons x r ih =>
  rw [fnz_cons]
  by_cases h:x=0
  ·rw [if_pos h,ih];simp [h]
  ·rw [if_neg h];simp [h]
theorem ul_zero {e:Int} (he:e≠0) {b:Bool}:ul e b=0 ↔ b=true:=by cases b <;> simp [ul,he]
theorem hs_iff {l:List Int} {x:Int}:hs l x=true ↔ x∈l:=by
 unfold hs
 rw [List.any_eq_true]
 exact ⟨fun ⟨y,h,e⟩=>by rw [beq_iff_eq] at e;subst e;exact h,fun h=>⟨x,h,beq_self_eq_true x⟩⟩
theorem ow1_iff {t:Ten} {f:Int→Bool}:ow1 t f=true ↔ ∃ x,x∈t.pool++snd' t.stat∧f x=true:=by
 unfold ow1 snd'
 rw [Bool.or_eq_true,List.any_eq_true,List.any_eq_true]
 constructor
 ·rintro (⟨x,h,e⟩ | ⟨p,h,e⟩)
  ·exact ⟨x,List.mem_append_left _ h,e⟩
  ·exact ⟨p.2,List.mem_append_right _ (List.mem_map_of_mem h),e⟩
 ·rintro ⟨x,h,e⟩
  rcases List.mem_append.mp h with h | h
  ·exact Or.inl ⟨x,h,e⟩
  ·obtain ⟨p,hp,rfl⟩:=List.mem_map.mp h
   exact Or.inr ⟨p,hp,e⟩
theorem owns_iff {t:Ten} {x:Int}:owns t x=true ↔ x∈t.pool++snd' t.stat:=by
 unfold owns
 rw [ow1_iff]
 exact ⟨fun ⟨y,h,e⟩=>by rw [beq_iff_eq] at e;subst e;exact h,fun h=>⟨x,h,beq_self_eq_true x⟩⟩
end Va
end Go.Proofs.YtdigofgjhaakmaaGreatDoor
