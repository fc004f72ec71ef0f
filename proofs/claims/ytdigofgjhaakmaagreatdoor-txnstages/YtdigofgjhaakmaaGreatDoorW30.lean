/-
  Which settings may be: the document's own error of a tenant.
  Settings copied (txn.copied): lists of the call's own.
  Names, and whether a change can be staged (isName, fits).
  Which settings may be: settings in a box; the gateway's rules.
  Settings as text: the program's reader: the first line.
  What is changed: the calls as they speak of tenants.
-/
import Derived.Test.YtdigofgjhaakmaaGreatDoorW28
import Derived.Test.YtdigofgjhaakmaaGreatDoorW29
import Derived.Test.YtdigofgjhaakmaaGreatDoorW24
import Derived.Test.YtdigofgjhaakmaaGreatDoorW25
import Derived.Test.YtdigofgjhaakmaaGreatDoorW21
import Derived.Test.YtdigofgjhaakmaaGreatDoorW26
set_option linter.unusedVariables false
set_option linter.unusedSimpArgs false
set_option maxRecDepth 20000
set_option maxHeartbeats 40000000
namespace Go.Proofs.YtdigofgjhaakmaaGreatDoor
open Go.RowKit
open Va
open Ad (nam)
structure TC (X:World) (g:Nat) (t:Ten) (pa sa qa:Option Addr) (pc sc qc:Nat):Prop where
 name:X.cell? ⟨g,0,none⟩=some (.string t.name)
 vni:X.cell? ⟨g,1,none⟩=some (.int .u32 t.vni)
 vtep:X.cell? ⟨g,10,none⟩=some (.int .u32 t.vtep)
 pool:X.cell? ⟨g,23,none⟩=some (.slice pa t.pool.length pc)
 lo:X.cell? ⟨g,24,none⟩=some (.int .u16 t.lo)
 hi:X.cell? ⟨g,25,none⟩=some (.int .u16 t.hi)
 filter:X.cell? ⟨g,26,none⟩=some (.int .i64 t.filter)
 stat:X.cell? ⟨g,27,none⟩=some (.slice sa t.stat.length sc)
 twi:X.cell? ⟨g,28,none⟩=some (.slice qa t.twi.length qc)
 sess:X.cell? ⟨g,29,none⟩=some (.int .i64 t.sess)
 queue:X.cell? ⟨g,30,none⟩=some (.int .i64 t.queue)
 rate:X.cell? ⟨g,31,none⟩=some (.int .u32 t.rate)
 burst:X.cell? ⟨g,32,none⟩=some (.int .u32 t.burst)
end Go.Proofs.YtdigofgjhaakmaaGreatDoor
namespace Go.Proofs.YtdigofgjhaakmaaGreatDoor
open Go.RowKit
open Sm
open Cf
open Df
section
variable {w V:World} {t:Ten} {p s q:Value} {g:Nat} {K:List (Nat×Obj)}
theorem cp1 (hl:TLen t) (r1:Rw w 1 p (ux t.pool)) (f1:t.pool.length≤1000000) (hV:Mem w V ((g,.cells (tc t p s q).toArray 46)::K)) :
 V.cell? ⟨g,23,none⟩=some p∧∃ a m c V' B,(Builtin.append_ #[43,43] 43 #[.slice none 0 0,p]).run Tryz.prog V=.ok (.slice a m c) V'∧V'.frozen? ⟨g,23,none⟩=false∧V'.cell? ⟨g,23,none⟩=some p ∧
  OwB 33 1 (.slice a m c) t.pool.length (ux t.pool).flatten B∧Mem w (V'.setCell ⟨g,23,none⟩ (.slice a m c)) ((g,.cells (tc t (.slice a m c) s q).toArray 46)::(B++K)):=by
 have u1:(ux t.pool).length=t.pool.length:=by simp [ux]
 obtain ⟨v',V',hrun,hO⟩:=append_none_g (ty:=43) hV Tryz.underlying43 infoU rfl (by decide) (r1.below ux_ne hV.below (Nat.le_refl _)) ux_sz ux_oc (by unfold maxLen;omega) (by omega)
 rw [u1] at hO
 obtain ⟨B,hB,hM⟩:=hO.owb
 obtain ⟨a,m,c,rfl⟩:=owb_slice hB
 have hM2:Mem w V' ((g,.cells (tc t p s q).toArray 46)::(B++K)):=hM.perm List.perm_middle
 have:=mem_set_in hM 23 (.slice a m c)
 rw [tc_set23 hl] at this
 exact ⟨by rw [hV.cell 0 rfl];exact (tc_at hl p s q).2.1,a,m,c,V',B,hrun,hM2.free 0 rfl 23,by rw [hM2.cell 0 rfl];exact (tc_at hl p s q).2.1,hB,this⟩
theorem cp2 (hl:TLen t) (r1:Rw w 2 s (px t.stat)) (f1:t.stat.length≤1000000) (hV:Mem w V ((g,.cells (tc t p s q).toArray 46)::K)) :
 V.cell? ⟨g,27,none⟩=some s∧∃ a m c V' B,(Builtin.append_ #[44,44] 44 #[.slice none 0 0,s]).run Tryz.prog V=.ok (.slice a m c) V'∧V'.frozen? ⟨g,27,none⟩=false∧V'.cell? ⟨g,27,none⟩=some s ∧
  OwB 122 2 (.slice a m c) t.stat.length (px t.stat).flatten B∧Mem w (V'.setCell ⟨g,27,none⟩ (.slice a m c)) ((g,.cells (tc t p (.slice a m c) q).toArray 46)::(B++K)):=by
 have u1:(px t.stat).length=t.stat.length:=by simp [px]
 obtain ⟨v',V',hrun,hO⟩:=append_none_g (ty:=44) hV Tryz.underlying44 infoP rfl (by decide) (r1.below px_ne hV.below (Nat.le_refl _)) px_sz px_oc (by unfold maxLen;omega) (by omega)
 rw [u1] at hO
 obtain ⟨B,hB,hM⟩:=hO.owb
 obtain ⟨a,m,c,rfl⟩:=owb_slice hB
 have hM2:Mem w V' ((g,.cells (tc t p s q).toArray 46)::(B++K)):=hM.perm List.perm_middle
 have:=mem_set_in hM 27 (.slice a m c)
 rw [tc_set27 hl] at this
 exact ⟨by rw [hV.cell 0 rfl];exact (tc_at hl p s q).2.2.1,a,m,c,V',B,hrun,hM2.free 0 rfl 27,by rw [hM2.cell 0 rfl];exact (tc_at hl p s q).2.2.1,hB,this⟩
theorem cp3 (hl:TLen t) (r1:Rw w 2 q (px t.twi)) (f1:t.twi.length≤1000000) (hV:Mem w V ((g,.cells (tc t p s q).toArray 46)::K)) :
 V.cell? ⟨g,28,none⟩=some q∧∃ a m c V' B,(Builtin.append_ #[44,44] 44 #[.slice none 0 0,q]).run Tryz.prog V=.ok (.slice a m c) V'∧V'.frozen? ⟨g,28,none⟩=false∧V'.cell? ⟨g,28,none⟩=some q ∧
  OwB 122 2 (.slice a m c) t.twi.length (px t.twi).flatten B∧Mem w (V'.setCell ⟨g,28,none⟩ (.slice a m c)) ((g,.cells (tc t p s (.slice a m c)).toArray 46)::(B++K)):=by
 have u1:(px t.twi).length=t.twi.length:=by simp [px]
 obtain ⟨v',V',hrun,hO⟩:=append_none_g (ty:=44) hV Tryz.underlying44 infoP rfl (by decide) (r1.below px_ne hV.below (Nat.le_refl _)) px_sz px_oc (by unfold maxLen;omega) (by omega)
 rw [u1] at hO
 obtain ⟨B,hB,hM⟩:=hO.owb
 obtain ⟨a,m,c,rfl⟩:=owb_slice hB
 have hM2:Mem w V' ((g,.cells (tc t p s q).toArray 46)::(B++K)):=hM.perm List.perm_middle
 have:=mem_set_in hM 28 (.slice a m c)
 rw [tc_set28 hl] at this
 exact ⟨by rw [hV.cell 0 rfl];exact (tc_at hl p s q).2.2.2,a,m,c,V',B,hrun,hM2.free 0 rfl 28,by rw [hM2.cell 0 rfl];exact (tc_at hl p s q).2.2.2,hB,this⟩
end
theorem cc_28 {c:Cgf} (h:CLen c) (u:Value):(cc c u).toArray[28]? = some u:=by
 obtain ⟨A,hA,e⟩:∃ A:List Value,A.length=28∧∀ u,cc c u=A++[u]:=⟨.int .u32 c.ip::(c.mac.map (Value.int .u8)++(c.omac.map (Value.int .u8)++(c.nmac.map (Value.int .u8)++(c.key.map (Value.int .u8)++[.int .u32 c.drain])))),by simp [h.mac,h.omac,h.nmac,h.key],fun u=>by simp [cc]⟩
 rw [e,List.getElem?_toArray,List.getElem?_append_right (by omega),hA];rfl
theorem cc_set28 {c:Cgf} (h:CLen c) (u v:Value):(cc c u).toArray.setIfInBounds 28 v=(cc c v).toArray:=by
 obtain ⟨A,hA,e⟩:∃ A:List Value,A.length=28∧∀ u,cc c u=A++[u]:=⟨.int .u32 c.ip::(c.mac.map (Value.int .u8)++(c.omac.map (Value.int .u8)++(c.nmac.map (Value.int .u8)++(c.key.map (Value.int .u8)++[.int .u32 c.drain])))),by simp [h.mac,h.omac,h.nmac,h.key],fun u=>by simp [cc]⟩
 rw [e,e]
 simp [List.set_append_right,hA]
theorem cop_any {w:World} {c:Cgf} {u:Value} {zs:List Tv} (hcl:CLen c) (hz:ZV w u zs) (hf:∀ z∈zs,TFew z.1) (hm:zs.length≤1000) :
 Calls Tryz.prog 51 #[.agg (cc c u).toArray] w fun e V=>∃ u',e=.returned (.agg (cc c u').toArray)∧∃ B C,TsB u' (zs.map Prod.fst) B C∧Mem w V (B++C):=by
 obtain ⟨sa,sc,rfl,hlc,hcb,hx⟩:=hz.parts
 obtain ⟨N,hN⟩:∃ N,zs.length=N:=⟨_,rfl⟩
 have HX:Hid (∀ i (hi:i < zs.length),(∃ b off,sa=some ⟨b,off,none⟩∧∀ V,Below w.heap.size w V→V.rangeAt b (off+i * 33) (zc zs[i]))∧TLen zs[i].1∧(zc zs[i]).toArray.all (·.oneCell')=true∧TFew zs[i].1∧∀ V,Below w.heap.size w V→Rws V zs[i]):=by
  intro i hi
  have hm:=List.getElem_mem hi
  exact ⟨hx i hi,(hz.each _ hm).1,zc_all (hz.each _ hm).2,hf _ hm,fun V hV=>Rws.at_ (hz.each _ hm).2 hV⟩
 have HT:Hid (∀ j (hj:j < zs.length),(zs.map Prod.fst).take (j+1)=(zs.map Prod.fst).take j++[zs[j].1]):=by
  intro j hj
  rw [List.take_add_one,List.getElem?_map,List.getElem?_eq_getElem hj]
  rfl
 have HTE:Hid ((zs.map Prod.fst).take zs.length=zs.map Prod.fst):=by show _=_;rw [List.take_of_length_le (by simp)]
 obtain ⟨g,hg⟩:∃ g,w.heap.size=g:=⟨_,rfl⟩
 obtain ⟨A,hA⟩:∃ A,(cc c (.slice sa zs.length sc)).toArray=A:=⟨_,rfl⟩
 have hA28:A[28]? = some (.slice sa zs.length sc):=by rw [←hA];exact cc_28 hcl _
 have hAsz:A.size=29:=by rw [←hA,List.size_toArray];exact cc_len hcl _
 have HAS:Hid (∀ v,A.setIfInBounds 28 v=(cc c v).toArray):=by intro v;rw [←hA];exact cc_set28 hcl _ _
 have HM0:Hid (Mem w ((w.alloc (.cells A 39)).alloc (.cells cz 39)) [(g,.cells A 39),(g+1,.cells cz 39)]):=by
  have:=two_blocks' w (.cells A 39) (.cells cz 39)
  rw [hg] at this
  exact this.perm (List.Perm.swap _ _ _)
 rw [hA]
 rw [hN] at hA28 hlc hm HTE
 simp only [hN] at HX HT
 clear hz hf hx hA
 go_enter Tryz.func51,Tryz.ntmps51
 go_upto_region 1 with fail
 refine wp_letter (fun X=>Mem w X [(g,.cells A 39),(g+1,.cells cz 39)]) (by exact HM0.out) ?_
 intro V0 hM0
 try simp only [hg]
 clear HM0 hg
 have c28:V0.cell? ⟨g,28,none⟩=some (.slice sa N sc):=by rw [hM0.cell 0 rfl];exact hA28
 have H0:Hid (Ow w V0 46 33 (.slice none 0 0) ([]:List Tv).length ((([]:List Tv)).map zc).flatten [(g,.cells A 39),(g+1,.cells cz 39)]):=Ow.nil hM0
 clear hM0
 go_wp2_with fail
 go_loopw [3,9] (fun u3 u9 w'=>∃ (j:Nat) (a:Option Addr) (m c:Nat) (xs:List Tv) (C:List (Nat×Obj)),j≤N∧u9=.int .i64 j∧u3=.slice a m c∧Hid (Ow w w' 46 33 (.slice a m c) xs.length (xs.map zc).flatten ((g,.cells A 39)::(g+1,.cells cz 39)::C)∧(∀ z∈xs,ZB z C)∧xs.map Prod.fst=(zs.map Prod.fst).take j∧xs.length=j)) (fun u3 u9 w'=>N - (intOf u9).toNat)
 case atStart=>exact ⟨0,none,0,0,[],[],Nat.zero_le _,rfl,rfl,H0.out,by simp,by simp,rfl⟩
 case round =>
  obtain ⟨j,a,m,c',xs,C,hj,rfl,rfl,HR⟩:=hrel
  clear H0
  by_cases hlt:j < N
  ·have h1:(j:Int) < N:=by omega
   obtain ⟨⟨b,off,rfl,hV⟩,hl,ho,hfw,hrr⟩:=HX.out j hlt
   obtain ⟨hO,hZB,hfst,hxl⟩:=HR.out
   have hbW:=hO.mem.below
   have hra:=hV _ hbW
   have hT:=HT.out j hlt
   have hr:=hrr _ hbW
   clear hV HX HT HTE HR hrr
   have hjM:j < zs.length:=by omega
   generalize zs[j]'hjM=z at *
   obtain ⟨t,p,s,q⟩:=z
   obtain ⟨r1,r2,r3⟩:=hr
   obtain ⟨f1,f2,f3⟩:=hfw
   simp only at hl r1 r2 r3 f1 f2 f3
   have hi33:(Tryz.prog.info? 46).map (·.size)=some (zc (t,p,s,q)).length:=by rw [show (zc (t,p,s,q)).length=33 from tc_len hl _ _ _];kernel_rfl
   have hj33:(Tryz.prog.info? 46).map (·.size)=some (zc (t,p,s,q)).toArray.size:=by rw [List.size_toArray];exact hi33
   have hs33:(tz:Array Value).size=(zc (t,p,s,q)).toArray.size:=by rw [show (zc (t,p,s,q)).toArray.size=33 by rw [List.size_toArray];exact tc_len hl _ _ _];rfl
   obtain ⟨g5,hg5⟩:∃ g,wr.heap.size=g:=⟨_,rfl⟩
   have hk5:(wr.alloc (.cells tz 46)).heap[g5]? = some (.cells tz 46):=by rw [←hg5];exact heap_alloc_new _ _
   have HF0:Hid (Mem wr ((wr.alloc (.cells tz 46)).setRow g5 (zc (t,p,s,q)).toArray) [(g5,.cells (tc t p s q).toArray 46)]):=by
    rw [←hg5,World.setRow_alloc_new];exact (Mem.nil wr).push1 rfl
   have HF:Hid (∀ (z':Tv) (C':List (Nat×Obj)) (V:World),z'.1=t→ZB z' C'→Mem wr V C'→(Instr.buildSlice 37 1 #[(0,tv z')]).run Tryz.prog V=.ok (.slice (some ⟨V.heap.size,0,none⟩) 1 1) (V.alloc (.cells (zc z').toArray 46)) ∧
    ∃ a' m' d' V',(Builtin.append_ #[37,37] 37 #[.slice a m c',.slice (some ⟨V.heap.size,0,none⟩) 1 1]).run Tryz.prog (V.alloc (.cells (zc z').toArray 46))=.ok (.slice a' m' d') V' ∧
    Ow w V' 46 33 (.slice a' m' d') (xs++[z']).length ((xs++[z']).map zc).flatten ((g,.cells A 39)::(g+1,.cells cz 39)::(C++C'))∧(∀ z∈xs++[z'],ZB z (C++C'))∧(xs++[z']).map Prod.fst=(zs.map Prod.fst).take (j+1)∧(xs++[z']).length=j+1):=by
    intro z' C' V k1 k2 k3
    refine ⟨bsliceT z' k2.1 V,?_⟩
    obtain ⟨a',m',d',V',e1,e2,e3⟩:=ow_ten hO (fun z h=>(hZB z h).more fun x hx=>by simp [hx]) k3 k2 (by omega) rfl
    refine ⟨a',m',d',V',e1,e2,fun y hy=>?_,?_,by rw [List.length_append,hxl];rfl⟩
    ·rcases List.mem_append.1 hy with hy | hy
     ·exact (hZB y hy).more fun x hx=>by simp [hx]
     ·rw [List.mem_singleton] at hy
      subst hy
      exact k2.more fun x hx=>by simp [hx]
    ·rw [hT,List.map_append,hfst,List.map_singleton,k1]
   clear hO hZB hfst hxl hbW hT
   go_upto_region 5 with (first | (refine wpList_load_mid rfl 46 (.tmp 11) (by with_reducible rfl) b (off+j * 33) (by simp [Act.eval]) (zc (t,p,s,q)) _ hra Tryz.underlying46 rfl hi33 ?_) | (refine wpList_store_row rfl 46 (.tmp 5) (.tmp 12) (by with_reducible rfl) g5 (zc (t,p,s,q)).toArray (by simp [Act.eval];try exact hg5) (by first | rfl | simp [Act.eval]) 46 tz hk5 hj33 hs33 ho ?_) | fail)
   refine wp_letter (fun X=>Mem wr X [(g5,.cells (tc t p s q).toArray 46)]) (by exact HF0.out) ?_
   intro V1 hM1
   try simp only [hg5]
   clear HF0 hk5 hra hi33 hj33 hs33 ho hg5
   obtain ⟨c1,a1,m1,d1,V2,B1,hr1,hf1,hc1,hB1,hM2⟩:=cp1 hl r1 f1 hM1
   clear hM1
   go_upto_region 6 with (first | (at_builtin;refine wpList_append_run _ (.tmp 14) 43 43 (by with_reducible rfl) hr1 rfl rfl (by first | rfl | simp [Act.eval]) (by first | rfl | simp [Act.eval]) ?_) | fail)
   clear hr1 c1 hf1 hc1
   generalize V2.setCell ⟨g5,23,none⟩ (.slice a1 m1 d1)=V3 at *
   obtain ⟨c2,a2,m2,d2,V4,B2,hr2,hf2,hc2,hB2,hM3⟩:=cp2 hl r2 f2 hM2
   clear hM2
   go_upto_region 7 with (first | (at_builtin;refine wpList_append_run _ (.tmp 18) 44 44 (by with_reducible rfl) hr2 rfl rfl (by first | rfl | simp [Act.eval]) (by first | rfl | simp [Act.eval]) ?_) | fail)
   clear hr2 c2 hf2 hc2
   generalize V4.setCell ⟨g5,27,none⟩ (.slice a2 m2 d2)=V5 at *
   obtain ⟨c3,a3,m3,d3,V6,B3,hr3,hf3,hc3,hB3,hM4⟩:=cp3 hl r3 f3 hM3
   clear hM3
   go_upto_region 8 with (first | (at_builtin;refine wpList_append_run _ (.tmp 22) 44 44 (by with_reducible rfl) hr3 rfl rfl (by first | rfl | simp [Act.eval]) (by first | rfl | simp [Act.eval]) ?_) | fail)
   clear hr3 c3 hf3 hc3
   generalize V6.setCell ⟨g5,28,none⟩ (.slice a3 m3 d3)=V7 at *
   have k5:=hM4.get 0 rfl
   obtain ⟨hbs,a',m',d',V8,hr8,hOF⟩:=HF.out (t,.slice a1 m1 d1,.slice a2 m2 d2,.slice a3 m3 d3) ((g5,.cells (tc t (.slice a1 m1 d1) (.slice a2 m2 d2) (.slice a3 m3 d3)).toArray 46)::(B3++(B2++(B1++[])))) V7 rfl ⟨hl,B1,B2,B3,fun x hx=>by rw [List.append_nil];exact List.mem_cons_of_mem _ hx,hB1,hB2,hB3⟩ hM4
   obtain ⟨A3,hA3⟩:∃ A,(tc t (.slice a1 m1 d1) (.slice a2 m2 d2) (.slice a3 m3 d3)).toArray=A:=⟨_,rfl⟩
   have hsz:A3.size=33:=by rw [←hA3,List.size_toArray];exact tc_len hl _ _ _
   have i33:(Tryz.prog.info? 46).map (·.size)=some A3.size:=by rw [hsz];kernel_rfl
   have eT:tv (t,.slice a1 m1 d1,.slice a2 m2 d2,.slice a3 m3 d3)=.agg A3:=by rw [←hA3];rfl
   rw [eT] at hbs
   rw [hA3] at k5
   generalize hzz:((t,.slice a1 m1 d1,.slice a2 m2 d2,.slice a3 m3 d3):Tv)=z' at *
   have HO2:Hid (∃ (j':Nat) (a:Option Addr) (m c:Nat) (xs:List Tv) (C:List (Nat×Obj)),j'≤N∧Value.int .i64 ((j+1:Nat):Int)=.int .i64 j'∧Value.slice a' m' d'=.slice a m c∧Hid (Ow w V8 46 33 (.slice a m c) xs.length (xs.map zc).flatten ((g,.cells A 39)::(g+1,.cells cz 39)::C)∧(∀ z∈xs,ZB z C)∧xs.map Prod.fst=(zs.map Prod.fst).take j'∧xs.length=j')):=⟨j+1,a',m',d',xs++[z'],_,by omega,rfl,rfl,hOF⟩
   clear hOF hM4 hB1 hB2 hB3 HF hA3 r1 r2 r3 hzz eT hsz
   go_wp2_with (first | (refine wpList_load_row rfl 46 (.tmp 5) (by with_reducible rfl) g5 (by first | rfl | simp [Act.eval]) 46 A3 (0,0) _ k5 Tryz.underlying46 rfl i33 ?_) | (refine wpList_bsl rfl 37 1 #[(0,.tmp 26)] (by with_reducible rfl) hbs (by simp [Act.eval,Act.put]) ?_) | (at_builtin;refine wpList_append_run (.tmp 25) (.tmp 27) 37 37 (by with_reducible rfl) hr8 rfl rfl (by first | rfl | simp [Act.eval]) (by first | rfl | simp [Act.eval]) ?_) | fail)
   go_roundw
   case rel =>
    obtain ⟨j',b1,b2,b3,b4,b5,b6,b7,b8,b9⟩:=HO2.out
    exact ⟨j',b1,b2,b3,b4,b5,b6,by rw [←b7];go_num,b8,b9⟩
   case measure=>simp [intOf];omega
  ·have h1:¬ ((j:Int) < N):=by omega
   obtain rfl:j=N:=by omega
   obtain ⟨hO,hZB,hfst,hxl⟩:=HR.out
   obtain ⟨B,hB,hM⟩:=hO.owb
   have hM2:Mem w wr ((g,.cells A 39)::(g+1,.cells cz 39)::(B++C)):=hM.perm (by classical rw [List.perm_iff_count];intro z;simp only [List.count_append,List.count_cons];omega)
   have f28:=hM2.free 0 rfl 28
   have d28:wr.cell? ⟨g,28,none⟩=some (.slice sa j sc):=by rw [hM2.cell 0 rfl];exact hA28
   have hM3:=hM2.set 0 rfl 28 (.slice a m c')
   simp only [List.set_cons_zero] at hM3
   rw [HAS.out] at hM3
   obtain ⟨A2,hA2⟩:∃ A2,(cc c (.slice a m c')).toArray=A2:=⟨_,rfl⟩
   have hsz:A2.size=29:=by rw [←hA2,List.size_toArray];exact cc_len hcl _
   have hone:A2.all (·.oneCell')=true:=by rw [←hA2];exact cc_one c rfl
   have i29:(Tryz.prog.info? 39).map (·.size)=some A2.size:=by rw [hsz];kernel_rfl
   have z29:(cz:Array Value).size=A2.size:=by rw [hsz];rfl
   rw [hA2] at hM3
   have HM3:Hid (Mem w (wr.setCell ⟨g,28,none⟩ (.slice a m c')) ((g,.cells A2 39)::(g+1,.cells cz 39)::(B++C))):=hM3
   have HTS:Hid (TsB (.slice a m c') (zs.map Prod.fst) B C∧(cc c (.slice a m c')).toArray=A2):=⟨⟨xs,by rw [hfst,HTE.out],hB,hZB⟩,hA2⟩
   clear hO hZB hfst hxl hM hM2 hM3 HR HX HT HTE hA2 hB HAS
   go_upto_region 11 with fail
   refine wp_letter (fun X=>Mem w X ((g,.cells A2 39)::(g+1,.cells cz 39)::(B++C))) (by exact HM3.out) ?_
   intro V9 hM
   clear HM3 f28 d28
   have k1:=hM.get 0 rfl
   have k2:=hM.get 1 rfl
   have hM6:=hM.wrote 1 rfl (wrote_setRow V9 (g+1) _ A2 _ k2)
   have HQ:Hid ((V9.setRow (g+1) A2).heap[g+1]? = some (.cells A2 39)∧∃ u',Ending.returned (.agg A2)=.returned (.agg (cc c u').toArray)∧∃ B C,TsB u' (zs.map Prod.fst) B C∧Mem w (V9.setRow (g+1) A2) (B++C)) :=
    ⟨hM6.get 1 rfl,.slice a m c',by rw [HTS.out.2],B,C,HTS.out.1,hM6.sub.sub⟩
   clear hM hM6 HTS
   go_wp2_with (first | (refine wpList_load_row rfl 39 (.tmp 1) (by with_reducible rfl) g (by first | rfl | simp [Act.eval]) 39 A2 (0,0) _ k1 Tryz.underlying39 rfl i29 ?_) | (refine wpList_store_row rfl 39 (.tmp 2) (.tmp 32) (by with_reducible rfl) (g+1) A2 (by first | rfl | simp [Act.eval]) (by first | rfl | simp [Act.eval]) 39 cz k2 i29 z29 hone ?_) | fail)
   refine bodyPost_ret (v:=.agg A2) ?_ rfl HQ.out.2
   exact results_cell_row (p:=2) (ty:=39) rfl _ _ (g+1) 39 _ (0,0) _ rfl HQ.out.1 Tryz.underlying39 rfl i29
end Go.Proofs.YtdigofgjhaakmaaGreatDoor
namespace Go.Proofs.YtdigofgjhaakmaaGreatDoor
open Go.RowKit
open Sm
open Cf
open Df
open Va
open Ad
theorem tchk_name (s:ByteArray):(tchk { ten0 with name:=s } == 90)=!(nam s.data.toList):=by
 obtain ⟨R,hR⟩:∃ R,tchk { ten0 with name:=s }=fnz (ul 90 (nam s.data.toList)::ul 91 (wi 0 1 16777215)::R):=⟨_,rfl⟩
 rw [hR]
 generalize nam s.data.toList=r
 cases r <;> rfl
theorem tv_name (w:World) (s:ByteArray):TV w (.agg (tc { ten0 with name:=s } nilV nilV nilV).toArray) { ten0 with name:=s }:=by
 have h:=rws_nil w { ten0 with name:=s } rfl rfl rfl
 exact ⟨⟨rfl,rfl,rfl⟩,nilV,nilV,nilV,rfl,h.1,h.2.1,h.2.2⟩
theorem isName_any {w:World} (hv:Vs w) (s:ByteArray) (hs:s.size≤1000000):Calls Tryz.prog 75 #[.string s] w fun e V=>e=.returned (.bool (nam s.data.toList))∧Below w.heap.size w V:=by
 have C:=tenant14_any hv (tv_name w s) ⟨hs,Nat.zero_le _,Nat.zero_le _,Nat.zero_le _⟩
 have hk:=tchk_name s
 generalize nam s.data.toList=r at hk ⊢
 generalize tchk { ten0 with name:=s }=k at C hk
 go_enter Tryz.func75,Tryz.ntmps75
 go_wp2_with fail
 refine C.mono ?_
 rintro e V ⟨rfl,hb⟩
 have C2:=isn_any k 90 V
 rw [hk] at C2
 go_wp2_with fail
 refine C2.mono ?_
 rintro e _ ⟨rfl,rfl⟩
 go_wp2_with fail
 go_ret
 exact ⟨rfl,hb⟩
def ftsB (ts:List Ten) (h:Chg):Bool:=nam h.name.data.toList && (if h.put then (h.name.toList == h.t.name.toList) else (Df.look nk h.name.data.toList ts).isSome)
theorem fits_any16 {w:World} (hv:Vs w) {v:Value} {zs:List Tv} (hz:ZV w v zs) (hzn:∀ z∈zs,Nf z.1) (hm:zs.length≤1000) {y:Hv} (hl:TLen y.1.t) (hr:Rws w (yz y)) (hs:y.1.name.size≤1000000) :
 Calls Tryz.prog 54 #[.agg (yc y).toArray,v] w fun e V=>e=.returned (.bool (ftsB (zs.map Prod.fst) y.1))∧Below w.heap.size w V:=by
 obtain ⟨g,hg⟩:∃ g,w.heap.size=g:=⟨_,rfl⟩
 obtain ⟨A,hA⟩:∃ A,(yc y).toArray=A:=⟨_,rfl⟩
 have hM0:Mem w (w.alloc (.cells A 48)) [(g,.cells A 48)]:=(Mem.nil w).push1 hg.symm
 have HC:Hid (∀ V,Mem w V [(g,.cells A 48)]→V.cell? ⟨g,0,none⟩=some (.bool y.1.put)∧V.cell? ⟨g,1,none⟩=some (.string y.1.name)∧V.cell? ⟨g,2,none⟩=some (.string y.1.t.name)):=by
  intro V hV
  refine ⟨?_,?_,?_⟩ <;> · rw [hV.cell 0 rfl,← hA];rfl
 have HF:Hid (∀ V,Below w.heap.size w V→Calls Tryz.prog 76 #[v,.string y.1.name] V fun e X=>∃ A,e=.returned (.tuple #[.agg A,.bool (Df.look nk y.1.name.data.toList (zs.map Prod.fst)).isSome])∧TV X (.agg A) (fnd (zs.map Prod.fst) y.1.name.data.toList)∧Below V.heap.size V X):=fun V hV=>find_any (hz.at_ hV) hzn y.1.name hm
 have HI:Hid (∀ V,Below w.heap.size w V→Calls Tryz.prog 75 #[.string y.1.name] V fun e X=>e=.returned (.bool (nam y.1.name.data.toList))∧Below V.heap.size V X):=fun V hV=>isName_any (hv.below hV) _ hs
 have c:=HC.out _ hM0
 have CI:=HI.out _ hM0.below
 rw [hA]
 obtain ⟨R,hR⟩:∃ R,ftsB (zs.map Prod.fst) y.1=R:=⟨_,rfl⟩
 rw [hR]
 unfold ftsB at hR
 have HM0:Hid (Mem w (w.alloc (.cells A 48)) [(g,.cells A 48)]):=hM0
 generalize nam y.1.name.data.toList=nr at *
 generalize (Df.look nk y.1.name.data.toList (zs.map Prod.fst)).isSome=fr at *
 clear hz hzn hl hr hs hM0 HI hA
 obtain ⟨c0,c1,c2⟩:=c
 go_enter Tryz.func54,Tryz.ntmps54
 go_wp2_with fail
 refine CI.mono ?_
 rintro e V ⟨rfl,hb⟩
 have hM1:=HM0.out.after hb
 obtain ⟨d0,d1,d2⟩:=HC.out _ hM1
 have HM1:Hid (Mem w V [(g,.cells A 48)]):=hM1
 have CF:=HF.out _ hM1.below
 clear CI HM0 c0 c1 c2 hb HC HF hM1
 cases nr
 ·go_wp2_with fail
  go_ret
  exact ⟨by rw [←hR];rfl,HM1.out.below⟩
 ·cases hp:y.1.put
  ·rw [hp] at d0 hR
   go_wp2_with fail
   refine CF.mono ?_
   rintro e X ⟨B,rfl,hT,hb⟩
   obtain ⟨hlB,p,s,q,e,hq⟩:=hT
   simp only [Value.agg.injEq] at e
   have hsz:B.size=33:=by rw [e,List.size_toArray];exact tc_len hlB _ _ _
   have hone:B.all (·.oneCell')=true:=by rw [e];exact tc_one2 _ (rw_one hq.1) (rw_one hq.2.1) (rw_one hq.2.2)
   have i33:(Tryz.prog.info? 46).map (·.size)=some B.size:=by rw [hsz];kernel_rfl
   obtain ⟨g5,hg5⟩:∃ g,X.heap.size=g:=⟨_,rfl⟩
   have hk5:(X.alloc (.cells tz 46)).heap[g5]? = some (.cells tz 46):=by rw [←hg5];exact heap_alloc_new _ _
   have hbb:Below w.heap.size w X:=HM1.out.below.trans (hb.mono HM1.out.below.size)
   have HE:Hid (Below w.heap.size w ((X.alloc (.cells tz 46)).setRow g5 B)):=by
    rw [←hg5,World.setRow_alloc_new];exact hbb.alloc hbb.size _
   have hz33:(tz:Array Value).size=B.size:=by rw [hsz];rfl
   clear e hq hb hbb HM1 CF d0 d1 d2
   go_wp2_with (refine wpList_store_row rfl 46 (.tmp 5) (.tmp 24) (by with_reducible rfl) g5 B (by simp [Act.eval];try exact hg5) (by first | rfl | simp [Act.eval]) 46 tz hk5 i33 hz33 hone ?_)
   go_ret
   exact ⟨by rw [←hR];rfl,HE.out⟩
  ·rw [hp] at d0 hR
   simp only [if_true,Bool.true_and] at hR
   go_wp2_with fail
   go_ret
   exact ⟨by rw [←hR];simp <;> rfl,HM1.out.below⟩
end Go.Proofs.YtdigofgjhaakmaaGreatDoor
namespace Go.Proofs.YtdigofgjhaakmaaGreatDoor
open Go.RowKit
open Va
structure CBx (w:World) (cl:List Value) (c:Cgf) (ta:Option Addr) (tp:Nat):Prop where
 len:cl.length=29
 one:cl.toArray.all (·.oneCell')=true
 ip:cl[0]? = some (.int .u32 c.ip)
 drain:cl[27]? = some (.int .u32 c.drain)
 ten:cl[28]? = some (.slice ta c.ten.length tp)
 cv:CV w (.agg cl.toArray) c
 ts:TSV w (.slice ta c.ten.length tp) c.ten
theorem CV.tb {w:World} {v:Value} {c:Cgf} (h:CV w v c):∃ cl ta tp,v=.agg cl.toArray∧CBx w cl c ta tp:=by
 have h0:=h
 obtain ⟨hl,u,rfl,hu⟩:=h
 have hu0:=hu
 obtain ⟨ta,tp,rfl,-⟩:=hu.parts
 refine ⟨_,ta,tp,rfl,cc_len hl _,cc_one c rfl,?_,?_,?_,h0,hu0⟩
 all_goals
  obtain ⟨ip,m1,m2,m3,ky,dr,ts⟩:=c
  obtain ⟨h1,h2,h3,h4⟩:=hl
  obtain ⟨a,b,c,d,f,g,x,y,rfl⟩:=eight8 h4
  obtain ⟨a1,b1,c1,d1,f1,g1,rfl⟩:=six6 h1
  obtain ⟨a2,b2,c2,d2,f2,g2,rfl⟩:=six6 h2
  obtain ⟨a3,b3,c3,d3,f3,g3,rfl⟩:=six6 h3
  rfl
theorem CBx.later {w V:World} {cl:List Value} {c:Cgf} {ta:Option Addr} {tp:Nat} (h:CBx w cl c ta tp) (hb:Below w.heap.size w V):CBx V cl c ta tp :=
 { h with cv:=h.cv.at_ hb (Nat.le_refl _),ts:=h.ts.at_ hb (Nat.le_refl _) }
def CBo (W:World) (g:Nat) (c:Cgf):Prop:=∃ cl ta tp,W.heap[g]? = some (.cells cl.toArray 39)∧CBx W cl c ta tp
theorem CBo.later {W V:World} {g:Nat} {c:Cgf} (h:CBo W g c) (hb:Below W.heap.size W V):CBo V g c:=by
 obtain ⟨cl,ta,tp,h1,h2⟩:=h
 exact ⟨cl,ta,tp,by rw [hb.block g (Array.getElem?_eq_some_iff.mp h1).1];exact h1,h2.later hb⟩
theorem i29_of {cl:List Value} (h:cl.length=29):(Tryz.prog.info? 39).map (·.size)=some cl.toArray.size:=by rw [List.size_toArray,h];kernel_rfl
theorem cell_later {W V:World} (hb:Below W.heap.size W V) {g j:Nat} {v:Value} (h:W.cell? ⟨g,j,none⟩=some v):V.cell? ⟨g,j,none⟩=some v:=by rw [hb.cell (p:=⟨g,j,none⟩) (cell_lt h)];exact h
theorem TSV.head {w:World} {a:Option Addr} {n c:Nat} {ts:List Ten} (h:TSV w (.slice a n c) ts) (i:Nat) (hi:i≤ts.length):TSV w (.slice a i c) (ts.take i):=by
 obtain ⟨zs,h1,h2,h3⟩:=h
 have hl:(zs.map zc).length=ts.length:=by rw [←h1];simp
 refine ⟨zs.take i,by rw [List.map_take,h1],?_,fun z hz=>h3 z (List.mem_of_mem_take hz)⟩
 rw [List.map_take]
 exact h2.head i (by omega)
theorem gq1 {W:World} {g:Nat} {c:Cgf} (h:CBo W g c):Ask W 106 #[.pointer (some ⟨g,0,none⟩)] (c.ip != 0):=by
 refine ⟨enters_of Tryz.func106 (by kernel_rfl) rfl,fun V hV=>?_⟩
 obtain ⟨cl,ta,tp,hg,hx⟩:=h.later hV
 have c0:=cell_tl hg hx.ip
 clear h hg hx
 simp only [List.append_toArray,List.cons_append,List.nil_append,Array.empty_append]
 generalize c.ip=x at *
 go_enter Tryz.func106,Tryz.ntmps106
 go_wp2_with fail
 go_ret
 exact ⟨rfl,Below.refl _ _⟩
theorem gq2 {W:World} {g:Nat} {c:Cgf} (h:CBo W g c):Ask W 107 #[.pointer (some ⟨g,0,none⟩)] (decide (c.drain≤1000)):=by
 refine ⟨enters_of Tryz.func107 (by kernel_rfl) rfl,fun V hV=>?_⟩
 obtain ⟨cl,ta,tp,hg,hx⟩:=h.later hV
 have c0:=cell_tl hg hx.drain
 clear h hg hx
 simp only [List.append_toArray,List.cons_append,List.nil_append,Array.empty_append]
 generalize c.drain=x at *
 go_enter Tryz.func107,Tryz.ntmps107
 go_wp2_with fail
 go_ret
 exact ⟨rfl,Below.refl _ _⟩
theorem gq3 {W:World} {g:Nat} {c:Cgf} (h:CBo W g c):Ask W 108 #[.pointer (some ⟨g,0,none⟩)] (decide ((c.ten.length:Int)≤16)):=by
 refine ⟨enters_of Tryz.func108 (by kernel_rfl) rfl,fun V hV=>?_⟩
 obtain ⟨cl,ta,tp,hg,hx⟩:=h.later hV
 have c0:=cell_tl hg hx.ten
 clear h hg hx
 simp only [List.append_toArray,List.cons_append,List.nil_append,Array.empty_append]
 generalize c.ten.length=x at *
 go_enter Tryz.func108,Tryz.ntmps108
 go_wp2_with fail
 go_ret
 exact ⟨rfl,Below.refl _ _⟩
theorem grules_any {W:World} {v:Value} {c:Cgf} (h:CV W v c):Calls Tryz.prog 83 #[v] W (Rls W (grs c)):=by
 obtain ⟨cl,ta,tp,rfl,hx⟩:=h.tb
 have hmf:=mkf
 obtain ⟨g,hg⟩:∃ g,W.heap.size=g:=⟨_,rfl⟩
 have hM0:Mem W (W.alloc (.cells cl.toArray 39)) [(g,.cells cl.toArray 39)]:=(Mem.nil W).push1 hg.symm
 have HM0:Hid (Mem W (W.alloc (.cells cl.toArray 39)) [(g,.cells cl.toArray 39)]):=hM0
 have HX:Hid (∀ X,Mem W X [(g,.cells cl.toArray 39)]→CBo X g c):=fun X hX=>⟨cl,ta,tp,hX.get 0 rfl,hx.later hX.below⟩
 have HE:Hid (grs c=[ul 96 (c.ip != 0),ul 96 (decide (c.drain≤1000)),ul 96 (decide ((c.ten.length:Int)≤16))]):=rfl
 clear hM0 h hx
 generalize grs c=ES at *
 generalize cl.toArray=A at *
 go_enter Tryz.func83,Tryz.ntmps83
 go_upto_region 1 with fail
 refine wp_letter (fun X=>Mem W X [(g,.cells A 39)]) (by exact HM0.out) ?_
 intro V0 hM1
 try simp only [hg]
 clear HM0 hg
 have H0:Hid (CBo V0 g c∧Below W.heap.size W V0):=⟨HX.out V0 hM1,hM1.below⟩
 clear HX hM1
 go_wp2_with fail
 refine (unless_any (gq1 H0.out.1) 96).mono ?_
 rintro _ X0 ⟨k0,cs0,rfl,hr,hb⟩
 have H1:Hid (CBo X0 g c∧Below W.heap.size W X0∧RlsL X0 _ _):=⟨H0.out.1.later hb,H0.out.2.trans (hb.mono H0.out.2.size),.cons hr .nil⟩
 clear H0 hr hb
 go_wp2_with fail
 refine (unless_any (gq2 H1.out.1) 96).mono ?_
 rintro _ X1 ⟨k1,cs1,rfl,hr,hb⟩
 have H2:Hid (CBo X1 g c∧Below W.heap.size W X1∧RlsL X1 _ _):=⟨H1.out.1.later hb,H1.out.2.1.trans (hb.mono H1.out.2.1.size),(H1.out.2.2.later hb).snoc hr⟩
 clear H1 hr hb
 go_wp2_with fail
 refine (unless_any (gq3 H2.out.1) 96).mono ?_
 rintro _ X2 ⟨k2,cs2,rfl,hr,hb⟩
 have H3:Hid (Below W.heap.size W X2∧RlsL X2 _ _):=⟨H2.out.2.1.trans (hb.mono H2.out.2.1.size),(H2.out.2.2.later hb).snoc hr⟩
 clear H2 hr hb
 obtain ⟨gl,hgl⟩:∃ gl,X2.heap.size=gl:=⟨_,rfl⟩
 have hF:=rls_of (cs:=#[.func (.func k0) #[] cs0,.func (.func k1) #[] cs1,.func (.func k2) #[] cs2]) H3.out.2 H3.out.1 hgl rfl
 have HF:Hid ((∀ i,i < ES.length→∃ k c,(X2.alloc (.cells #[.func (.func k0) #[] cs0,.func (.func k1) #[] cs1,.func (.func k2) #[] cs2] 173)).cell? ⟨gl,i,none⟩=some (.func (.func k) #[] c)∧Rul (X2.alloc (.cells #[.func (.func k0) #[] cs0,.func (.func k1) #[] cs1,.func (.func k2) #[] cs2] 173)) k c (ES.getD i 0))∧Below W.heap.size W (X2.alloc (.cells #[.func (.func k0) #[] cs0,.func (.func k1) #[] cs1,.func (.func k2) #[] cs2] 173))∧ES.length=3):=by
  rw [HE.out];exact ⟨hF.1,hF.2,rfl⟩
 clear H3 HE hF
 go_wp2_with fail
 go_ret
 refine ⟨gl,?_,HF.out.1,HF.out.2.1⟩
 rw [HF.out.2.2,← hgl]
 rfl
end Go.Proofs.YtdigofgjhaakmaaGreatDoor
namespace Go.Proofs.YtdigofgjhaakmaaGreatDoor
open Go.RowKit
open La
open Ad
end Go.Proofs.YtdigofgjhaakmaaGreatDoor
namespace Go.Proofs.YtdigofgjhaakmaaGreatDoor
open Go.RowKit
open Sm
open Cf
open Df
namespace Df
theorem ten0_in:TIn ten0:=⟨ten0_len,bytes_15 _ (by decide),bytes_15 _ (by decide),bytes_15 _ (by decide),by decide,by decide,by decide,by decide⟩
theorem tsames_refl (l:List Ten):TSames l l:=⟨rfl,fun i _=>TSame.refl' _⟩
end Df
end Go.Proofs.YtdigofgjhaakmaaGreatDoor
