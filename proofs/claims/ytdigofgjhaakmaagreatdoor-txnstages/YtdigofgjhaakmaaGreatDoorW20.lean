/-
  Settings held against one another: which lists of tenants the statements speak of.
  Settings as bytes: settings that were written are read back, no part of them is read, and nothing longer; what fits is read back as it was.
  Settings as bytes: the document's own OpenChange: a change that puts a tenant.
  Settings held against one another: lychhelp.Tenants, Config and Changes, where both are the same.
  Settings as bytes: the document's settings: numbers.
  Settings as bytes: the document's OpenConfig: tenants of the call's own, in blocks.
  Settings as bytes: the document's OpenConfig: stores into its box.
-/
import Derived.Test.YtdigofgjhaakmaaGreatDoorW19
import Derived.Test.YtdigofgjhaakmaaGreatDoorW13
import Derived.Test.YtdigofgjhaakmaaGreatDoorW15
import Derived.Test.YtdigofgjhaakmaaGreatDoorW18
import Derived.Test.YtdigofgjhaakmaaGreatDoorW01
set_option linter.unusedVariables false
set_option linter.unusedSimpArgs false
set_option maxRecDepth 20000
set_option maxHeartbeats 40000000
namespace Go.Proofs.YtdigofgjhaakmaaGreatDoor
open Go.RowKit
open Sm
open Cf
theorem TSV.parts {w:World} {v:Value} {ts:List Ten} (h:TSV w v ts):∃ sa sc,v=.slice sa ts.length sc∧ts.length≤sc∧sc≤9223372036854775807∧∀ i,i < ts.length→∃ b off x,sa=some ⟨b,off,none⟩∧x.length=33∧x.toArray.all (·.oneCell')=true∧∀ V,Below w.heap.size w V→V.rangeAt b (off+i * 33) x∧TV V (.agg x.toArray) (ts.getD i ten0):=by
 obtain ⟨zs,hz,hr,hq⟩:=h
 have hN0:(zs.map zc).length=ts.length:=by rw [List.length_map,← hz,List.length_map]
 have hrr:=hr
 obtain ⟨sa,sc,rfl,hl,hb,-⟩:=hrr
 rw [hN0] at hr hl ⊢
 refine ⟨sa,sc,rfl,hl,hb,fun i hi=>?_⟩
 have hil:i < zs.length:=by rw [List.length_map] at hN0;omega
 obtain ⟨b,off,x,e1,e2,e3,e4,e5⟩:=tsv_at hr hq i hil
 rw [hz] at e5
 refine ⟨b,off,x,e1,e3,e4,fun V hV=>⟨fun j u hj=>?_,?_⟩⟩
 ·have h:=e2 j u hj
  rw [hV.cell (p:=⟨b,off+i * 33+j,none⟩) (cell_lt h)]
  exact h
 ·obtain ⟨hl,p,s,q,e,h1,h2,h3⟩:=e5
  exact ⟨hl,p,s,q,e,h1.below ux_ne hV (Nat.le_refl _),h2.below px_ne hV (Nat.le_refl _),h3.below px_ne hV (Nat.le_refl _)⟩
def Lgts (ts:List Ten) (m:Nat):Prop:=ts.length≤m∧∀ i,i < ts.length→Lgt (ts.getD i ten0)
instance (ts:List Ten) (m:Nat):Decidable (Lgts ts m):=by unfold Lgts;infer_instance
def ccut (c:Cgf):Cgf:=⟨num (be 4 c.ip),c.mac,c.omac,c.nmac,c.key,num (be 4 c.drain),(c.ten.take 255).map tcut⟩
def sct (c:Cgf) (k:Nat):Cgf:=⟨if 0 < k then (ccut c).ip else 0,if 1 < k then c.mac else cfg0.mac,if 2 < k then c.omac else cfg0.omac,if 3 < k then c.nmac else cfg0.nmac,if 4 < k then c.key else cfg0.key,if 5 < k then (ccut c).drain else 0,
 if 7 < k then (ccut c).ten else if 6 < k then List.replicate (min c.ten.length 255) ten0 else []⟩
theorem set_ten_eq (x:Cgf) (m:Nat) (h:x.ten=[]):set_ten x m={ x with ten:=List.replicate m ten0 }:=by
 unfold set_ten
 split
 ·rename_i e;subst e;cases x;simp only at h;subst h;rfl
 ·rfl
theorem rb_tens (c x:Cgf) (hl:∀ t∈c.ten,TLen t) (hx:x.ten=List.replicate (min c.ten.length 255) ten0):RB spTenants.dec (spTenants.enc c) x { x with ten:=(c.ten.take 255).map tcut }:=by
 have hd:∀ i,TLen (c.ten.getD i ten0):=by
  intro i
  by_cases h:i < c.ten.length
  ·rw [List.getD_eq_getElem?_getD,List.getElem?_eq_getElem h,Option.getD_some]
   exact hl _ (List.getElem_mem _)
  ·rw [List.getD_eq_getElem?_getD,List.getElem?_eq_none (by omega),Option.getD_none]
   exact ten0_len
 obtain ⟨ys,⟨h1,h2⟩,h3,h4,-⟩:=sq_rb (dec:=itd ten0 spT) (enc:=fun i=>tenc (c.ten.getD i ten0)) (Inv:=fun k ys=>ys.length=min c.ten.length 255∧(∀ i,i < k→ys[i]? = some (tcut (c.ten.getD i ten0)))∧∀ i,k≤i→i < min c.ten.length 255→ys[i]? = some ten0) (min c.ten.length 255) 0 x.ten
  (fun k _ hk xs ⟨g1,g2,g3⟩=>by
   have hz:xs.getD k ten0=ten0:=by rw [List.getD,g3 k (Nat.le_refl _) (by omega)];rfl
   obtain ⟨e1,e2⟩:=tenc_rb (c.ten.getD k ten0) (hd k)
   refine ⟨xs.set k (tcut (c.ten.getD k ten0)),⟨fun r=>by simp only [itd,hz];rw [show tenc (c.ten.getD k ten0)=spT.enc (c.ten.getD k ten0) from rfl,e1];rfl,fun l a b=>by simp only [itd,hz];rw [e2 l a b];rfl⟩,by rw [List.length_set];exact g1,fun i hi=>?_,fun i hi h2=>?_⟩
   ·rw [List.getElem?_set]
    by_cases e:k=i
    ·subst e
     rw [if_pos rfl,if_pos (by omega)]
    ·rw [if_neg e]
     exact g2 i (by omega)
   ·rw [List.getElem?_set,if_neg (by omega)]
    exact g3 i (by omega) h2) ⟨by rw [hx,List.length_replicate],fun i hi=>by omega,fun i _ hi=>by rw [hx,List.getElem?_replicate,if_pos hi]⟩
 have hys:ys=(c.ten.take 255).map tcut:=by
  apply List.ext_getElem?
  intro i
  rw [List.getElem?_map,List.getElem?_take]
  by_cases hi:i < min c.ten.length 255
  ·rw [h4 i (by omega),if_pos (by omega),List.getD,List.getElem?_eq_getElem (by omega)]
   rfl
  ·rw [List.getElem?_eq_none (by omega)]
   split
   ·rw [List.getElem?_eq_none (by omega)];rfl
   ·rfl
 subst hys
 have hxl:x.ten.length=min c.ten.length 255:=by rw [hx,List.length_replicate]
 refine ⟨fun r=>?_,fun l a b=>?_⟩
 ·simp only [spTenants]
  rw [hxl,cat_eq,h1]
  rfl
 ·simp only [spTenants] at a b ⊢
  rw [cat_eq] at a b
  rw [hxl,h2 l a b]
  rfl
theorem cenc_rb (c:Cgf) (hl:CLen c) (ht:∀ t∈c.ten,TLen t):RB spC.dec (spC.enc c) cfg0 (ccut c):=by
 obtain ⟨x',h,e⟩:=sq_rb (dec:=fun i=>(csp.getD i sp0).dec) (enc:=fun i=>(csp.getD i sp0).enc c) (Inv:=fun k x=>x=sct c k) 8 0 cfg0 (fun k _ hk x hx=>by
   subst hx
   match k,hk with
   | 0,_=>exact ⟨_,(rb_num 4 _ _ c _:RB spCIp.dec (spCIp.enc c) _ _),rfl⟩
   | 1,_=>exact ⟨_,(rb_oct 6 _ _ c _ hl.mac:RB spCMac.dec (spCMac.enc c) _ _),rfl⟩
   | 2,_=>exact ⟨_,(rb_oct 6 _ _ c _ hl.omac:RB spCOut.dec (spCOut.enc c) _ _),rfl⟩
   | 3,_=>exact ⟨_,(rb_oct 6 _ _ c _ hl.nmac:RB spCNext.dec (spCNext.enc c) _ _),rfl⟩
   | 4,_=>exact ⟨_,(rb_oct 8 _ _ c _ hl.key:RB spCKey.dec (spCKey.enc c) _ _),rfl⟩
   | 5,_=>exact ⟨_,(rb_num 4 _ _ c _:RB spCDrain.dec (spCDrain.enc c) _ _),rfl⟩
   | 6,_=>exact ⟨_,(rb_cnt _ _ c _:RB spCCnt.dec (spCCnt.enc c) _ _),set_ten_eq _ _ rfl⟩
   | 7,_=>exact ⟨_,(rb_tens c _ ht rfl:RB spTenants.dec (spTenants.enc c) _ _),rfl⟩
   | n+8,h=>exact absurd (show n+8 < 0+8 from h) (by omega)) rfl
 subst e
 rw [←cat_eq] at h
 exact h
theorem cdec_back (c:Cgf) (hl:CLen c) (ht:∀ t∈c.ten,TLen t):cdec (cenc c)=some (ccut c):=by
 have:=(cenc_rb c hl ht).1 []
 rw [List.append_nil] at this
 unfold cdec
 rw [show spC.dec (cenc c) cfg0=spC.dec (spC.enc c) cfg0 from rfl,this]
theorem num_be4 (x:Int) (h:0≤x∧x≤4294967295):num (be 4 x)=x:=by
 simp [be,num]
 omega
theorem num_be2 (x:Int) (h:0≤x∧x≤65535):num (be 2 x)=x:=by
 simp [be,num]
 omega
theorem num_be1 (x:Int) (h:0≤x∧x≤255):num (be 1 x)=x:=by
 simp [be,num]
 omega
theorem map_id_of {α:Type} {f:α→α} {l:List α} (h:∀ x∈l,f x=x):l.map f=l:=by
 induction l with
 | nil=>rfl
 | cons a l ih=>rw [List.map_cons,h a (by simp),ih (fun x hx=>h x (List.mem_cons_of_mem _ hx))]
theorem same_cut (t:Ten) (hf:Fit t) (hr:TRg t):TSame t (tcut t):=by
 obtain ⟨f1,f2,f3,f4,f5,f6,f7,f8,f9,f10⟩:=hf
 have hs:(sb t.name).take 255=sb t.name:=List.take_of_length_le (by rw [sb_len];exact f1)
 refine ⟨?_,(num_be4 _ hr.vni).symm,rfl,(num_be4 _ hr.vtep).symm,rfl,rfl,?_,(num_be2 _ hr.lo).symm,(num_be2 _ hr.hi).symm,(num_be1 _ ⟨f5,f6⟩).symm,?_,?_,(num_be2 _ ⟨f7,f8⟩).symm,(num_be2 _ ⟨f9,f10⟩).symm,(num_be4 _ hr.rate).symm,(num_be4 _ hr.burst).symm⟩
 ·show sb t.name=sb (strOfNums ((sb t.name).take 255))
  rw [hs,sb_str (sb_bytes _)]
 ·show t.pool=(t.pool.take 255).map (fun v=>num (be 4 v))
  rw [List.take_of_length_le f2,map_id_of (fun x hx=>num_be4 x (hr.pool x hx))]
 ·show t.stat=(t.stat.take 255).map (fun v=>(num (be 4 v.1),num (be 4 v.2)))
  rw [List.take_of_length_le f3,map_id_of (fun x hx=>by rw [num_be4 _ (hr.stat x hx).1,num_be4 _ (hr.stat x hx).2])]
 ·show t.twi=(t.twi.take 255).map (fun v=>(num (be 4 v.1),num (be 4 v.2)))
  rw [List.take_of_length_le f4,map_id_of (fun x hx=>by rw [num_be4 _ (hr.twi x hx).1,num_be4 _ (hr.twi x hx).2])]
theorem TSame.symm {t z:Ten} (h:TSame t z):TSame z t:=by
 obtain ⟨a,b,c,d,e,f,g,h,i,j,k,l,m,n,o,p⟩:=h
 exact ⟨a.symm,b.symm,c.symm,d.symm,e.symm,f.symm,g.symm,h.symm,i.symm,j.symm,k.symm,l.symm,m.symm,n.symm,o.symm,p.symm⟩
def TSames (a b:List Ten):Prop:=a.length=b.length∧∀ i,i < a.length→TSame (a.getD i ten0) (b.getD i ten0)
def CSame (a b:Cgf):Prop:=a.ip=b.ip∧a.mac=b.mac∧a.omac=b.omac∧a.nmac=b.nmac∧a.key=b.key∧a.drain=b.drain∧TSames a.ten b.ten
theorem csame_cut (c:Cgf) (hr:CRg c) (hl:c.ten.length≤255) (ht:∀ t∈c.ten,Fit t∧TRg t):CSame c (ccut c):=by
 refine ⟨(num_be4 _ hr.ip).symm,rfl,rfl,rfl,rfl,(num_be4 _ hr.drain).symm,?_⟩
 show TSames c.ten ((c.ten.take 255).map tcut)
 rw [List.take_of_length_le hl]
 refine ⟨by simp,fun i hi=>?_⟩
 have hm:=List.getElem_mem hi
 rw [List.getD_eq_getElem?_getD,List.getElem?_eq_getElem hi,Option.getD_some,List.getD_eq_getElem?_getD,List.getElem?_map,List.getElem?_eq_getElem hi,Option.map_some,Option.getD_some]
 exact same_cut _ (ht _ hm).1 (ht _ hm).2
theorem owb_rw' {V:World} {T:TypeId} {sz:Nat} {v:Value} {xs:List (List Value)} {B:List (Nat×Obj)} (hx:∀ x∈xs,x.length=sz) (h:OwB T sz v xs.length xs.flatten B) (hB:∀ p∈B,V.heap[p.1]? = some p.2):Rw V sz v xs:=by
 rcases h.2 with ⟨rfl,e,rfl⟩ | ⟨g,cap,cur,rfl,rfl,h1,h2,h3,h4⟩
 ·have:xs=[]:=List.eq_nil_of_length_eq_zero e
  subst this
  exact ⟨none,0,rfl,Nat.le_refl _,by omega,fun _=>rfl,Or.inl rfl⟩
 ·have hg:=hB _ (List.mem_cons_self ..)
  refine ⟨some ⟨g,0,none⟩,cap,rfl,h1,by simpa [maxLen] using h2,nofun,Or.inr ⟨g,0,rfl,fun i hi j u hj=>?_⟩⟩
  have h5:=flat_at xs i j u hx hj
  rw [←h4] at h5
  have hc:V.cell? ⟨g,0+i * sz+j,none⟩=cur[0+i * sz+j]?:=by
   unfold World.cell?
   simp [hg]
  rw [hc,Nat.zero_add]
  rw [List.getElem?_take] at h5
  split at h5
  ·rw [←Array.getElem?_toList];exact h5
  ·cases h5
def TFew (t:Ten):Prop:=t.pool.length≤1000000∧t.stat.length≤1000000∧t.twi.length≤1000000
theorem htenant_yes {w:World} {va vb:Value} {t z:Ten} (ha:TV w va t) (hb:TV w vb z) (hf:TFew t) (h:TSame t z) :
  Calls Tryz.prog 67 #[va,vb] w fun e w'=>e=.returned (.bool true)∧Below w.heap.size w w':=by
 obtain ⟨hp,hs,hq⟩:=hf
 obtain ⟨hl,p,s,q,rfl,r1,r2,r3⟩:=ha
 obtain ⟨hl',p',s',q',rfl,r1',r2',r3'⟩:=hb
 have CN:=fun V (hV:Below w.heap.size w V)=>nums_any p p' t.pool z.pool (r1.at_ ux_ne hV) (r1'.at_ ux_ne hV) hp
 have CP:=fun V (hV:Below w.heap.size w V)=>pairs_any s s' t.stat z.stat (r2.at_ px_ne hV) (r2'.at_ px_ne hV) hs
 have CQ:=fun V (hV:Below w.heap.size w V)=>pairs_any q q' t.twi z.twi (r3.at_ px_ne hV) (r3'.at_ px_ne hV) hq
 obtain ⟨pa,pc,rfl,-⟩:=r1
 obtain ⟨sa,sc,rfl,-⟩:=r2
 obtain ⟨qa,qc,rfl,-⟩:=r3
 obtain ⟨pa',pc',rfl,-⟩:=r1'
 obtain ⟨sa',sc',rfl,-⟩:=r2'
 obtain ⟨qa',qc',rfl,-⟩:=r3'
 generalize (ux t.pool).length=pn at *
 generalize (px t.stat).length=sn at *
 generalize (px t.twi).length=qn at *
 generalize (ux z.pool).length=pn' at *
 generalize (px z.stat).length=sn' at *
 generalize (px z.twi).length=qn' at *
 obtain ⟨n,vn,key,vt,vm,ho,po,lo,hi,fi,st,tw,se,qu,ra,bu⟩:=t
 obtain ⟨n',vn',key',vt',vm',ho',po',lo',hi',fi',st',tw',se',qu',ra',bu'⟩:=z
 obtain ⟨h1,h2,h3⟩:=hl
 obtain ⟨a,b,c,d,f,g,x,y,rfl⟩:=eight8 h1
 obtain ⟨a1,b1,c1,d1,f1,g1,rfl⟩:=six6 h2
 obtain ⟨a2,b2,c2,d2,f2,g2,rfl⟩:=six6 h3
 obtain ⟨h1',h2',h3'⟩:=hl'
 obtain ⟨a',b',c',d',f',g',x',y',rfl⟩:=eight8 h1'
 obtain ⟨a1',b1',c1',d1',f1',g1',rfl⟩:=six6 h2'
 obtain ⟨a2',b2',c2',d2',f2',g2',rfl⟩:=six6 h3'
 simp only at CN CP CQ
 obtain ⟨h10,h11,h12,h13,h14,h15,h16,h17,h18,h19,h20,h21,h22,h23,h24,h25⟩:=h
 exact ht_16 h10 h11 h12 h13 h14 h15 h16 h17 h18 h19 h20 h21 h22 h23 h24 h25 CN CP CQ
theorem htenants_yes {w:World} {va vb:Value} {ls ms:List Ten} (ha:TSV w va ls) (hb:TSV w vb ms) (hf:∀ t∈ls,TFew t) (h:TSames ls ms) :
  Calls Tryz.prog 37 #[va,vb] w fun e w'=>e=.returned (.bool true)∧Below w.heap.size w w':=by
 obtain ⟨sa,sc,rfl,hlc,hcb,hx⟩:=ha.parts
 obtain ⟨ta,tc',rfl,hlc',hcb',hy⟩:=hb.parts
 have hfi:∀ i,i < ls.length→TFew (ls.getD i ten0):=fun i hi=>by
  rw [List.getD_eq_getElem?_getD,List.getElem?_eq_getElem hi,Option.getD_some]
  exact hf _ (List.getElem_mem _)
 obtain ⟨hll,hs⟩:=h
 rw [←hll] at hy hlc' ⊢
 have HX:Hid (∀ i,i < ls.length→∃ b off x b' off' y,sa=some ⟨b,off,none⟩∧ta=some ⟨b',off',none⟩∧x.length=33∧y.length=33∧∀ V,Below w.heap.size w V→(V.rangeAt b (off+i * 33) x∧V.rangeAt b' (off'+i * 33) y)∧Calls Tryz.prog 67 #[.agg x.toArray,.agg y.toArray] V fun e V'=>e=.returned (.bool true)∧Below V.heap.size V V'):=by
  intro i hi
  obtain ⟨b,off,x,e1,e2,-,e3⟩:=hx i hi
  obtain ⟨b',off',y,f1,f2,-,f3⟩:=hy i hi
  exact ⟨b,off,x,b',off',y,e1,f1,e2,f2,fun V hV=>⟨⟨(e3 V hV).1,(f3 V hV).1⟩,htenant_yes (e3 V hV).2 (f3 V hV).2 (hfi i hi) (hs i hi)⟩⟩
 have HB:Hid (Below w.heap.size w w):=Below.refl _ _
 clear ha hb hx hy hf hfi hs hll
 generalize ls.length=N at *
 go_enter Tryz.func37,Tryz.ntmps37
 go_wp2_with fail
 go_loopw [5] (fun u5 w'=>∃ i:Nat,i≤N∧u5=.int .i64 i∧Hid (Below w.heap.size w w')) (fun u5 w'=>N - (intOf u5).toNat)
 case atStart=>exact ⟨0,Nat.zero_le _,rfl,HB⟩
 case round =>
  obtain ⟨i,hi,rfl,HR⟩:=hrel
  clear HB
  by_cases hlt:i < N
  ·have h1:(i:Int) < N:=by omega
   obtain ⟨b,off,x,b',off',y,rfl,rfl,hs1,hs2,hV⟩:=HX.out i hlt
   have i1:(Tryz.prog.info? 46).map (·.size)=some x.length:=by rw [hs1];kernel_rfl
   have i2:(Tryz.prog.info? 46).map (·.size)=some y.length:=by rw [hs2];kernel_rfl
   have hd:Below w.heap.size w wr.drew:=HR.out.drew
   obtain ⟨rr,CT⟩:=hV _ hd
   have HV':Hid (∀ V,Below w.heap.size w V→V.rangeAt b (off+i * 33) x∧V.rangeAt b' (off'+i * 33) y):=fun V h=>(hV V h).1
   have HD:Hid (Below w.heap.size w wr.drew):=hd
   clear hV hd hs1 hs2 HR
   go_upto_region 6 with fail
   refine wp_region_held_drew (S:=fun V=>V.rangeAt b (off+i * 33) x∧V.rangeAt b' (off'+i * 33) y) (by kernel_rfl) rr (fun hHeld=>?_)
   refine tkq 0 rfl (v:=?_) (Or.inl ⟨by rfl,?qy0⟩) ?_
   case qy0=>intro w hSw;(try dsimp only at hSw);go_simp;all_goals with_reducible rfl
   try simp only [sqa,sqb,sqc,Act.put,sqd,sqe,sqf]
   refine tkq 1 rfl (v:=?_) (Or.inl ⟨by rfl,?qy1⟩) ?_
   case qy1=>intro w hSw;(try dsimp only at hSw);go_simp;all_goals with_reducible rfl
   try simp only [sqa,sqb,sqc,Act.put,sqd,sqe,sqf]
   refine tkq 2 rfl (v:=?_) (Or.inl ⟨by rfl,?qy2⟩) ?_
   case qy2=>intro w hSw;(try dsimp only at hSw);go_simp;all_goals with_reducible rfl
   try simp only [sqa,sqb,sqc,Act.put,sqd,sqe,sqf]
   refine tkq 3 rfl (v:=_) (yieldsIf_load_mid (by rfl) _ _ rfl _ _ rfl _ _ ?qs3 Tryz.underlying46 rfl i1) ?_
   case qs3 =>
    intro w hSw
    (try dsimp only at hSw)
    go_split_ands
    assumption
   try simp only [sqa,sqb,sqc,Act.put,sqd,sqe,sqf]
   refine tkq 4 rfl (v:=?_) (Or.inl ⟨by rfl,?qy4⟩) ?_
   case qy4=>intro w hSw;(try dsimp only at hSw);go_simp;all_goals with_reducible rfl
   try simp only [sqa,sqb,sqc,Act.put,sqd,sqe,sqf]
   refine tkq 5 rfl (v:=?_) (Or.inl ⟨by rfl,?qy5⟩) ?_
   case qy5=>intro w hSw;(try dsimp only at hSw);go_simp;all_goals with_reducible rfl
   try simp only [sqa,sqb,sqc,Act.put,sqd,sqe,sqf]
   refine tkq 6 rfl (v:=?_) (Or.inl ⟨by rfl,?qy6⟩) ?_
   case qy6=>intro w hSw;(try dsimp only at hSw);go_simp;all_goals with_reducible rfl
   try simp only [sqa,sqb,sqc,Act.put,sqd,sqe,sqf]
   refine tkq 7 rfl (v:=_) (yieldsIf_load_mid (by rfl) _ _ rfl _ _ rfl _ _ ?qs7 Tryz.underlying46 rfl i2) ?_
   case qs7 =>
    intro w hSw
    (try dsimp only at hSw)
    go_split_ands
    assumption
   try simp only [sqa,sqb,sqc,Act.put,sqd,sqe,sqf]
   refine wpAnyH_ready (rs:=[8]) (by kernel_rfl) (by simp) ?_
   refine AllReadyH.cons rfl (fun K hK=>?_) AllReadyH.nil
   go_simp
   with_reducible refine (CT).mono ?_
   rintro e W1 ⟨rfl,hb1⟩
   have hb1b:=HD.out.trans (hb1.mono HD.out.size)
   try go_wp2_with fail
   refine hK.out _ _ (HV'.out _ hb1b) (fun hHeld=>?_)
   clear hK K
   try simp only [sqa,sqb,sqc,Act.put,sqd,sqe,sqf]
   refine tkq 9 rfl (v:=?_) (Or.inl ⟨by rfl,?qy9⟩) ?_
   case qy9=>intro w hSw;(try dsimp only at hSw);go_simp;all_goals with_reducible rfl
   try simp only [sqa,sqb,sqc,Act.put,sqd,sqe,sqf]
   refine wpAnyH_done (by kernel_rfl) ?_ _
   have HB1:Hid (Below w.heap.size w W1):=hb1b
   clear hb1 hb1b CT
   go_wp2_with fail
   go_roundw
   case rel=>exact ⟨i+1,by omega,by go_num,HB1⟩
   case measure=>simp [intOf];omega
  ·have h1:¬ ((i:Int) < N):=by omega
   obtain rfl:i=N:=by omega
   go_wp2_with fail
   go_ret
   exact ⟨rfl,HR.out⟩
theorem TSV.slice {w:World} {v:Value} {ts:List Ten} (h:TSV w v ts):∃ a n c,v=.slice a n c:=by
 obtain ⟨zs,-,⟨a,c,e,-⟩,-⟩:=h
 exact ⟨a,_,c,e⟩
theorem hconfig_yes {w:World} {va vb:Value} {a b:Cgf} (ha:CV w va a) (hb:CV w vb b) (hf:∀ t∈a.ten,TFew t) (h:CSame a b) :
  Calls Tryz.prog 16 #[va,vb] w fun e w'=>e=.returned (.bool true)∧Below w.heap.size w w':=by
 obtain ⟨hl,u,rfl,hT⟩:=ha
 obtain ⟨hl',u',rfl,hT'⟩:=hb
 obtain ⟨ip,mac,om,nmac,key,dr,te⟩:=a
 obtain ⟨ip',mac',om',nmac',key',dr',te'⟩:=b
 obtain ⟨rfl,rfl,rfl,rfl,rfl,rfl,hts⟩:=h
 simp only at hT hT' hf hts
 obtain ⟨h1,h2,h3,h4⟩:=hl
 obtain ⟨a,b,c,d,f,g,rfl⟩:=six6 h1
 obtain ⟨a1,b1,c1,d1,f1,g1,rfl⟩:=six6 h2
 obtain ⟨a2,b2,c2,d2,f2,g2,rfl⟩:=six6 h3
 obtain ⟨k1,k2,k3,k4,k5,k6,k7,k8,rfl⟩:=eight8 h4
 obtain ⟨sa,sn,sc,rfl⟩:=hT.slice
 obtain ⟨ta,tn,tc',rfl⟩:=hT'.slice
 have CT:Hid (∀ V,Below w.heap.size w V→Calls Tryz.prog 37 #[.slice sa sn sc,.slice ta tn tc'] V fun e V'=>e=.returned (.bool true)∧Below V.heap.size V V'):=fun V hV=>htenants_yes (hT.at_ hV (Nat.le_refl _)) (hT'.at_ hV (Nat.le_refl _)) hf hts
 have e1:∀ V,(Op.equalIn 10000 35 (.agg #[.int .u8 a,.int .u8 b,.int .u8 c,.int .u8 d,.int .u8 f,.int .u8 g]) (.agg #[.int .u8 a,.int .u8 b,.int .u8 c,.int .u8 d,.int .u8 f,.int .u8 g])).run Tryz.prog V=.ok true V:=fun V=>by rw [mac_eq6];rw [decide_eq_true rfl]
 have e2:∀ V,(Op.equalIn 10000 35 (.agg #[.int .u8 a1,.int .u8 b1,.int .u8 c1,.int .u8 d1,.int .u8 f1,.int .u8 g1]) (.agg #[.int .u8 a1,.int .u8 b1,.int .u8 c1,.int .u8 d1,.int .u8 f1,.int .u8 g1])).run Tryz.prog V=.ok true V:=fun V=>by rw [mac_eq6];rw [decide_eq_true rfl]
 have e3:∀ V,(Op.equalIn 10000 35 (.agg #[.int .u8 a2,.int .u8 b2,.int .u8 c2,.int .u8 d2,.int .u8 f2,.int .u8 g2]) (.agg #[.int .u8 a2,.int .u8 b2,.int .u8 c2,.int .u8 d2,.int .u8 f2,.int .u8 g2])).run Tryz.prog V=.ok true V:=fun V=>by rw [mac_eq6];rw [decide_eq_true rfl]
 have e4:∀ V,(Op.equalIn 10000 36 (.agg #[.int .u8 k1,.int .u8 k2,.int .u8 k3,.int .u8 k4,.int .u8 k5,.int .u8 k6,.int .u8 k7,.int .u8 k8]) (.agg #[.int .u8 k1,.int .u8 k2,.int .u8 k3,.int .u8 k4,.int .u8 k5,.int .u8 k6,.int .u8 k7,.int .u8 k8])).run Tryz.prog V=.ok true V:=fun V=>by rw [key_eq];rw [decide_eq_true rfl]
 have HB:Hid (∀ o1 o2,Below w.heap.size w ((w.alloc o1).alloc o2)):=fun o1 o2=>((Below.refl _ _).alloc (Nat.le_refl _) _).alloc (by simp) _
 simp only [cc,List.map_cons,List.map_nil,List.cons_append,List.nil_append]
 clear hT hT' hf hts h1 h2 h3 h4 hl'
 go_enter Tryz.func16,Tryz.ntmps16
 go_wp2_with fail
 refine (CT.out _ (HB.out _ _)).mono ?_
 rintro e V ⟨rfl,hb⟩
 have HB2:Hid (Below w.heap.size w V):=(HB.out _ _).trans (hb.mono (HB.out _ _).size)
 clear hb
 go_wp2_with fail
 go_ret
 exact ⟨rfl,HB2.out⟩
def c1 (σ:Option (List Int)):=nx 4 σ
def c2 (σ:Option (List Int)):=nx 6 (c1 σ)
def c3 (σ:Option (List Int)):=nx 6 (c2 σ)
def c4 (σ:Option (List Int)):=nx 6 (c3 σ)
def c5 (σ:Option (List Int)):=nx 8 (c4 σ)
def c6 (σ:Option (List Int)):=nx 4 (c5 σ)
def c7 (σ:Option (List Int)):=nx 1 (c6 σ)
def ZB (z:Tv) (C:List (Nat×Obj)):Prop:=TLen z.1∧∃ B1 B2 B3,(∀ x∈B3++(B2++B1),x∈C)∧OwB 33 1 z.2.1 z.1.pool.length (ux z.1.pool).flatten B1∧OwB 122 2 z.2.2.1 z.1.stat.length (px z.1.stat).flatten B2∧OwB 122 2 z.2.2.2 z.1.twi.length (px z.1.twi).flatten B3
def TsB (u:Value) (ts:List Ten) (B C:List (Nat×Obj)):Prop:=∃ zs:List Tv,zs.map Prod.fst=ts∧OwB 46 33 u zs.length (zs.map zc).flatten B∧∀ z∈zs,ZB z C
theorem tsb_nil:TsB nilV [] [] []:=⟨[],rfl,OwB.nil _ _,by simp⟩
theorem ZB.more {z:Tv} {C D:List (Nat×Obj)} (h:ZB z C) (hs:∀ x∈C,x∈D):ZB z D:=by
 obtain ⟨h1,B1,B2,B3,h2,h3⟩:=h
 exact ⟨h1,B1,B2,B3,fun x hx=>hs x (h2 x hx),h3⟩
theorem zb_rws {V:World} {z:Tv} {C:List (Nat×Obj)} (h:ZB z C) (hC:∀ x∈C,V.heap[x.1]? = some x.2):TLen z.1∧Rws V z:=by
 obtain ⟨hl,B1,B2,B3,hs,h1,h2,h3⟩:=h
 refine ⟨hl,owb_rw' (fun x hx=>?_) (by simpa [ux] using h1) (fun x hx=>hC x (hs x (by simp [hx]))),owb_rw' (fun x hx=>?_) (by simpa [px] using h2) (fun x hx=>hC x (hs x (by simp [hx]))),owb_rw' (fun x hx=>?_) (by simpa [px] using h3) (fun x hx=>hC x (hs x (by simp [hx])))⟩
 ·simp only [ux,List.mem_map] at hx;obtain ⟨y,-,rfl⟩:=hx;rfl
 ·simp only [px,List.mem_map] at hx;obtain ⟨y,-,rfl⟩:=hx;rfl
 ·simp only [px,List.mem_map] at hx;obtain ⟨y,-,rfl⟩:=hx;rfl
theorem tsb_tsv {V:World} {u:Value} {ts:List Ten} {B C:List (Nat×Obj)} (h:TsB u ts B C) (hB:∀ x∈B++C,V.heap[x.1]? = some x.2):TSV V u ts:=by
 obtain ⟨zs,e,h1,h2⟩:=h
 refine ⟨zs,e,owb_rw' (fun x hx=>?_) (by rw [List.length_map];exact h1) (fun x hx=>hB x (by simp [hx])),fun z hz=>zb_rws (h2 z hz) (fun x hx=>hB x (by simp [hx]))⟩
 obtain ⟨z,hz,rfl⟩:=List.mem_map.mp hx
 exact tc_len (h2 z hz).1 _ _ _
theorem cvs_tsb {w V:World} {u:Value} {c:Cgf} {B C:List (Nat×Obj)} (hl:CLen c) (h:TsB u c.ten B C) (hM:Mem w V (B++C)):CVs w.heap.size V (.agg (cc c u).toArray) c:=by
 intro w1 V' h1 hb ha
 exact ⟨hl,u,rfl,tsb_tsv h (fun x hx=>(ha _ (hM.low x hx) (hM.lt hx)).trans (hM.at_ x hx))⟩
theorem zb_one {z:Tv} {C:List (Nat×Obj)} (h:ZB z C):∀ u∈zc z,u.oneCell'=true:=by
 obtain ⟨hl,B1,B2,B3,hs,h1,h2,h3⟩:=h
 have:=tc_one3 z.1 (owb_one h1) (owb_one h2) (owb_one h3)
 intro u hu
 rw [Array.all_eq_true_iff_forall_mem] at this
 exact this u (by simpa [zc] using hu)
theorem cc_put {t t':Cgf} {p p':Value} {o:Nat} {v:Value} (h:CLen t) (e:∀ ip a b c d f g a1 b1 c1 d1 f1 g1 a2 b2 c2 d2 f2 g2 k1 k2 k3 k4 k5 k6 k7 k8 dr te,
  t=⟨ip,[a,b,c,d,f,g],[a1,b1,c1,d1,f1,g1],[a2,b2,c2,d2,f2,g2],[k1,k2,k3,k4,k5,k6,k7,k8],dr,te⟩→(cc t p).set o v=cc t' p'):(cc t p).toArray.setIfInBounds o v=(cc t' p').toArray:=by
 rw [List.setIfInBounds_toArray,cset h e]
theorem cc_ten (t:Cgf) (u u':Value) (h:CLen t):(cc t u).toArray.setIfInBounds 28 u'=(cc t u').toArray :=
 cc_put h (by rintro ip a b c d f g a1 b1 c1 d1 f1 g1 a2 b2 c2 d2 f2 g2 k1 k2 k3 k4 k5 k6 k7 k8 dr te rfl;rfl)
theorem cc_at28 {t:Cgf} (h:CLen t) (u:Value):(cc t u).toArray[28]? = some u:=by
 obtain ⟨ip,m1,m2,m3,k,dr,te⟩:=t
 obtain ⟨h1,h2,h3,h4⟩:=h
 obtain ⟨a,b,c,d,f,g,rfl⟩:=six6 h1
 obtain ⟨a1,b1,c1,d1,f1,g1,rfl⟩:=six6 h2
 obtain ⟨a2,b2,c2,d2,f2,g2,rfl⟩:=six6 h3
 obtain ⟨k1,k2,k3,k4,k5,k6,k7,k8,rfl⟩:=eight8 h4
 rfl
theorem bsliceT (z:Tv) (hl:TLen z.1) (V:World):(Instr.buildSlice 37 1 #[(0,.agg (zc z).toArray)]).run Tryz.prog V=.ok (.slice (some ⟨V.heap.size,0,none⟩) 1 1) (V.alloc (.cells (zc z).toArray 46)):=by
 obtain ⟨⟨n,vn,key,vt,vm,ho,po,lo,hi,fi,st,tw,se,qu,ra,bu⟩,p,s,q⟩:=z
 obtain ⟨h1,h2,h3⟩:=hl
 obtain ⟨a,b,c,d,f,g,x,y,rfl⟩:=eight8 h1
 obtain ⟨a1,b1,c1,d1,f1,g1,rfl⟩:=six6 h2
 obtain ⟨a2,b2,c2,d2,f2,g2,rfl⟩:=six6 h3
 obtain ⟨os,tape,heap⟩:=V
 kernel_rfl
theorem wpList_bsl {ops:Array Oper} {rest:List Oper} {o:Oper} {a:Act} {w w':World} {Q:Exit→Act→World→Prop} (hw:Region.wanted o (yielded ops a.tmps)=true) (ty:TypeId) (n:Nat) (parts:Array (Nat×Operand)) (ho:o.op=.buildSlice ty n parts) {vs:Array (Nat×Value)} {v:Value}
  (hr:(Instr.buildSlice ty n vs).run Tryz.prog w=.ok v w') (hv:(parts.map fun (i,x)=>(i,a.eval x))=vs) (h:wpList Tryz.prog ops Q rest (a.put o.dst v) w'):wpList Tryz.prog ops Q (o::rest) a w :=
 wpList_wanted hw fun _ hK=>by
  subst hv
  unfold Oper.wp execOp
  simp only [ho,Sem.run_bind,hr,Result.andThen_ok,Sem.run_pure]
  exact hK _ _ h
end Go.Proofs.YtdigofgjhaakmaaGreatDoor
