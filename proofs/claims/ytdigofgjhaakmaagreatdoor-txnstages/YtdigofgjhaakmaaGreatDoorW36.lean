/-
  The statements' seat of settings: its settings.
  Settings that a record keeps: what is read back is what was written.
-/
import Derived.Test.YtdigofgjhaakmaaGreatDoorW33
import Derived.Test.YtdigofgjhaakmaaGreatDoorW35
import Derived.Test.YtdigofgjhaakmaaGreatDoorW20
import Derived.Test.YtdigofgjhaakmaaGreatDoorW28
import Derived.Test.YtdigofgjhaakmaaGreatDoorW22
import Derived.Test.YtdigofgjhaakmaaGreatDoorW19
set_option linter.unusedVariables false
set_option linter.unusedSimpArgs false
set_option maxRecDepth 20000
set_option maxHeartbeats 40000000
namespace Go.Proofs.YtdigofgjhaakmaaGreatDoor
open Go.RowKit
open La
open Ad
open Sm (IsBytes)
def Cu (w V:World) (gc g4:Nat) (c:Cgf) (u:Value):Prop:=∃ (zs:List Tv) (B C:List (Nat×Obj)),zs.map Prod.fst=c.ten∧OwB 46 33 u zs.length (zs.map zc).flatten B∧(∀ z∈zs,ZB z C)∧CLen c∧Mem w V ((gc,.cells (cc c u).toArray 39)::(g4,.cells cz 39)::(B++C))
theorem Cu.after {w V V':World} {gc g4:Nat} {c:Cgf} {u:Value} (h:Cu w V gc g4 c u) (hb:Below V.heap.size V V'):Cu w V' gc g4 c u:=by
 obtain ⟨zs,B,C,h1,h2,h3,h4,h5⟩:=h;exact ⟨zs,B,C,h1,h2,h3,h4,h5.after hb⟩
theorem Cu.below {w V:World} {gc g4:Nat} {c:Cgf} {u:Value} (h:Cu w V gc g4 c u):Below w.heap.size w V:=by
 obtain ⟨zs,B,C,h1,h2,h3,h4,h5⟩:=h;exact h5.below
theorem Cu.cell {w V:World} {gc g4:Nat} {c:Cgf} {u:Value} (h:Cu w V gc g4 c u):V.cell? ⟨gc,28,none⟩=some u:=by
 obtain ⟨zs,B,C,h1,h2,h3,h4,h5⟩:=h;exact (h5.cell 0 rfl 28).trans (cc_at28 h4 u)
end Go.Proofs.YtdigofgjhaakmaaGreatDoor
namespace Go.Proofs.YtdigofgjhaakmaaGreatDoor
open Go.RowKit
open Sm
open Cf
open Va
structure Lig (c:Cgf):Prop where
 cin:CIn c
 crg:CRg c
 ten:∀ t∈c.ten,TIn t∧TRg t∧Lgt t
structure Fine (c:Cgf):Prop where
 lig:Lig c
 len:c.ten.length≤16
 fit:∀ t∈c.ten,Fit t
theorem tsame_eq {t z:Ten} (h:TSame t z):t=z:=Df.tsame_iff.1 h
theorem Fine.cut {c:Cgf} (h:Fine c):ccut c=c:=by
 have hs:=csame_cut c h.lig.crg (by have:=h.len;omega) (fun t ht=>⟨h.fit t ht,(h.lig.ten t ht).2.1⟩)
 obtain ⟨e1,e2,e3,e4,e5,e6,e7,e8⟩:=hs
 have e9:c.ten=(ccut c).ten:=by
  apply List.ext_getElem e7
  intro i h1 h2
  have:=tsame_eq (e8 i h1)
  rwa [List.getD_eq_getElem?_getD,List.getElem?_eq_getElem h1,Option.getD_some,List.getD_eq_getElem?_getD,List.getElem?_eq_getElem h2,Option.getD_some] at this
 cases c
 simp only at e1 e2 e3 e4 e5 e6 e9
 generalize ccut _=d at *
 cases d
 simp_all
theorem rcd_take (ver:Int) (c:Cgf):(rcd16 ver c).take 8=be 8 ver:=by
 rw [rcd16,List.take_append_of_le_length (by rw [be_len];exact Nat.le_refl _),List.take_of_length_le (by rw [be_len];exact Nat.le_refl _)]
theorem rcd_drop (ver:Int) (c:Cgf):(rcd16 ver c).drop 8=cenc c:=by
 rw [rcd16,List.drop_append_of_le_length (by rw [be_len];exact Nat.le_refl _),List.drop_eq_nil_of_le (by rw [be_len];exact Nat.le_refl _),List.nil_append]
theorem rcd_back {ver:Int} {c:Cgf} (h:Fine c):cdec ((rcd16 ver c).drop 8)=some c:=by
 rw [rcd_drop,cdec_back c h.lig.cin.len (fun t ht=>(h.lig.ten t ht).1.len),h.cut]
theorem num_be8 {x:Int} (h0:0≤x) (h1:x < 18446744073709551616):num (be 8 x)=x:=by
 simp only [be,num,List.foldl]
 omega
theorem rcd_len (ver:Int) (c:Cgf):(rcd16 ver c).length=8+(cenc c).length:=by rw [rcd16,List.length_append,be_len]
theorem cat_le16 (enc:Nat→List Int) (c:Nat) (h:∀ i,(enc i).length≤c):∀ n,(cat enc n).length≤n * c
 | 0=>by simp [cat]
 | n+1=>by
  have:=cat_le16 enc c h n
  have:=h n
  rw [cat,List.length_append,Nat.succ_mul]
  omega
theorem tenc_le16 (t:Ten) (hl:TLen t):(tenc t).length≤5500:=by
 have h1:=cat_le16 (fun i=>be 4 (t.pool.getD i 0)) 4 (fun i=>by simp only [be_len];omega) (min t.pool.length 255)
 have h2:=cat_le16 (fun i=>spP.enc (t.stat.getD i (0,0))) 8 (fun i=>by simp only [spP_enc,List.length_append,be_len];omega) (min t.stat.length 255)
 have h3:=cat_le16 (fun i=>spP.enc (t.twi.getD i (0,0))) 8 (fun i=>by simp only [spP_enc,List.length_append,be_len];omega) (min t.twi.length 255)
 have h4:(nm t.name).length≤256:=by simp only [nm,List.length_cons,List.length_take];omega
 rw [tenc_eq,thead_eq]
 simp only [List.length_append,be_len,hl.key,hl.vmac,hl.host,List.length_cons,List.length_nil]
 omega
theorem cenc_le16 (c:Cgf) (hl:CLen c) (ht:∀ t∈c.ten,TLen t):(cenc c).length≤1500000:=by
 have h1:=cat_le16 (fun i=>tenc (c.ten.getD i ten0)) 5500 (fun i=>by
  refine tenc_le16 _ ?_
  by_cases h:i < c.ten.length
  ·rw [List.getD_eq_getElem?_getD,List.getElem?_eq_getElem h,Option.getD_some]
   exact ht _ (List.getElem_mem _)
  ·rw [List.getD_eq_getElem?_getD,List.getElem?_eq_none (by omega),Option.getD_none]
   exact ten0_len) (min c.ten.length 255)
 rw [cenc_eq,chead]
 simp only [List.length_append,be_len,hl.mac,hl.omac,hl.nmac,hl.key,List.length_cons,List.length_nil]
 omega
theorem pfrom_all {c:Cgf}:∀ n i,pfrom c i n=0→∀ j,i≤j→j < i+n→pchk c j=0
 | 0,i,_,j,h1,h2=>by omega
 | n+1,i,h,j,h1,h2=>by
  rw [pfrom_succ] at h
  by_cases h0:pchk c i=0
  ·rw [if_pos h0] at h
   by_cases e:j=i
   ·rw [e];exact h0
   ·exact pfrom_all n (i+1) h j (by omega) (by omega)
  ·rw [if_neg h0] at h;exact absurd h h0
theorem chk_parts {c:Cgf} (h:chk c=0):c.ten.length≤16∧∀ t∈c.ten,tchk t=0:=by
 unfold chk at h
 by_cases h0:fnz (grs c)=0
 ·rw [if_pos h0] at h
  have hg:=fnz_zero.1 h0
  refine ⟨?_,fun t ht=>?_⟩
  ·have:=(ul_zero (by decide)).1 (hg (ul 96 (decide ((c.ten.length:Int)≤16))) (by simp [grs]))
   have:=of_decide_eq_true this
   omega
  ·obtain ⟨i,hi,rfl⟩:=List.getElem_of_mem ht
   have h1:=pfrom_all _ _ h i (Nat.zero_le _) (by omega)
   unfold pchk at h1
   have h2:=fnz_zero.1 h1 (tchk (c.ten.getD i ten0)) (by simp [Va.prs])
   rwa [List.getD_eq_getElem?_getD,List.getElem?_eq_getElem hi,Option.getD_some] at h2
 ·rw [if_neg h0] at h;exact absurd h h0
theorem tchk_fit {t:Ten} (h:tchk t=0):Fit t:=by
 have hg:=fnz_zero.1 (show fnz (Va.trs t)=0 from h)
 have a1:=(ul_zero (by decide)).1 (hg (ul 90 (Ad.nam t.name.data.toList)) (by simp [Va.trs]))
 have a2:=of_decide_eq_true ((ul_zero (by decide)).1 (hg (ul 92 (decide ((t.pool.length:Int)≤8))) (by simp [Va.trs])))
 have a3:=(ul_zero (by decide)).1 (hg (ul 94 (wi t.filter 0 2)) (by simp [Va.trs]))
 have a4:=of_decide_eq_true ((ul_zero (by decide)).1 (hg (ul 94 (decide ((t.stat.length:Int)≤16))) (by simp [Va.trs])))
 have a5:=of_decide_eq_true ((ul_zero (by decide)).1 (hg (ul 94 (decide ((t.twi.length:Int)≤16))) (by simp [Va.trs])))
 have a6:=(ul_zero (by decide)).1 (hg (ul 95 (wi t.sess 1 256)) (by simp [Va.trs]))
 have a7:=(ul_zero (by decide)).1 (hg (ul 95 (wi t.queue 1 64)) (by simp [Va.trs]))
 unfold wi at a3 a6 a7
 simp only [Bool.and_eq_true,decide_eq_true_eq] at a3 a6 a7
 unfold Ad.nam at a1
 simp only [Bool.and_eq_true,decide_eq_true_eq] at a1
 have a8:t.name.size≤32:=by have:=a1.1.2;simpa using this
 refine ⟨?_,?_,?_,?_,?_,?_,?_,?_,?_,?_⟩ <;> omega
theorem chk_fine {c:Cgf} (hl:Lig c) (h:chk c=0):Fine c:=⟨hl,(chk_parts h).1,fun t ht=>tchk_fit ((chk_parts h).2 t ht)⟩
end Go.Proofs.YtdigofgjhaakmaaGreatDoor
