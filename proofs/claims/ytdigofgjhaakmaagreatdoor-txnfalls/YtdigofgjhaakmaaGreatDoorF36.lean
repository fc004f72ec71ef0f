/- Parts of the proof. -/
import Derived.Test.YtdigofgjhaakmaaGreatDoorF35
set_option linter.all false
set_option maxHeartbeats 40000000
set_option maxRecDepth 20000
open List renaming getD_eq_getElem?_getD->a0,getElem?_eq_getElem->a1,length_append->a2,length_cons->a3,length_nil->a4
open Option renaming getD_some->a5
open Nat renaming le_refl->a6
namespace Go.Proofs.YtdigofgjhaakmaaGreatDoor
section
open Go.RowKit La Ad
open Sm (j6)
end
section
open Go.RowKit Sm Cf Va
structure Lig (c:Cgf):Prop where
 cin:CIn c
 crg:CRg c
 ten:∀ t∈c.ten,TIn t/\TRg t/\Lgt t
structure Fine (c:Cgf):Prop where
 lig:Lig c
 len:c.ten.length<=16
 fit:∀ t∈c.ten,Fit t
theorem ji1 {t z:Ten} (h:jaq t z):t=z:=Df.jej.1 h
theorem Fine.cut {c:Cgf} (h:Fine c):ccut c=c:=by
 have hs:=jh8 c h.lig.crg (by have:=h.len;omega) (fun t a=>⟨h.fit t a,(h.lig.ten t a).2.1⟩);obtain ⟨q,p,o,m,l,k,j,g⟩:=hs;have f:c.ten=(ccut c).ten:=by
  apply List.ext_getElem j;intro i b e;have:=ji1 (g i b);rwa [a0,a1 b,a5,a0,a1 e,a5] at this
 cases c;simp only at q p o m l k f;generalize ccut _=d at *;cases d;simp_all
theorem jj2 (ver:Int) (c:Cgf):(jt ver c).take 8=be 8 ver:=by
 rw [jt,List.take_append_of_le_length (by rw [jr];exact a6 _),List.take_of_length_le (by rw [jr];exact a6 _)]
theorem jj3 (ver:Int) (c:Cgf):(jt ver c).drop 8=cenc c:=by
 rw [jt,List.drop_append_of_le_length (by rw [jr];exact a6 _),List.drop_eq_nil_of_le (by rw [jr];exact a6 _),List.nil_append]
theorem jj4 {ver:Int} {c:Cgf} (h:Fine c):cdec ((jt ver c).drop 8)=some c:=by
 rw [jj3,j8m c h.lig.cin.len (fun t a=>(h.lig.ten t a).1.len),h.cut]
theorem jnv {x:Int} (b:0<=x) (a:x<18446744073709551616):num (be 8 x)=x:=by
 simp only [be,num,List.foldl];omega
theorem j9o (ver:Int) (c:Cgf):(jt ver c).length=8+(cenc c).length:=by rw [jt,a2,jr]
theorem zy (enc:Nat->List Int) (c:Nat) (h:∀ i,(enc i).length<=c):∀ n,(cat enc n).length<=n*c
 | 0=>by simp [cat]
 | n+1=>by
  have:=zy enc c h n;have:=h n;rw [cat,a2,Nat.succ_mul];omega
theorem jem (t:Ten) (a:TLen t):(tenc t).length<=5500:=by
 have e:=zy (fun i=>be 4 (t.pool.getD i 0)) 4 (fun i=>by simp only [jr];omega) (min t.pool.length 255);have d:=zy (fun i=>spP.enc (t.stat.getD i (0,0))) 8 (fun i=>by simp only [j3r,a2,jr];omega) (min t.stat.length 255);have c:=zy (fun i=>spP.enc (t.twi.getD i (0,0))) 8 (fun i=>by simp only [j3r,a2,jr];omega) (min t.twi.length 255);have b:(nm t.name).length<=256:=by simp only [nm,a3,List.length_take];omega
 rw [j5p,j5o];simp only [a2,jr,a.key,a.vmac,a.host,a3,a4];omega
theorem j4k (c:Cgf) (a:CLen c) (b:∀ t∈c.ten,TLen t):(cenc c).length<=1500000:=by
 have d:=zy (fun i=>tenc (c.ten.getD i ten0)) 5500 (fun i=>by
  refine jem _ ?_;by_cases h:i<c.ten.length
  ·rw [a0,a1 h,a5];exact b _ (List.getElem_mem _)
  ·rw [a0,List.getElem?_eq_none (by omega),Option.getD_none];exact j1h) (min c.ten.length 255)
 rw [jae,j4j];simp only [a2,jr,a.mac,a.omac,a.nmac,a.key,a3,a4];omega
theorem j7q {c:Cgf}:∀ n i,q9 c i n=0->∀ j,i<=j->j<i+n->pchk c j=0
 | 0,i,_,j,h1,h2=>by omega
 | n+1,i,h,j,h1,h2=>by
  rw [j0w] at h;by_cases h0:pchk c i=0
  ·rw [if_pos h0] at h;by_cases e:j=i
   ·rw [e];exact h0
   ·exact j7q n (i+1) h j (by omega) (by omega)
  ·rw [if_neg h0] at h;exact absurd h h0
theorem j8l {c:Cgf} (h:chk c=0):c.ten.length<=16/\∀ t∈c.ten,tchk t=0:=by
 unfold chk at h;by_cases h0:fnz (grs c)=0
 ·rw [if_pos h0] at h;have d:=j6v.1 h0;refine ⟨?_,fun t b=>?_⟩
  ·have:=(j0g (by decide)).1 (d (ul 96 (decide ((c.ten.length:Int)<=16))) (by simp [grs]));have:=of_decide_eq_true this;omega
  ·obtain ⟨i,hi,rfl⟩:=List.getElem_of_mem b;have a:=j7q _ _ h i (Nat.zero_le _) (by omega);unfold pchk at a;have e:=j6v.1 a (tchk (c.ten.getD i ten0)) (by simp [Va.prs]);rwa [a0,a1 hi,a5] at e
 ·rw [if_neg h0] at h;exact absurd h h0
theorem ji5 {t:Ten} (h:tchk t=0):Fit t:=by
 have a:=j6v.1 (show fnz (Va.trs t)=0 from h);have b:=(j0g (by decide)).1 (a (ul 90 (Ad.nam t.name.data.toList)) (by simp [Va.trs]));have j:=of_decide_eq_true ((j0g (by decide)).1 (a (ul 92 (decide ((t.pool.length:Int)<=8))) (by simp [Va.trs])));have e:=(j0g (by decide)).1 (a (ul 94 (wi t.filter 0 2)) (by simp [Va.trs]));have i:=of_decide_eq_true ((j0g (by decide)).1 (a (ul 94 (decide ((t.stat.length:Int)<=16))) (by simp [Va.trs])));have g:=of_decide_eq_true ((j0g (by decide)).1 (a (ul 94 (decide ((t.twi.length:Int)<=16))) (by simp [Va.trs])));have d:=(j0g (by decide)).1 (a (ul 95 (wi t.sess 1 256)) (by simp [Va.trs]));have c:=(j0g (by decide)).1 (a (ul 95 (wi t.queue 1 64)) (by simp [Va.trs]));unfold wi at e d c;simp only [Bool.and_eq_true,decide_eq_true_eq] at e d c;unfold Ad.nam at b;simp only [Bool.and_eq_true,decide_eq_true_eq] at b;have f:t.name.size<=32:=by have:=b.1.2;simpa using this
 refine ⟨?_,?_,?_,?_,?_,?_,?_,?_,?_,?_⟩<;>omega
theorem jkv {c:Cgf} (b:Lig c) (h:chk c=0):Fine c:=⟨b,(j8l h).1,fun t a=>ji5 ((j8l h).2 t a)⟩
end
end Go.Proofs.YtdigofgjhaakmaaGreatDoor
