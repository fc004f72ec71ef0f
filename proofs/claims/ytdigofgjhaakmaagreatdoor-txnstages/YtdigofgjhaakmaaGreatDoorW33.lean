/-
  Which settings may be: the document's own error of settings.
  What is changed: the document's set, walked.
  The statements' seat of settings: its tenants.
  Settings as text: the program's reader: a tenant's other lines: filter, static, twice, none of these.
-/
import Derived.Test.YtdigofgjhaakmaaGreatDoorW29
import Derived.Test.YtdigofgjhaakmaaGreatDoorW30
import Derived.Test.YtdigofgjhaakmaaGreatDoorW32
import Derived.Laws.Cover1
import Derived.Deep.CutRange
import Derived.Test.YtdigofgjhaakmaaGreatDoorW13
import Derived.BigQuiet
import Derived.Deep.DeepCutAuto
import Derived.Deep.RegionWith
set_option linter.unusedVariables false
set_option linter.unusedSimpArgs false
set_option maxRecDepth 20000
set_option maxHeartbeats 40000000
namespace Go.Proofs.YtdigofgjhaakmaaGreatDoor
open Go.RowKit
open Va
namespace Va
end Va
end Go.Proofs.YtdigofgjhaakmaaGreatDoor
namespace Go.Proofs.YtdigofgjhaakmaaGreatDoor
open Go.RowKit
open Sm
open Cf
open Df
namespace Df
end Df
end Go.Proofs.YtdigofgjhaakmaaGreatDoor
namespace Go.Proofs.YtdigofgjhaakmaaGreatDoor
open Go.RowKit
open La
open Ad
open Sm (IsBytes)
def Tb (w V:World) (gb g4:Nat) (t:Ten):Prop:=∃ L,TAt gb [] [] 46 t L∧Mem w V (L++[(g4,.cells tz 46)])
theorem Tb.after {w V V':World} {gb g4:Nat} {t:Ten} (h:Tb w V gb g4 t) (hb:Below V.heap.size V V'):Tb w V' gb g4 t:=by
 obtain ⟨L,h1,h2⟩:=h;exact ⟨L,h1,h2.after hb⟩
theorem Tb.below {w V:World} {gb g4:Nat} {t:Ten} (h:Tb w V gb g4 t):Below w.heap.size w V:=by obtain ⟨L,h1,h2⟩:=h;exact h2.below
theorem tb_set {w V:World} {gb g4:Nat} {t t':Ten} {o:Nat} {v:Value} (h:Tb w V gb g4 t) (hs:∀ L,TAt gb [] [] 46 t L→∃ A R,L=(gb,.cells A 46)::R∧([]:List Value).length+o < A.size∧TAt gb [] [] 46 t' ((gb,.cells (A.setIfInBounds (([]:List Value).length+o) v) 46)::R)) :
  (∃ v0,V.cell? ⟨gb,o,none⟩=some v0)∧V.frozen? ⟨gb,o,none⟩=false∧Tb w (V.setCell ⟨gb,o,none⟩ v) gb g4 t':=by
 obtain ⟨L,hT,hM⟩:=h
 obtain ⟨A,R,rfl,hlt,hT'⟩:=hs L hT
 rw [List.length_nil,Nat.zero_add] at hlt hT'
 refine ⟨⟨_,(hM.cell 0 rfl o).trans (Array.getElem?_eq_getElem hlt)⟩,hM.free 0 rfl o,_,hT',?_⟩
 exact hM.set 0 rfl o v
theorem tb_pool {w V:World} {gb g4:Nat} {t:Ten} (h:Tb w V gb g4 t) (x:Int) {gs:Nat} (hgs:V.heap.size=gs) :
  (∃ v0,(V.alloc (.cells #[.int .u32 x] 33)).cell? ⟨gb,23,none⟩=some v0)∧(V.alloc (.cells #[.int .u32 x] 33)).frozen? ⟨gb,23,none⟩=false∧Tb w ((V.alloc (.cells #[.int .u32 x] 33)).setCell ⟨gb,23,none⟩ (.slice (some ⟨gs,0,none⟩) 1 1)) gb g4 { t with pool:=[x] }:=by
 obtain ⟨L,⟨hlen,p,s,q,B1,B2,B3,k1,k2,k3,rfl⟩,hM⟩:=h
 have hM1:Mem w V (B1++((gb,.cells ([]++(tc t p s q++[])).toArray 46)::((B2++B3)++[(g4,.cells tz 46)]))):=hM.perm (by
  classical
  rw [List.perm_iff_count]
  intro z
  simp only [List.count_append,List.count_cons,List.count_nil]
  omega)
 have hM2:=hM1.dropA.front (.cells #[.int .u32 x] 33) hgs.symm
 have hlt:23 < ([]++(tc t p s q++[])).toArray.size:=by rw [List.size_toArray];simp [tc_len hlen]
 refine ⟨⟨_,(hM2.cell 1 rfl 23).trans (Array.getElem?_eq_getElem hlt)⟩,hM2.free 1 rfl 23,_,⟨⟨hlen.key,hlen.vmac,hlen.host⟩,.slice (some ⟨gs,0,none⟩) 1 1,s,q,[(gs,.cells #[.int .u32 x] 33)],B2,B3,owb_mk (T:=33) (sz:=1) (n:=1) (cap:=1) (g:=gs) (X:=[.int .u32 x]) (Y:=[]) rfl (Nat.le_refl _) (by unfold maxLen;omega) rfl,k2,k3,rfl⟩,?_⟩
 have hM3:=hM2.set 1 rfl 23 (.slice (some ⟨gs,0,none⟩) 1 1)
 have e:([]++(tc t p s q++[])).toArray.setIfInBounds 23 (.slice (some ⟨gs,0,none⟩) 1 1)=([]++(tc { t with pool:=[x] } (.slice (some ⟨gs,0,none⟩) 1 1) (s) (q)++[])).toArray:=by
  have:=set_mid [] (tc t p s q) [] 23 (.slice (some ⟨gs,0,none⟩) 1 1) (by rw [tc_len hlen];omega)
  rw [List.length_nil,Nat.zero_add] at this
  rw [this]
  rw [tset (t':={ t with pool:=[x] }) (p':=.slice (some ⟨gs,0,none⟩) 1 1) (s':=s) (q':=q) hlen (by rintro n vn a b c d f g x y vt a1 b1 c1 d1 f1 g1 a2 b2 c2 d2 f2 g2 po lo hi fi st tw se qu ra bu rfl;rfl)]
 simp only [List.set_cons_succ,List.set_cons_zero] at hM3
 rw [e] at hM3
 exact hM3.perm (by
  classical
  rw [List.perm_iff_count]
  intro z
  simp only [List.count_append,List.count_cons,List.count_nil]
  omega)
theorem tb_stat {w V:World} {gb g4:Nat} {t:Ten} (h:Tb w V gb g4 t) (x y:Int) {gs:Nat} (hgs:V.heap.size=gs) :
  (∃ v0,(V.alloc (.cells #[.int .u32 x,.int .u32 y] 122)).cell? ⟨gb,27,none⟩=some v0)∧(V.alloc (.cells #[.int .u32 x,.int .u32 y] 122)).frozen? ⟨gb,27,none⟩=false∧Tb w ((V.alloc (.cells #[.int .u32 x,.int .u32 y] 122)).setCell ⟨gb,27,none⟩ (.slice (some ⟨gs,0,none⟩) 1 1)) gb g4 { t with stat:=[(x,y)] }:=by
 obtain ⟨L,⟨hlen,p,s,q,B1,B2,B3,k1,k2,k3,rfl⟩,hM⟩:=h
 have hM1:Mem w V (B2++((gb,.cells ([]++(tc t p s q++[])).toArray 46)::((B1++B3)++[(g4,.cells tz 46)]))):=hM.perm (by
  classical
  rw [List.perm_iff_count]
  intro z
  simp only [List.count_append,List.count_cons,List.count_nil]
  omega)
 have hM2:=hM1.dropA.front (.cells #[.int .u32 x,.int .u32 y] 122) hgs.symm
 have hlt:27 < ([]++(tc t p s q++[])).toArray.size:=by rw [List.size_toArray];simp [tc_len hlen]
 refine ⟨⟨_,(hM2.cell 1 rfl 27).trans (Array.getElem?_eq_getElem hlt)⟩,hM2.free 1 rfl 27,_,⟨⟨hlen.key,hlen.vmac,hlen.host⟩,p,.slice (some ⟨gs,0,none⟩) 1 1,q,B1,[(gs,.cells #[.int .u32 x,.int .u32 y] 122)],B3,k1,owb_mk (T:=122) (sz:=2) (n:=1) (cap:=1) (g:=gs) (X:=[.int .u32 x,.int .u32 y]) (Y:=[]) rfl (Nat.le_refl _) (by unfold maxLen;omega) rfl,k3,rfl⟩,?_⟩
 have hM3:=hM2.set 1 rfl 27 (.slice (some ⟨gs,0,none⟩) 1 1)
 have e:([]++(tc t p s q++[])).toArray.setIfInBounds 27 (.slice (some ⟨gs,0,none⟩) 1 1)=([]++(tc { t with stat:=[(x,y)] } (p) (.slice (some ⟨gs,0,none⟩) 1 1) (q)++[])).toArray:=by
  have:=set_mid [] (tc t p s q) [] 27 (.slice (some ⟨gs,0,none⟩) 1 1) (by rw [tc_len hlen];omega)
  rw [List.length_nil,Nat.zero_add] at this
  rw [this]
  rw [tset (t':={ t with stat:=[(x,y)] }) (p':=p) (s':=.slice (some ⟨gs,0,none⟩) 1 1) (q':=q) hlen (by rintro n vn a b c d f g x y vt a1 b1 c1 d1 f1 g1 a2 b2 c2 d2 f2 g2 po lo hi fi st tw se qu ra bu rfl;rfl)]
 simp only [List.set_cons_succ,List.set_cons_zero] at hM3
 rw [e] at hM3
 exact hM3.perm (by
  classical
  rw [List.perm_iff_count]
  intro z
  simp only [List.count_append,List.count_cons,List.count_nil]
  omega)
theorem tb_twi {w V:World} {gb g4:Nat} {t:Ten} (h:Tb w V gb g4 t) (x y x2 y2:Int) {gs:Nat} (hgs:V.heap.size=gs) :
  (∃ v0,(V.alloc (.cells #[.int .u32 x,.int .u32 y,.int .u32 x2,.int .u32 y2] 122)).cell? ⟨gb,28,none⟩=some v0)∧(V.alloc (.cells #[.int .u32 x,.int .u32 y,.int .u32 x2,.int .u32 y2] 122)).frozen? ⟨gb,28,none⟩=false∧Tb w ((V.alloc (.cells #[.int .u32 x,.int .u32 y,.int .u32 x2,.int .u32 y2] 122)).setCell ⟨gb,28,none⟩ (.slice (some ⟨gs,0,none⟩) 2 2)) gb g4 { t with twi:=[(x,y),(x2,y2)] }:=by
 obtain ⟨L,⟨hlen,p,s,q,B1,B2,B3,k1,k2,k3,rfl⟩,hM⟩:=h
 have hM1:Mem w V (B3++((gb,.cells ([]++(tc t p s q++[])).toArray 46)::((B1++B2)++[(g4,.cells tz 46)]))):=hM.perm (by
  classical
  rw [List.perm_iff_count]
  intro z
  simp only [List.count_append,List.count_cons,List.count_nil]
  omega)
 have hM2:=hM1.dropA.front (.cells #[.int .u32 x,.int .u32 y,.int .u32 x2,.int .u32 y2] 122) hgs.symm
 have hlt:28 < ([]++(tc t p s q++[])).toArray.size:=by rw [List.size_toArray];simp [tc_len hlen]
 refine ⟨⟨_,(hM2.cell 1 rfl 28).trans (Array.getElem?_eq_getElem hlt)⟩,hM2.free 1 rfl 28,_,⟨⟨hlen.key,hlen.vmac,hlen.host⟩,p,s,.slice (some ⟨gs,0,none⟩) 2 2,B1,B2,[(gs,.cells #[.int .u32 x,.int .u32 y,.int .u32 x2,.int .u32 y2] 122)],k1,k2,owb_mk (T:=122) (sz:=2) (n:=2) (cap:=2) (g:=gs) (X:=[.int .u32 x,.int .u32 y,.int .u32 x2,.int .u32 y2]) (Y:=[]) rfl (Nat.le_refl _) (by unfold maxLen;omega) rfl,rfl⟩,?_⟩
 have hM3:=hM2.set 1 rfl 28 (.slice (some ⟨gs,0,none⟩) 2 2)
 have e:([]++(tc t p s q++[])).toArray.setIfInBounds 28 (.slice (some ⟨gs,0,none⟩) 2 2)=([]++(tc { t with twi:=[(x,y),(x2,y2)] } (p) (s) (.slice (some ⟨gs,0,none⟩) 2 2)++[])).toArray:=by
  have:=set_mid [] (tc t p s q) [] 28 (.slice (some ⟨gs,0,none⟩) 2 2) (by rw [tc_len hlen];omega)
  rw [List.length_nil,Nat.zero_add] at this
  rw [this]
  rw [tset (t':={ t with twi:=[(x,y),(x2,y2)] }) (p':=p) (s':=s) (q':=.slice (some ⟨gs,0,none⟩) 2 2) hlen (by rintro n vn a b c d f g x y vt a1 b1 c1 d1 f1 g1 a2 b2 c2 d2 f2 g2 po lo hi fi st tw se qu ra bu rfl;rfl)]
 simp only [List.set_cons_succ,List.set_cons_zero] at hM3
 rw [e] at hM3
 exact hM3.perm (by
  classical
  rw [List.perm_iff_count]
  intro z
  simp only [List.count_append,List.count_cons,List.count_nil]
  omega)
theorem tb_more {w V:World} {gb g4:Nat} {t:Ten} (h:Tb w V gb g4 t) (hl:t.pool.length≤900000) (y:Int):∃ pa pm pc,V.cell? ⟨gb,23,none⟩=some (.slice pa pm pc)∧(V.alloc (.cells #[.int .u32 y] 33)).cell? ⟨gb,23,none⟩=some (.slice pa pm pc)∧∃ v4 V4,(Builtin.append_ #[43,43] 43 #[.slice pa pm pc,.slice (some ⟨V.heap.size,0,none⟩) 1 1]).run Tryz.prog (V.alloc (.cells #[.int .u32 y] 33))=.ok v4 V4∧(∃ a m c,v4=.slice a m c)∧(∃ v0,V4.cell? ⟨gb,23,none⟩=some v0)∧(∀ j,V4.frozen? ⟨gb,j,none⟩=false) ∧
   ∀ a m c,v4=.slice a m c→Tb w (V4.setCell ⟨gb,23,none⟩ v4) gb g4 { t with pool:=t.pool++[y] }:=by
 obtain ⟨L,hT,hM⟩:=h
 obtain ⟨A,p,B,R,hperm,hpA,hB,hlt,hnew⟩:=(tat_list hT w []).1
 rw [List.length_nil,Nat.zero_add] at hpA hlt hnew
 have hM2:Mem w V ((gb,.cells A 46)::(B++(R++[(g4,.cells tz 46)]))):=(hM.perm (hperm.append_right _)).perm (by
  classical
  rw [List.perm_iff_count]
  intro z
  simp only [List.count_append,List.count_cons,List.count_nil]
  omega)
 obtain ⟨pa,pm,pc,rfl⟩:=owb_slice hB
 have hM3:=hM2.after ((Below.refl V.heap.size V).alloc (Nat.le_refl _) (.cells #[.int .u32 y] 33))
 refine ⟨pa,pm,pc,(hM2.cell 0 rfl 23).trans hpA,(hM3.cell 0 rfl 23).trans hpA,?_⟩
 obtain ⟨v4,V4,B4,hrun,hM4,hB4⟩:=mem_append (t:=43) (ty:=43) Tryz.underlying43 infoU rfl (by decide) (K:=(gb,.cells A 46)::(R++[(g4,.cells tz 46)])) (hM3.perm (by
  classical
  rw [List.perm_iff_count]
  intro z
  simp only [List.count_append,List.count_cons,List.count_nil]
  omega)) hB ⟨V.heap.size,0,none⟩ [.int .u32 y] rfl (fun j u hj=>by
   rw [addr_mid,Nat.zero_add,World.cell?_alloc_new]
   simpa using hj) (by simp;rfl) (by omega) (by omega)
 have hM5:Mem w V4 ((gb,.cells A 46)::(B4++(R++[(g4,.cells tz 46)]))):=hM4.perm (by
  classical
  rw [List.perm_iff_count]
  intro z
  simp only [List.count_append,List.count_cons,List.count_nil]
  omega)
 refine ⟨v4,V4,hrun,owb_slice hB4,⟨_,(hM5.cell 0 rfl 23).trans hpA⟩,hM5.free 0 rfl,fun a m c e=>?_⟩
 subst e
 refine ⟨_,hnew y a m c B4 hB4,?_⟩
 have:=hM5.set 0 rfl 23 (.slice a m c)
 rw [List.set_cons_zero] at this
 exact this.perm (by
  classical
  rw [List.perm_iff_count]
  intro z
  simp only [List.count_append,List.count_cons,List.count_nil]
  omega)
theorem and_low {k:IntKind} (j:Nat) (hj:j≤k.bits) (hk:∀ n:Int,0≤n→n < 2 ^ j→k.wrap n=n) (i:Nat) (hi:i≤j) (m x:Int) (hm:m=2 ^ i - 1) (h0:0≤x) (h1:x < 2 ^ j):0≤bits .and k x m∧bits .and k x m≤m:=by
 subst hm
 rw [bits_mask k j hj hk i hi x h0 h1]
 have hp:(0:Int) < 2 ^ i:=Int.pow_pos (by decide)
 exact ⟨Int.emod_nonneg _ (by omega),by have:=Int.emod_lt_of_pos x hp;omega⟩
end Go.Proofs.YtdigofgjhaakmaaGreatDoor
namespace Go.Proofs.YtdigofgjhaakmaaGreatDoor
open Go.RowKit
open La
open Ad
end Go.Proofs.YtdigofgjhaakmaaGreatDoor
