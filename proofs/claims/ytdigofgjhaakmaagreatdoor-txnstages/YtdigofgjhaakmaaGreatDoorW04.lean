/-
  Settings as bytes: fields one behind the other (lych/api.Pair).
  Settings as bytes: the field of a text (lych/api.Tenant).
  Settings as bytes: the field of a number (lych/api.Tenant, uint16): what it writes, reads, holds to be the same.
  Settings as bytes: the field of a number (lych/api.Tenant, uint32): what it writes, reads, holds to be the same.
  Settings as bytes: fields one behind the other (lych/api.Config).
  Settings as bytes: the field of a number (lych/api.Config, uint32): what it writes, reads, holds to be the same.
  Settings as bytes: what a tenant is, its cells in memory, rows of elements of so many cells.
-/
import Derived.Test.YtdigofgjhaakmaaGreatDoorW03
set_option linter.unusedVariables false
set_option maxRecDepth 20000
set_option maxHeartbeats 40000000
namespace Go.Proofs.YtdigofgjhaakmaaGreatDoor
open Go.RowKit
open Sm
open Cf
theorem awr_P {H:Value→List Int→World→Prop} (hst:∀ v l V V',H v l V→Below V.heap.size V V'→H v l V') (p:Addr) (cb lb n:Nat) (hn:n≤1000) (kw kr ks:Nat→Nat) (cw cr cs:Nat→Array Value)
  (hcb:∀ v l V,H v l V→V.cell? ⟨cb,0,none⟩=some (.slice (some ⟨lb,0,none⟩) n n))
  (hlb:∀ v l V,H v l V→∀ i,i < n→V.cell? ⟨lb,i * 3,none⟩=some (.func (.func (kw i)) #[] (cw i))∧V.cell? ⟨lb,i * 3+1,none⟩=some (.func (.func (kr i)) #[] (cr i))∧V.cell? ⟨lb,i * 3+2,none⟩=some (.func (.func (ks i)) #[] (cs i)))
  (enc:Nat→List Int) (en:∀ i,i < n→∀ args V,(callFunc (kw i) args).run Tryz.prog V=.ok (.enter (kw i) args) V)
  (hw:∀ i,i < n→∀ v l V,H v l V→l.length+(enc i).length≤1000000000→Calls Tryz.prog (kw i) (#[v,.pointer (some p)]++cw i) V fun e V'=>∃ v',e=.returned v'∧H v' (l++enc i) V')
  (v:Value) (l:List Int) (W:World) (h:H v l W) (hb:l.length+(cat enc n).length≤1000000000) :
  Calls Tryz.prog 318 #[v,.pointer (some p),.pointer (some ⟨cb,0,none⟩)] W fun e W'=>∃ v',e=.returned v'∧H v' (l++cat enc n) W':=by
 have c0:=hcb _ _ _ h
 go_enter Tryz.func318,Tryz.ntmps318
 go_wp2_with fail
 go_loopw [0,10] (fun u0 u10 w'=>∃ i:Nat,i≤n∧u10=.int .i64 i∧Hid (H u0 (l++cat enc i) w')) (fun u0 u10 w'=>n - (intOf u10).toNat)
 case atStart=>exact ⟨0,Nat.zero_le _,rfl,by rw [cat,List.append_nil];exact h⟩
 case round =>
  obtain ⟨i,hi,rfl,HR⟩:=hrel
  by_cases hlt:i < n
  ·have h1:(i:Int) < n:=by omega
   obtain ⟨d0,d1,d2⟩:=hlb _ _ _ HR.out i hlt
   have eg:=en i hlt
   have HW:Hid (∀ V,Below wr.heap.size wr V→Calls Tryz.prog (kw i) (#[u0,.pointer (some p)]++cw i) V fun e V'=>∃ v',e=.returned v'∧H v' (l++cat enc (i+1)) V'):=by
    intro V hV
    have:=hw i hlt u0 _ V (hst _ _ _ _ HR.out hV) (by rw [List.length_append];have:=cat_le enc i n hlt;omega)
    rwa [List.append_assoc] at this
   clear hw en hlb hcb hst c0
   generalize kw i=k1 at d0 eg HW
   generalize kr i=k2 at d1
   generalize ks i=k3 at d2
   generalize cw i=q1 at d0 HW
   generalize cr i=q2 at d1
   generalize cs i=q3 at d2
   go_wp2_with fail
   refine (HW.out _ ?hb).mono ?_
   case hb=>exact (Below.refl _ _).alloc (Nat.le_refl _) _
   rintro e V ⟨v',rfl,hH⟩
   have HH:Hid (H v' (l++cat enc (i+1)) V):=hH
   clear hH HW HR
   go_wp2_with fail
   go_roundw
   case rel=>exact ⟨i+1,by omega,by go_num,HH⟩
   case measure=>simp [intOf];omega
  ·have h1:¬ ((i:Int) < n):=by omega
   obtain rfl:i=n:=by omega
   go_wp2_with fail
   go_ret
   exact ⟨_,rfl,HR.out⟩
theorem ard_P {σ:Type} {w:World} {L:List (Nat×Obj)} {J:σ→World→Prop} (hst:∀ s V V',J s V→Below V.heap.size V V'→J s V') (p:Addr) (cb lb n:Nat) (hn:n≤1000) (kw kr ks:Nat→Nat) (cw cr cs:Nat→Array Value)
  (hcb:∀ s V,J s V→V.cell? ⟨cb,0,none⟩=some (.slice (some ⟨lb,0,none⟩) n n))
  (hlb:∀ s V,J s V→∀ i,i < n→V.cell? ⟨lb,i * 3,none⟩=some (.func (.func (kw i)) #[] (cw i))∧V.cell? ⟨lb,i * 3+1,none⟩=some (.func (.func (kr i)) #[] (cr i))∧V.cell? ⟨lb,i * 3+2,none⟩=some (.func (.func (ks i)) #[] (cs i)))
  (dec:Nat→List Int→σ→Option (σ×List Int)) (en:∀ i,i < n→∀ args V,(callFunc (kr i) args).run Tryz.prog V=.ok (.enter (kr i) args) V)
  (hr:∀ i,i < n→∀ s l a c V,J s V→Sl w a l c→Calls Tryz.prog (kr i) (#[.slice a l.length c,.pointer (some p)]++cr i) V (RPost w L J (dec i l s)))
  (s:σ) (l:List Int) (a:Option Addr) (c:Nat) (W:World) (h:J s W) (hS:Sl w a l c) :
  Calls Tryz.prog 319 #[.slice a l.length c,.pointer (some p),.pointer (some ⟨cb,0,none⟩)] W (RPost w L J (sq dec 0 n l s)):=by
 have c0:=hcb _ _ h
 obtain ⟨R,hR⟩:∃ R,sq dec 0 n l s=R:=⟨_,rfl⟩
 rw [hR]
 go_enter Tryz.func319,Tryz.ntmps319
 go_wp2_with fail
 go_loopw [0,13] (fun u0 u13 w'=>∃ (i:Nat) (s':σ) (l':List Int) (a':Option Addr) (c':Nat),i≤n∧u13=.int .i64 i∧u0=.slice a' l'.length c'∧Hid (J s' w'∧Sl w a' l' c'∧sq dec i (n - i) l' s'=R)) (fun u0 u13 w'=>n - (intOf u13).toNat)
 case atStart=>exact ⟨0,s,l,a,c,Nat.zero_le _,rfl,rfl,h,hS,by simpa using hR⟩
 case round =>
  obtain ⟨i,s',l',a',c',hi,rfl,rfl,HR⟩:=hrel
  obtain ⟨hJ,hSl,hsq⟩:=HR.out
  by_cases hlt:i < n
  ·have h1:(i:Int) < n:=by omega
   obtain ⟨d0,d1,d2⟩:=hlb _ _ hJ i hlt
   have eg:=en i hlt
   have HW:Hid (∀ V,Below wr.heap.size wr V→Calls Tryz.prog (kr i) (#[.slice a' l'.length c',.pointer (some p)]++cr i) V (RPost w L J (dec i l' s'))):=fun V hV=>hr i hlt s' l' a' c' V (hst _ _ _ hJ hV) hSl
   rw [show n - i=(n - (i+1))+1 by omega,sq] at hsq
   clear hr en hlb hcb hst c0 hJ hSl hR HR h hS
   generalize kw i=k1 at d0
   generalize kr i=k2 at d1 eg HW
   generalize ks i=k3 at d2
   generalize cw i=q1 at d0
   generalize cr i=q2 at d1 HW
   generalize cs i=q3 at d2
   generalize l'.length=m at HW
   cases hd:dec i l' s' with
   | none =>
    rw [hd] at hsq HW
    simp only at hsq
    subst hsq
    go_wp2_with fail
    refine (HW.out _ ?hb).mono ?_
    case hb=>exact (Below.refl _ _).alloc (Nat.le_refl _) _
    rintro e V ⟨rfl,hM⟩
    clear HW
    go_wp2_with fail
    go_ret2
    exact ⟨rfl,hM⟩
   | some x =>
    obtain ⟨s2,l2⟩:=x
    rw [hd] at hsq HW
    simp only at hsq
    go_wp2_with fail
    refine (HW.out _ ?hb2).mono ?_
    case hb2=>exact (Below.refl _ _).alloc (Nat.le_refl _) _
    rintro e V ⟨a2,c2,rfl,hS2,hJ2⟩
    have HH:Hid (J s2 V∧Sl w a2 l2 c2∧sq dec (i+1) (n - (i+1)) l2 s2=R):=⟨hJ2,hS2,hsq⟩
    clear HW hJ2 hS2 hsq hd
    go_wp2_with fail
    go_roundw
    case rel=>exact ⟨i+1,s2,l2,a2,c2,by omega,by go_num,rfl,HH⟩
    case measure=>simp [intOf];omega
  ·have h1:¬ ((i:Int) < n):=by omega
   obtain rfl:i=n:=by omega
   rw [Nat.sub_self,sq] at hsq
   subst hsq
   clear HR
   go_wp2_with fail
   go_ret2
   exact ⟨_,_,rfl,hSl,hJ⟩
theorem asm_P {M:World→Prop} (hst:∀ V V',M V→Below V.heap.size V V'→M V') (p q:Addr) (cb lb n:Nat) (hn:n≤1000) (kw kr ks:Nat→Nat) (cw cr cs:Nat→Array Value)
  (hcb:∀ V,M V→V.cell? ⟨cb,0,none⟩=some (.slice (some ⟨lb,0,none⟩) n n))
  (hlb:∀ V,M V→∀ i,i < n→V.cell? ⟨lb,i * 3,none⟩=some (.func (.func (kw i)) #[] (cw i))∧V.cell? ⟨lb,i * 3+1,none⟩=some (.func (.func (kr i)) #[] (cr i))∧V.cell? ⟨lb,i * 3+2,none⟩=some (.func (.func (ks i)) #[] (cs i)))
  (eq:Nat→Bool) (en:∀ i,i < n→∀ args V,(callFunc (ks i) args).run Tryz.prog V=.ok (.enter (ks i) args) V)
  (hr:∀ i,i < n→∀ V,M V→Calls Tryz.prog (ks i) (#[.pointer (some p),.pointer (some q)]++cs i) V fun e V'=>e=.returned (.bool (eq i))∧M V')
  (W:World) (h:M W) :
  Calls Tryz.prog 320 #[.pointer (some p),.pointer (some q),.pointer (some ⟨cb,0,none⟩)] W fun e V'=>e=.returned (.bool (decide (∀ i,i < n→eq i=true)))∧M V':=by
 have c0:=hcb _ h
 obtain ⟨D,hD⟩:∃ D,decide (∀ i,i < n→eq i=true)=D:=⟨_,rfl⟩
 rw [hD]
 go_enter Tryz.func320,Tryz.ntmps320
 go_wp2_with fail
 go_loopw [10] (fun u10 w'=>∃ (i:Nat),i≤n∧u10=.int .i64 i∧Hid (M w'∧∀ j,j < i→eq j=true)) (fun u10 w'=>n - (intOf u10).toNat)
 case atStart=>exact ⟨0,Nat.zero_le _,rfl,h,fun j hj=>by omega⟩
 case round =>
  obtain ⟨i,hi,rfl,HR⟩:=hrel
  obtain ⟨hM,hall⟩:=HR.out
  by_cases hlt:i < n
  ·have h1:(i:Int) < n:=by omega
   obtain ⟨d0,d1,d2⟩:=hlb _ hM i hlt
   have eg:=en i hlt
   have HW:Hid (∀ V,Below wr.heap.size wr V→Calls Tryz.prog (ks i) (#[.pointer (some p),.pointer (some q)]++cs i) V fun e V'=>e=.returned (.bool (eq i))∧M V'):=fun V hV=>hr i hlt V (hst _ _ hM hV)
   have HA:Hid (∀ j,j < i→eq j=true):=hall
   clear hr en hlb hcb hst c0 hM HR h hall
   generalize kw i=k1 at d0
   generalize kr i=k2 at d1
   generalize ks i=k3 at d2 eg HW
   generalize cw i=q1 at d0
   generalize cr i=q2 at d1
   generalize cs i=q3 at d2 HW
   cases hd:eq i with
   | false =>
    rw [hd] at HW
    obtain rfl:D=false:=by
     rw [←hD]
     apply decide_eq_false
     intro hc
     have:=hc i hlt
     rw [hd] at this
     cases this
    clear hd hD
    go_wp2_with fail
    refine (HW.out _ ?hb).mono ?_
    case hb=>exact (Below.refl _ _).alloc (Nat.le_refl _) _
    rintro e V ⟨rfl,hM⟩
    clear HW
    go_wp2_with fail
    go_ret
    exact ⟨rfl,hM⟩
   | true =>
    rw [hd] at HW
    have HF:Hid (∀ j,j < i+1→eq j=true):=by
     intro j hj
     by_cases e:j=i
     ·subst e;exact hd
     ·exact HA.out j (by omega)
    clear hd
    go_wp2_with fail
    refine (HW.out _ ?hb2).mono ?_
    case hb2=>exact (Below.refl _ _).alloc (Nat.le_refl _) _
    rintro e V ⟨rfl,hM⟩
    have HH:Hid (M V∧∀ j,j < i+1→eq j=true):=⟨hM,HF.out⟩
    clear HW hM
    go_wp2_with fail
    go_roundw
    case rel=>exact ⟨i+1,by omega,by go_num,HH⟩
    case measure=>simp [intOf];omega
  ·have h1:¬ ((i:Int) < n):=by omega
   obtain rfl:i=n:=by omega
   obtain rfl:D=true:=by
    rw [←hD]
    exact decide_eq_true hall
   clear HR hall hD
   go_wp2_with fail
   go_ret
   exact ⟨rfl,hM⟩
theorem twr_T {w W:World} {v:Value} {l:List Int} {L:List (Nat×Obj)} (h:Out w W v l L) (bo ko:Nat) (p p':Addr) (s:ByteArray) (hsb:s.size≤140737488351232)
  (co:∀ V,Mem w V L→V.cell? ⟨bo,0,none⟩=some (.func (.func ko) #[] #[]))
  (eo:∀ args V,(callFunc ko args).run Tryz.prog V=.ok (.enter ko args) V) (ho:∀ V,Calls Tryz.prog ko #[.pointer (some p)] V fun e V'=>e=.returned (.pointer (some p'))∧V=V')
  (cx:∀ V,Mem w V L→V.cell? p'=some (.string s)) (hb:l.length+(nm s).length≤1000000000) :
  Calls Tryz.prog 273 #[v,.pointer (some p),.pointer (some ⟨bo,0,none⟩)] W fun e W'=>∃ v',e=.returned v'∧Out w W' v' (l++nm s) L:=by
 have c2:=co _ h.mem
 have c3:=cx _ h.mem
 have hnl:(nm s).length=1+min s.size 255:=by
  simp only [nm,List.length_cons,List.length_take,sb_len];omega
 rw [hnl] at hb
 clear hnl
 obtain ⟨k,hk⟩:∃ k,min s.size 255=k:=⟨_,rfl⟩
 obtain ⟨s',hs'⟩:∃ s',s.extract 0 k=s':=⟨_,rfl⟩
 have hsl:∀ V,(Instr.slice 9 (.string s) none (some (.int .i64 k)) none).run Tryz.prog V=.ok (.string s') V:=by
  intro V
  rw [run_slice_string_h V 9 s Tryz.underlying9 .i64 k (by omega) (by omega),Int.toNat_natCast,hs']
 have hz:s'.size=k:=by rw [←hs',ByteArray.size_extract];omega
 have hsb':sb s'=(sb s).take 255:=by
  rw [←hs']
  unfold sb
  rw [Lib.extract_data,List.drop_zero,Nat.sub_zero,List.map_take]
  rw [←hk]
  by_cases hc:s.size≤255
  ·rw [Nat.min_eq_left hc,List.take_of_length_le (l:=List.map _ _) (by rw [List.length_map,Array.length_toList];exact Nat.le_refl _),List.take_of_length_le (by rw [List.length_map,Array.length_toList];exact hc)]
  ·rw [Nat.min_eq_right (by omega)]
 obtain ⟨v1,W1,hr1,hO1⟩:=out_one h (k:Int) (by omega) (by omega) 86
 obtain ⟨v2,W2,hr2,hO2⟩:=out_str hO1 s' (by rw [List.length_append,hz];simp;omega) 86
 rw [hsb',List.append_assoc] at hO2
 have HO:Hid (Out w W2 v2 (l++nm s) L):=by
  unfold nm
  rw [hk]
  exact hO2
 have e1:IntKind.u8.wrap (k:Int)=k:=by rw [wrapu8];omega
 have e2:(k:Int) % 256=k:=by omega
 rw [←hz] at e1 e2 hr1
 clear h co cx hO1 hO2 hsb' hs'
 by_cases hc:s.size≤255
 ·have hk2:k=s.size:=by omega
  have h1:(s.size:Int)≤255:=by omega
  have h2:¬ ((255:Int) < s.size):=by omega
  rw [hk2] at hsl
  clear hk hz hk2
  go_enter Tryz.func273,Tryz.ntmps273
  go_wp2_with fail
  refine (ho _).mono ?_
  rintro e V ⟨rfl,rfl⟩
  go_wp2_with (first | (at_builtin;refine wpList_append_run (.tmp 17) (.tmp 21) 86 86 (by with_reducible rfl) hr1 rfl rfl (by simp [Act.eval]) (by simp [Act.eval]) ?_) | (at_builtin;refine wpList_append_run (.tmp 22) (.tmp 23) 86 9 (by with_reducible rfl) hr2 rfl rfl (by simp [Act.eval]) (by simp [Act.eval]) ?_))
  go_ret
  exact ⟨_,rfl,HO.out⟩
 ·have hk2:k=255:=by omega
  have h1:¬ ((s.size:Int)≤255):=by omega
  have h2:(255:Int) < s.size:=by omega
  rw [hk2] at hsl
  simp only [Int.cast_ofNat_Int] at hsl
  clear hk hz hk2
  go_enter Tryz.func273,Tryz.ntmps273
  go_wp2_with fail
  refine (ho _).mono ?_
  rintro e V ⟨rfl,rfl⟩
  go_wp2_with (first | (at_builtin;refine wpList_append_run (.tmp 17) (.tmp 21) 86 86 (by with_reducible rfl) hr1 rfl rfl (by simp [Act.eval]) (by simp [Act.eval]) ?_) | (at_builtin;refine wpList_append_run (.tmp 22) (.tmp 23) 86 9 (by with_reducible rfl) hr2 rfl rfl (by simp [Act.eval]) (by simp [Act.eval]) ?_))
  go_ret
  exact ⟨_,rfl,HO.out⟩
theorem trd_T {w W:World} {a:Option Addr} {l:List Int} {c:Nat} {L:List (Nat×Obj)} {g:Nat} {A:Array Value} {T:TypeId} (hM:Mem w W ((g,.cells A T (0,0))::L)) (hS:Sl w a l c) (bo ko j:Nat) (p:Addr) (y:ByteArray)
  (hj:A[j]? = some (.string y))
  (co:∀ V,Mem w V L→V.cell? ⟨bo,0,none⟩=some (.func (.func ko) #[] #[]))
  (eo:∀ args V,(callFunc ko args).run Tryz.prog V=.ok (.enter ko args) V) (ho:∀ V,Calls Tryz.prog ko #[.pointer (some p)] V fun e V'=>e=.returned (.pointer (some ⟨g,j,none⟩))∧V=V') :
  Calls Tryz.prog 274 #[.slice a l.length c,.pointer (some p),.pointer (some ⟨bo,0,none⟩)] W (RPost w L (fun x W'=>Mem w W' ((g,.cells (A.setIfInBounds j (.string x)) T (0,0))::L)) (dtxt l)):=by
 cases l with
 | nil =>
  have C:=split_no W a 0 c 1 (by omega) (by omega)
  go_enter Tryz.func274,Tryz.ntmps274
  go_wp2_with fail
  refine C.mono ?_
  rintro e V ⟨rfl,rfl⟩
  go_wp2_with fail
  go_ret2
  exact ⟨rfl,hM.sub⟩
 | cons b r =>
  have C:=split_yes (hM.sl hS) 1 (by simp) (by omega)
  have hbb:0≤b∧b≤255:=by have:=hS.row.bytes 0;simpa using this
  obtain ⟨n,hn⟩:∃ n:Nat,(b:Int)=n:=⟨b.toNat,by omega⟩
  subst hn
  have e1:IntKind.i64.wrap (n:Int)=n:=wrap64n (by omega) (by omega)
  simp only [dtxt,Int.toNat_natCast]
  have hSP:∀ V,Mem w V ((g,.cells A T (0,0))::L)→∀ a1 k1 a2 k2,(∀ V,Sl V a ((n:Int)::r) c→Sl V a1 (((n:Int)::r).take 1) k1∧Sl V a2 (((n:Int)::r).drop 1) k2) →
    Sl w a2 r k2∧∃ b0 off,a1=some ⟨b0,off,none⟩∧V.cell? ⟨b0,off,none⟩=some (.int .u8 n):=by
   intro V hM1 a1 k1 a2 k2 hSp
   have hp:=(hSp V (hM1.sl hS)).1
   have hq:=(hSp w hS).2
   simp only [List.take_succ_cons,List.take_zero,List.drop_succ_cons,List.drop_zero] at hp hq
   refine ⟨hq,?_⟩
   rcases hp.row.cells with e | ⟨b0,off,e,hc⟩
   ·simp at e
   ·exact ⟨b0,off,e,by have:=hc 0 (by simp);simpa using this⟩
  by_cases hlt:r.length < n
  ·rw [if_pos hlt]
   go_enter Tryz.func274,Tryz.ntmps274
   go_wp2_with fail
   refine C.mono ?_
   rintro e V ⟨v1,v2,rfl,⟨a1,k1,a2,k2,rfl,rfl,hSp⟩,q,rfl⟩
   have hM1:=hM.drewN q
   generalize W.drewN q=V at hM1
   obtain ⟨hq,b0,off,rfl,hc0⟩:=hSP V hM1 _ _ _ _ hSp
   have C2:=split_no V a2 r.length k2 n hlt (by omega)
   clear hSp hq hS C hlt hSP
   go_wp2_with fail
   refine C2.mono ?_
   rintro e V ⟨rfl,rfl⟩
   go_wp2_with fail
   go_ret2
   exact ⟨rfl,hM1.sub⟩
  ·rw [if_neg hlt]
   have hlen:(r.take n).length=n:=by rw [List.length_take];omega
   obtain ⟨S,hS'⟩:∃ S,strOfNums (r.take n)=S:=⟨_,rfl⟩
   rw [hS']
   go_enter Tryz.func274,Tryz.ntmps274
   go_wp2_with fail
   refine C.mono ?_
   rintro e V ⟨v1,v2,rfl,⟨a1,k1,a2,k2,rfl,rfl,hSp⟩,q,rfl⟩
   have hM1:=hM.drewN q
   generalize W.drewN q=V at hM1
   obtain ⟨hq,b0,off,rfl,hc0⟩:=hSP V hM1 _ _ _ _ hSp
   have C2:=split_yes (hM1.sl hq) n (by omega) (by omega)
   clear hSp hS C hlt hSP
   go_wp2_with fail
   refine C2.mono ?_
   rintro e V ⟨v1,v2,rfl,⟨a3,k3,a4,k4,rfl,rfl,hSp⟩,q2,rfl⟩
   have hM2:=hM1.drewN q2
   generalize V.drewN q2=V2 at hM2
   have hq2:=(hSp w hq).2
   have KS:Hid (∀ V,Mem w V L→V.cell? ⟨bo,0,none⟩=some (.func (.func ko) #[] #[])∧(convert 86 9 (.slice a3 n k3)).run Tryz.prog V=.ok (.string S) V):=by
    intro V hV
    refine ⟨co _ hV,?_⟩
    have h1:=row_string (hV.sl (hSp w hq).1).row k3
    rwa [hlen,hS'] at h1
   have hM3:=hM2.drew
   obtain ⟨c2,c4⟩:=KS.out _ hM3.sub
   have c3:=(hM3.cell 0 rfl j).trans hj
   have f3:=hM3.free 0 rfl j
   have HM2:Hid (Mem w (V2.setCell ⟨g,j,none⟩ (.string S)).drew ((g,.cells (A.setIfInBounds j (.string S)) T (0,0))::L)):=by
    have:=hM2.set 0 rfl j (.string S)
    exact Mem.drew this
   clear hSp hM hM1 hM2 C2 hj co hS' hlen hM3 hc0
   go_upto_region 6 with fail
   go_region_held3 (fun V=>V.cell? ⟨bo,0,none⟩=some (.func (.func ko) #[] #[])∧(convert 86 9 (.slice a3 n k3)).run Tryz.prog V=.ok (.string S) V) (first | assumption | exact KS.out _ HM2.out.sub | go_keep)
    (first | (go_at_fn ko;refine (ho _).mono ?_;rintro e V ⟨rfl,rfl⟩))
   go_wp2_with fail
   go_ret2
   refine ⟨a4,k4,by rw [List.length_drop];rfl,hq2,HM2.out⟩
theorem tsm_T {w W:World} {L:List (Nat×Obj)} (h:Mem w W L) (bo ko:Nat) (p p' q q':Addr) (x y:ByteArray)
  (co:∀ V,Mem w V L→V.cell? ⟨bo,0,none⟩=some (.func (.func ko) #[] #[]))
  (eo:∀ args V,(callFunc ko args).run Tryz.prog V=.ok (.enter ko args) V) (ho:∀ V,Calls Tryz.prog ko #[.pointer (some p)] V fun e V'=>e=.returned (.pointer (some p'))∧V=V')
  (hq:∀ V,Calls Tryz.prog ko #[.pointer (some q)] V fun e V'=>e=.returned (.pointer (some q'))∧V=V')
  (cx:∀ V,Mem w V L→V.cell? p'=some (.string x)) (cy:∀ V,Mem w V L→V.cell? q'=some (.string y)) :
  Calls Tryz.prog 275 #[.pointer (some p),.pointer (some q),.pointer (some ⟨bo,0,none⟩)] W fun e W'=>e=.returned (.bool (decide (sb x=sb y)))∧Mem w W' L:=by
 have HM:Hid (Mem w W.drew L):=h.drew
 have c2:=co _ HM.out
 have c3:=cx _ HM.out
 have c4:=cy _ HM.out
 rw [←text_same]
 clear h co cx cy
 go_enter Tryz.func275,Tryz.ntmps275
 go_upto_region 1 with fail
 go_region_held3 (fun V=>V.cell? ⟨bo,0,none⟩=some (.func (.func ko) #[] #[])∧V.cell? p'=some (.string x)∧V.cell? q'=some (.string y)) (go_keep)
  (first | (go_at_fn ko;with_reducible refine (ho _).mono ?_;rintro e V ⟨rfl,rfl⟩) | (go_at_fn ko;with_reducible refine (hq _).mono ?_;rintro e V ⟨rfl,rfl⟩))
 go_wp2_with fail
 go_ret
 exact ⟨rfl,HM.out⟩
theorem nwr_TH {w W:World} {v:Value} {l:List Int} {L:List (Nat×Obj)} (h:Out w W v l L) (bs bo sz ko:Nat) (p p':Addr) (x:Int) (hs:sz≤7)
  (cs:∀ V,Mem w V L→V.cell? ⟨bs,0,none⟩=some (.int .i64 sz)) (co:∀ V,Mem w V L→V.cell? ⟨bo,0,none⟩=some (.func (.func ko) #[] #[]))
  (eo:∀ args V,(callFunc ko args).run Tryz.prog V=.ok (.enter ko args) V) (ho:∀ V,Calls Tryz.prog ko #[.pointer (some p)] V fun e V'=>e=.returned (.pointer (some p'))∧V=V')
  (cx:∀ V,Mem w V L→V.cell? p'=some (.int .u16 x)) (hb:l.length+sz≤1000000000) :
  Calls Tryz.prog 282 #[v,.pointer (some p),.pointer (some ⟨bs,0,none⟩),.pointer (some ⟨bo,0,none⟩)] W fun e W'=>∃ v',e=.returned v'∧Out w W' v' (l++be sz (IntKind.u64.wrap x)) L:=by
 have HO:Hid (Out w W.drew v l L):=h.after ((Below.refl _ _).drew)
 have c1:=cs _ HO.out.mem
 have c2:=co _ HO.out.mem
 have c3:=cx _ HO.out.mem
 have hx:0≤IntKind.u64.wrap x∧IntKind.u64.wrap x < 18446744073709551616:=by rw [wrapu64];omega
 have CP:Hid (∀ z,0≤z∧z < 18446744073709551616→Calls Tryz.prog 209 #[v,.int .i64 sz,.int .u64 z] W.drew fun e W'=>∃ v',e=.returned v'∧Out w W' v' (l++be sz z) L):=fun z hz=>put_any HO.out sz z hs hz hb
 have KS:Hid (∀ V v' l',Out w V v' l' L→V.cell? ⟨bs,0,none⟩=some (.int .i64 sz)∧V.cell? ⟨bo,0,none⟩=some (.func (.func ko) #[] #[])∧V.cell? p'=some (.int .u16 x)):=fun V v' l' hV=>⟨cs _ hV.mem,co _ hV.mem,cx _ hV.mem⟩
 clear h cs co cx
 go_enter Tryz.func282,Tryz.ntmps282
 go_upto_region 1 with fail
 go_region_held3 (fun V=>V.cell? ⟨bs,0,none⟩=some (.int .i64 sz)∧V.cell? ⟨bo,0,none⟩=some (.func (.func ko) #[] #[])∧V.cell? p'=some (.int .u16 x)) (first | go_keep | exact KS.out _ _ _ hO)
  (first | (go_at_fn ko;refine (ho _).mono ?_;rintro e V ⟨rfl,rfl⟩) | (go_at_call 209;refine (CP.out _ hx).mono ?_;rintro e V ⟨v',rfl,hO⟩))
 go_wp2_with fail
 go_ret
 exact ⟨_,rfl,hO⟩
theorem nrd_TH {w W:World} {a:Option Addr} {l:List Int} {c:Nat} {L:List (Nat×Obj)} {g:Nat} {A:Array Value} {T:TypeId} (hM:Mem w W ((g,.cells A T (0,0))::L)) (hS:Sl w a l c) (bs bo sz ko j:Nat) (p:Addr) (y:Int) (hs:sz≤4)
  (hfit:∀ q,0≤q→q < 256 ^ sz→IntKind.u16.wrap q=q) (hj:A[j]? = some (.int .u16 y))
  (cs:∀ V,Mem w V L→V.cell? ⟨bs,0,none⟩=some (.int .i64 sz)) (co:∀ V,Mem w V L→V.cell? ⟨bo,0,none⟩=some (.func (.func ko) #[] #[]))
  (eo:∀ args V,(callFunc ko args).run Tryz.prog V=.ok (.enter ko args) V) (ho:∀ V,Calls Tryz.prog ko #[.pointer (some p)] V fun e V'=>e=.returned (.pointer (some ⟨g,j,none⟩))∧V=V') :
  Calls Tryz.prog 283 #[.slice a l.length c,.pointer (some p),.pointer (some ⟨bs,0,none⟩),.pointer (some ⟨bo,0,none⟩)] W (RPost w L (fun x W'=>Mem w W' ((g,.cells (A.setIfInBounds j (.int .u16 x)) T (0,0))::L)) (if l.length < sz then none else some (num (l.take sz),l.drop sz))):=by
 have c1:=cs _ hM.sub
 by_cases hlt:l.length < sz
 ·rw [if_pos hlt]
  have C:=split_no W a l.length c sz hlt (by omega)
  clear hS hlt
  go_enter Tryz.func283,Tryz.ntmps283
  go_wp2_with fail
  refine C.mono ?_
  rintro e V ⟨rfl,rfl⟩
  go_wp2_with fail
  go_ret2
  exact ⟨rfl,hM.sub⟩
 ·rw [if_neg hlt]
  have hle:sz≤l.length:=by omega
  have C:=split_yes (hM.sl hS) sz hle (by omega)
  have hlen:(l.take sz).length=sz:=by rw [List.length_take];omega
  have hrg:=num_range (bytes_tk hS.row.bytes sz)
  rw [hlen] at hrg
  have hw:=hfit _ hrg.1 hrg.2
  clear hfit hlt hle hrg
  obtain ⟨N,hN⟩:∃ N,num (l.take sz)=N:=⟨_,rfl⟩
  rw [hN] at hw
  go_enter Tryz.func283,Tryz.ntmps283
  go_wp2_with fail
  refine C.mono ?_
  rintro e V ⟨v1,v2,rfl,⟨a1,k1,a2,k2,rfl,rfl,hSp⟩,q,rfl⟩
  have hM1:=hM.drewN q
  generalize W.drewN q=V at hM1
  have hp:=hSp V (hM1.sl hS)
  have hq:=(hSp w hS).2
  have CG:=get_any hp.1.row sz k1 hlen (by omega)
  rw [hN] at CG
  have c2:=co _ hM1.sub
  have c3:=(hM1.cell 0 rfl j).trans hj
  have f3:=hM1.free 0 rfl j
  have HM2:Hid (Mem w (V.setCell ⟨g,j,none⟩ (.int .u16 N)) ((g,.cells (A.setIfInBounds j (.int .u16 N)) T (0,0))::L)):=by
   have:=hM1.set 0 rfl j (.int .u16 N)
   exact this
  clear hSp hp hM C hM1 hj cs co
  go_wp2_with fail
  refine (ho _).mono ?_
  rintro e V1 ⟨rfl,rfl⟩
  go_wp2_with fail
  refine CG.mono ?_
  rintro e V1 ⟨rfl,rfl⟩
  go_wp2_with fail
  go_ret2
  refine ⟨a2,k2,by rw [List.length_drop];rfl,hq,?_⟩
  rw [hN];exact HM2.out
theorem nsm_TH {w W:World} {L:List (Nat×Obj)} (h:Mem w W L) (bo ko:Nat) (p p' q q':Addr) (x y:Int)
  (co:∀ V,Mem w V L→V.cell? ⟨bo,0,none⟩=some (.func (.func ko) #[] #[]))
  (eo:∀ args V,(callFunc ko args).run Tryz.prog V=.ok (.enter ko args) V) (ho:∀ V,Calls Tryz.prog ko #[.pointer (some p)] V fun e V'=>e=.returned (.pointer (some p'))∧V=V')
  (hq:∀ V,Calls Tryz.prog ko #[.pointer (some q)] V fun e V'=>e=.returned (.pointer (some q'))∧V=V')
  (cx:∀ V,Mem w V L→V.cell? p'=some (.int .u16 x)) (cy:∀ V,Mem w V L→V.cell? q'=some (.int .u16 y)) :
  Calls Tryz.prog 284 #[.pointer (some p),.pointer (some q),.pointer (some ⟨bo,0,none⟩)] W fun e W'=>e=.returned (.bool (decide (x=y)))∧Mem w W' L:=by
 have HM:Hid (Mem w W.drew L):=h.drew
 have c2:=co _ HM.out
 have c3:=cx _ HM.out
 have c4:=cy _ HM.out
 clear h co cx cy
 go_enter Tryz.func284,Tryz.ntmps284
 go_upto_region 1 with fail
 go_region_held3 (fun V=>V.cell? ⟨bo,0,none⟩=some (.func (.func ko) #[] #[])∧V.cell? p'=some (.int .u16 x)∧V.cell? q'=some (.int .u16 y)) (go_keep)
  (first | (go_at_fn ko;with_reducible refine (ho _).mono ?_;rintro e V ⟨rfl,rfl⟩) | (go_at_fn ko;with_reducible refine (hq _).mono ?_;rintro e V ⟨rfl,rfl⟩))
 go_wp2_with fail
 go_ret
 exact ⟨by simp <;> rfl,HM.out⟩
theorem nwr_TU {w W:World} {v:Value} {l:List Int} {L:List (Nat×Obj)} (h:Out w W v l L) (bs bo sz ko:Nat) (p p':Addr) (x:Int) (hs:sz≤7)
  (cs:∀ V,Mem w V L→V.cell? ⟨bs,0,none⟩=some (.int .i64 sz)) (co:∀ V,Mem w V L→V.cell? ⟨bo,0,none⟩=some (.func (.func ko) #[] #[]))
  (eo:∀ args V,(callFunc ko args).run Tryz.prog V=.ok (.enter ko args) V) (ho:∀ V,Calls Tryz.prog ko #[.pointer (some p)] V fun e V'=>e=.returned (.pointer (some p'))∧V=V')
  (cx:∀ V,Mem w V L→V.cell? p'=some (.int .u32 x)) (hb:l.length+sz≤1000000000) :
  Calls Tryz.prog 276 #[v,.pointer (some p),.pointer (some ⟨bs,0,none⟩),.pointer (some ⟨bo,0,none⟩)] W fun e W'=>∃ v',e=.returned v'∧Out w W' v' (l++be sz (IntKind.u64.wrap x)) L:=by
 have HO:Hid (Out w W.drew v l L):=h.after ((Below.refl _ _).drew)
 have c1:=cs _ HO.out.mem
 have c2:=co _ HO.out.mem
 have c3:=cx _ HO.out.mem
 have hx:0≤IntKind.u64.wrap x∧IntKind.u64.wrap x < 18446744073709551616:=by rw [wrapu64];omega
 have CP:Hid (∀ z,0≤z∧z < 18446744073709551616→Calls Tryz.prog 209 #[v,.int .i64 sz,.int .u64 z] W.drew fun e W'=>∃ v',e=.returned v'∧Out w W' v' (l++be sz z) L):=fun z hz=>put_any HO.out sz z hs hz hb
 have KS:Hid (∀ V v' l',Out w V v' l' L→V.cell? ⟨bs,0,none⟩=some (.int .i64 sz)∧V.cell? ⟨bo,0,none⟩=some (.func (.func ko) #[] #[])∧V.cell? p'=some (.int .u32 x)):=fun V v' l' hV=>⟨cs _ hV.mem,co _ hV.mem,cx _ hV.mem⟩
 clear h cs co cx
 go_enter Tryz.func276,Tryz.ntmps276
 go_upto_region 1 with fail
 go_region_held3 (fun V=>V.cell? ⟨bs,0,none⟩=some (.int .i64 sz)∧V.cell? ⟨bo,0,none⟩=some (.func (.func ko) #[] #[])∧V.cell? p'=some (.int .u32 x)) (first | go_keep | exact KS.out _ _ _ hO)
  (first | (go_at_fn ko;refine (ho _).mono ?_;rintro e V ⟨rfl,rfl⟩) | (go_at_call 209;refine (CP.out _ hx).mono ?_;rintro e V ⟨v',rfl,hO⟩))
 go_wp2_with fail
 go_ret
 exact ⟨_,rfl,hO⟩
theorem nrd_TU {w W:World} {a:Option Addr} {l:List Int} {c:Nat} {L:List (Nat×Obj)} {g:Nat} {A:Array Value} {T:TypeId} (hM:Mem w W ((g,.cells A T (0,0))::L)) (hS:Sl w a l c) (bs bo sz ko j:Nat) (p:Addr) (y:Int) (hs:sz≤4)
  (hfit:∀ q,0≤q→q < 256 ^ sz→IntKind.u32.wrap q=q) (hj:A[j]? = some (.int .u32 y))
  (cs:∀ V,Mem w V L→V.cell? ⟨bs,0,none⟩=some (.int .i64 sz)) (co:∀ V,Mem w V L→V.cell? ⟨bo,0,none⟩=some (.func (.func ko) #[] #[]))
  (eo:∀ args V,(callFunc ko args).run Tryz.prog V=.ok (.enter ko args) V) (ho:∀ V,Calls Tryz.prog ko #[.pointer (some p)] V fun e V'=>e=.returned (.pointer (some ⟨g,j,none⟩))∧V=V') :
  Calls Tryz.prog 277 #[.slice a l.length c,.pointer (some p),.pointer (some ⟨bs,0,none⟩),.pointer (some ⟨bo,0,none⟩)] W (RPost w L (fun x W'=>Mem w W' ((g,.cells (A.setIfInBounds j (.int .u32 x)) T (0,0))::L)) (if l.length < sz then none else some (num (l.take sz),l.drop sz))):=by
 have c1:=cs _ hM.sub
 by_cases hlt:l.length < sz
 ·rw [if_pos hlt]
  have C:=split_no W a l.length c sz hlt (by omega)
  clear hS hlt
  go_enter Tryz.func277,Tryz.ntmps277
  go_wp2_with fail
  refine C.mono ?_
  rintro e V ⟨rfl,rfl⟩
  go_wp2_with fail
  go_ret2
  exact ⟨rfl,hM.sub⟩
 ·rw [if_neg hlt]
  have hle:sz≤l.length:=by omega
  have C:=split_yes (hM.sl hS) sz hle (by omega)
  have hlen:(l.take sz).length=sz:=by rw [List.length_take];omega
  have hrg:=num_range (bytes_tk hS.row.bytes sz)
  rw [hlen] at hrg
  have hw:=hfit _ hrg.1 hrg.2
  clear hfit hlt hle hrg
  obtain ⟨N,hN⟩:∃ N,num (l.take sz)=N:=⟨_,rfl⟩
  rw [hN] at hw
  go_enter Tryz.func277,Tryz.ntmps277
  go_wp2_with fail
  refine C.mono ?_
  rintro e V ⟨v1,v2,rfl,⟨a1,k1,a2,k2,rfl,rfl,hSp⟩,q,rfl⟩
  have hM1:=hM.drewN q
  generalize W.drewN q=V at hM1
  have hp:=hSp V (hM1.sl hS)
  have hq:=(hSp w hS).2
  have CG:=get_any hp.1.row sz k1 hlen (by omega)
  rw [hN] at CG
  have c2:=co _ hM1.sub
  have c3:=(hM1.cell 0 rfl j).trans hj
  have f3:=hM1.free 0 rfl j
  have HM2:Hid (Mem w (V.setCell ⟨g,j,none⟩ (.int .u32 N)) ((g,.cells (A.setIfInBounds j (.int .u32 N)) T (0,0))::L)):=by
   have:=hM1.set 0 rfl j (.int .u32 N)
   exact this
  clear hSp hp hM C hM1 hj cs co
  go_wp2_with fail
  refine (ho _).mono ?_
  rintro e V1 ⟨rfl,rfl⟩
  go_wp2_with fail
  refine CG.mono ?_
  rintro e V1 ⟨rfl,rfl⟩
  go_wp2_with fail
  go_ret2
  refine ⟨a2,k2,by rw [List.length_drop];rfl,hq,?_⟩
  rw [hN];exact HM2.out
theorem nsm_TU {w W:World} {L:List (Nat×Obj)} (h:Mem w W L) (bo ko:Nat) (p p' q q':Addr) (x y:Int)
  (co:∀ V,Mem w V L→V.cell? ⟨bo,0,none⟩=some (.func (.func ko) #[] #[]))
  (eo:∀ args V,(callFunc ko args).run Tryz.prog V=.ok (.enter ko args) V) (ho:∀ V,Calls Tryz.prog ko #[.pointer (some p)] V fun e V'=>e=.returned (.pointer (some p'))∧V=V')
  (hq:∀ V,Calls Tryz.prog ko #[.pointer (some q)] V fun e V'=>e=.returned (.pointer (some q'))∧V=V')
  (cx:∀ V,Mem w V L→V.cell? p'=some (.int .u32 x)) (cy:∀ V,Mem w V L→V.cell? q'=some (.int .u32 y)) :
  Calls Tryz.prog 278 #[.pointer (some p),.pointer (some q),.pointer (some ⟨bo,0,none⟩)] W fun e W'=>e=.returned (.bool (decide (x=y)))∧Mem w W' L:=by
 have HM:Hid (Mem w W.drew L):=h.drew
 have c2:=co _ HM.out
 have c3:=cx _ HM.out
 have c4:=cy _ HM.out
 clear h co cx cy
 go_enter Tryz.func278,Tryz.ntmps278
 go_upto_region 1 with fail
 go_region_held3 (fun V=>V.cell? ⟨bo,0,none⟩=some (.func (.func ko) #[] #[])∧V.cell? p'=some (.int .u32 x)∧V.cell? q'=some (.int .u32 y)) (go_keep)
  (first | (go_at_fn ko;with_reducible refine (ho _).mono ?_;rintro e V ⟨rfl,rfl⟩) | (go_at_fn ko;with_reducible refine (hq _).mono ?_;rintro e V ⟨rfl,rfl⟩))
 go_wp2_with fail
 go_ret
 exact ⟨by simp <;> rfl,HM.out⟩
theorem awr_C {H:Value→List Int→World→Prop} (hst:∀ v l V V',H v l V→Below V.heap.size V V'→H v l V') (p:Addr) (cb lb n:Nat) (hn:n≤1000) (kw kr ks:Nat→Nat) (cw cr cs:Nat→Array Value)
  (hcb:∀ v l V,H v l V→V.cell? ⟨cb,0,none⟩=some (.slice (some ⟨lb,0,none⟩) n n))
  (hlb:∀ v l V,H v l V→∀ i,i < n→V.cell? ⟨lb,i * 3,none⟩=some (.func (.func (kw i)) #[] (cw i))∧V.cell? ⟨lb,i * 3+1,none⟩=some (.func (.func (kr i)) #[] (cr i))∧V.cell? ⟨lb,i * 3+2,none⟩=some (.func (.func (ks i)) #[] (cs i)))
  (enc:Nat→List Int) (en:∀ i,i < n→∀ args V,(callFunc (kw i) args).run Tryz.prog V=.ok (.enter (kw i) args) V)
  (hw:∀ i,i < n→∀ v l V,H v l V→l.length+(enc i).length≤1000000000→Calls Tryz.prog (kw i) (#[v,.pointer (some p)]++cw i) V fun e V'=>∃ v',e=.returned v'∧H v' (l++enc i) V')
  (v:Value) (l:List Int) (W:World) (h:H v l W) (hb:l.length+(cat enc n).length≤1000000000) :
  Calls Tryz.prog 205 #[v,.pointer (some p),.pointer (some ⟨cb,0,none⟩)] W fun e W'=>∃ v',e=.returned v'∧H v' (l++cat enc n) W':=by
 have c0:=hcb _ _ _ h
 go_enter Tryz.func205,Tryz.ntmps205
 go_wp2_with fail
 go_loopw [0,10] (fun u0 u10 w'=>∃ i:Nat,i≤n∧u10=.int .i64 i∧Hid (H u0 (l++cat enc i) w')) (fun u0 u10 w'=>n - (intOf u10).toNat)
 case atStart=>exact ⟨0,Nat.zero_le _,rfl,by rw [cat,List.append_nil];exact h⟩
 case round =>
  obtain ⟨i,hi,rfl,HR⟩:=hrel
  by_cases hlt:i < n
  ·have h1:(i:Int) < n:=by omega
   obtain ⟨d0,d1,d2⟩:=hlb _ _ _ HR.out i hlt
   have eg:=en i hlt
   have HW:Hid (∀ V,Below wr.heap.size wr V→Calls Tryz.prog (kw i) (#[u0,.pointer (some p)]++cw i) V fun e V'=>∃ v',e=.returned v'∧H v' (l++cat enc (i+1)) V'):=by
    intro V hV
    have:=hw i hlt u0 _ V (hst _ _ _ _ HR.out hV) (by rw [List.length_append];have:=cat_le enc i n hlt;omega)
    rwa [List.append_assoc] at this
   clear hw en hlb hcb hst c0
   generalize kw i=k1 at d0 eg HW
   generalize kr i=k2 at d1
   generalize ks i=k3 at d2
   generalize cw i=q1 at d0 HW
   generalize cr i=q2 at d1
   generalize cs i=q3 at d2
   go_wp2_with fail
   refine (HW.out _ ?hb).mono ?_
   case hb=>exact (Below.refl _ _).alloc (Nat.le_refl _) _
   rintro e V ⟨v',rfl,hH⟩
   have HH:Hid (H v' (l++cat enc (i+1)) V):=hH
   clear hH HW HR
   go_wp2_with fail
   go_roundw
   case rel=>exact ⟨i+1,by omega,by go_num,HH⟩
   case measure=>simp [intOf];omega
  ·have h1:¬ ((i:Int) < n):=by omega
   obtain rfl:i=n:=by omega
   go_wp2_with fail
   go_ret
   exact ⟨_,rfl,HR.out⟩
theorem ard_C {σ:Type} {w:World} {L:List (Nat×Obj)} {J:σ→World→Prop} (hst:∀ s V V',J s V→Below V.heap.size V V'→J s V') (p:Addr) (cb lb n:Nat) (hn:n≤1000) (kw kr ks:Nat→Nat) (cw cr cs:Nat→Array Value)
  (hcb:∀ s V,J s V→V.cell? ⟨cb,0,none⟩=some (.slice (some ⟨lb,0,none⟩) n n))
  (hlb:∀ s V,J s V→∀ i,i < n→V.cell? ⟨lb,i * 3,none⟩=some (.func (.func (kw i)) #[] (cw i))∧V.cell? ⟨lb,i * 3+1,none⟩=some (.func (.func (kr i)) #[] (cr i))∧V.cell? ⟨lb,i * 3+2,none⟩=some (.func (.func (ks i)) #[] (cs i)))
  (dec:Nat→List Int→σ→Option (σ×List Int)) (en:∀ i,i < n→∀ args V,(callFunc (kr i) args).run Tryz.prog V=.ok (.enter (kr i) args) V)
  (hr:∀ i,i < n→∀ s l a c V,J s V→Sl w a l c→Calls Tryz.prog (kr i) (#[.slice a l.length c,.pointer (some p)]++cr i) V (RPost w L J (dec i l s)))
  (s:σ) (l:List Int) (a:Option Addr) (c:Nat) (W:World) (h:J s W) (hS:Sl w a l c) :
  Calls Tryz.prog 206 #[.slice a l.length c,.pointer (some p),.pointer (some ⟨cb,0,none⟩)] W (RPost w L J (sq dec 0 n l s)):=by
 have c0:=hcb _ _ h
 obtain ⟨R,hR⟩:∃ R,sq dec 0 n l s=R:=⟨_,rfl⟩
 rw [hR]
 go_enter Tryz.func206,Tryz.ntmps206
 go_wp2_with fail
 go_loopw [0,13] (fun u0 u13 w'=>∃ (i:Nat) (s':σ) (l':List Int) (a':Option Addr) (c':Nat),i≤n∧u13=.int .i64 i∧u0=.slice a' l'.length c'∧Hid (J s' w'∧Sl w a' l' c'∧sq dec i (n - i) l' s'=R)) (fun u0 u13 w'=>n - (intOf u13).toNat)
 case atStart=>exact ⟨0,s,l,a,c,Nat.zero_le _,rfl,rfl,h,hS,by simpa using hR⟩
 case round =>
  obtain ⟨i,s',l',a',c',hi,rfl,rfl,HR⟩:=hrel
  obtain ⟨hJ,hSl,hsq⟩:=HR.out
  by_cases hlt:i < n
  ·have h1:(i:Int) < n:=by omega
   obtain ⟨d0,d1,d2⟩:=hlb _ _ hJ i hlt
   have eg:=en i hlt
   have HW:Hid (∀ V,Below wr.heap.size wr V→Calls Tryz.prog (kr i) (#[.slice a' l'.length c',.pointer (some p)]++cr i) V (RPost w L J (dec i l' s'))):=fun V hV=>hr i hlt s' l' a' c' V (hst _ _ _ hJ hV) hSl
   rw [show n - i=(n - (i+1))+1 by omega,sq] at hsq
   clear hr en hlb hcb hst c0 hJ hSl hR HR h hS
   generalize kw i=k1 at d0
   generalize kr i=k2 at d1 eg HW
   generalize ks i=k3 at d2
   generalize cw i=q1 at d0
   generalize cr i=q2 at d1 HW
   generalize cs i=q3 at d2
   generalize l'.length=m at HW
   cases hd:dec i l' s' with
   | none =>
    rw [hd] at hsq HW
    simp only at hsq
    subst hsq
    go_wp2_with fail
    refine (HW.out _ ?hb).mono ?_
    case hb=>exact (Below.refl _ _).alloc (Nat.le_refl _) _
    rintro e V ⟨rfl,hM⟩
    clear HW
    go_wp2_with fail
    go_ret2
    exact ⟨rfl,hM⟩
   | some x =>
    obtain ⟨s2,l2⟩:=x
    rw [hd] at hsq HW
    simp only at hsq
    go_wp2_with fail
    refine (HW.out _ ?hb2).mono ?_
    case hb2=>exact (Below.refl _ _).alloc (Nat.le_refl _) _
    rintro e V ⟨a2,c2,rfl,hS2,hJ2⟩
    have HH:Hid (J s2 V∧Sl w a2 l2 c2∧sq dec (i+1) (n - (i+1)) l2 s2=R):=⟨hJ2,hS2,hsq⟩
    clear HW hJ2 hS2 hsq hd
    go_wp2_with fail
    go_roundw
    case rel=>exact ⟨i+1,s2,l2,a2,c2,by omega,by go_num,rfl,HH⟩
    case measure=>simp [intOf];omega
  ·have h1:¬ ((i:Int) < n):=by omega
   obtain rfl:i=n:=by omega
   rw [Nat.sub_self,sq] at hsq
   subst hsq
   clear HR
   go_wp2_with fail
   go_ret2
   exact ⟨_,_,rfl,hSl,hJ⟩
theorem nwr_CU {w W:World} {v:Value} {l:List Int} {L:List (Nat×Obj)} (h:Out w W v l L) (bs bo sz ko:Nat) (p p':Addr) (x:Int) (hs:sz≤7)
  (cs:∀ V,Mem w V L→V.cell? ⟨bs,0,none⟩=some (.int .i64 sz)) (co:∀ V,Mem w V L→V.cell? ⟨bo,0,none⟩=some (.func (.func ko) #[] #[]))
  (eo:∀ args V,(callFunc ko args).run Tryz.prog V=.ok (.enter ko args) V) (ho:∀ V,Calls Tryz.prog ko #[.pointer (some p)] V fun e V'=>e=.returned (.pointer (some p'))∧V=V')
  (cx:∀ V,Mem w V L→V.cell? p'=some (.int .u32 x)) (hb:l.length+sz≤1000000000) :
  Calls Tryz.prog 208 #[v,.pointer (some p),.pointer (some ⟨bs,0,none⟩),.pointer (some ⟨bo,0,none⟩)] W fun e W'=>∃ v',e=.returned v'∧Out w W' v' (l++be sz (IntKind.u64.wrap x)) L:=by
 have HO:Hid (Out w W.drew v l L):=h.after ((Below.refl _ _).drew)
 have c1:=cs _ HO.out.mem
 have c2:=co _ HO.out.mem
 have c3:=cx _ HO.out.mem
 have hx:0≤IntKind.u64.wrap x∧IntKind.u64.wrap x < 18446744073709551616:=by rw [wrapu64];omega
 have CP:Hid (∀ z,0≤z∧z < 18446744073709551616→Calls Tryz.prog 209 #[v,.int .i64 sz,.int .u64 z] W.drew fun e W'=>∃ v',e=.returned v'∧Out w W' v' (l++be sz z) L):=fun z hz=>put_any HO.out sz z hs hz hb
 have KS:Hid (∀ V v' l',Out w V v' l' L→V.cell? ⟨bs,0,none⟩=some (.int .i64 sz)∧V.cell? ⟨bo,0,none⟩=some (.func (.func ko) #[] #[])∧V.cell? p'=some (.int .u32 x)):=fun V v' l' hV=>⟨cs _ hV.mem,co _ hV.mem,cx _ hV.mem⟩
 clear h cs co cx
 go_enter Tryz.func208,Tryz.ntmps208
 go_upto_region 1 with fail
 go_region_held3 (fun V=>V.cell? ⟨bs,0,none⟩=some (.int .i64 sz)∧V.cell? ⟨bo,0,none⟩=some (.func (.func ko) #[] #[])∧V.cell? p'=some (.int .u32 x)) (first | go_keep | exact KS.out _ _ _ hO)
  (first | (go_at_fn ko;refine (ho _).mono ?_;rintro e V ⟨rfl,rfl⟩) | (go_at_call 209;refine (CP.out _ hx).mono ?_;rintro e V ⟨v',rfl,hO⟩))
 go_wp2_with fail
 go_ret
 exact ⟨_,rfl,hO⟩
theorem nrd_CU {w W:World} {a:Option Addr} {l:List Int} {c:Nat} {L:List (Nat×Obj)} {g:Nat} {A:Array Value} {T:TypeId} (hM:Mem w W ((g,.cells A T (0,0))::L)) (hS:Sl w a l c) (bs bo sz ko j:Nat) (p:Addr) (y:Int) (hs:sz≤4)
  (hfit:∀ q,0≤q→q < 256 ^ sz→IntKind.u32.wrap q=q) (hj:A[j]? = some (.int .u32 y))
  (cs:∀ V,Mem w V L→V.cell? ⟨bs,0,none⟩=some (.int .i64 sz)) (co:∀ V,Mem w V L→V.cell? ⟨bo,0,none⟩=some (.func (.func ko) #[] #[]))
  (eo:∀ args V,(callFunc ko args).run Tryz.prog V=.ok (.enter ko args) V) (ho:∀ V,Calls Tryz.prog ko #[.pointer (some p)] V fun e V'=>e=.returned (.pointer (some ⟨g,j,none⟩))∧V=V') :
  Calls Tryz.prog 210 #[.slice a l.length c,.pointer (some p),.pointer (some ⟨bs,0,none⟩),.pointer (some ⟨bo,0,none⟩)] W (RPost w L (fun x W'=>Mem w W' ((g,.cells (A.setIfInBounds j (.int .u32 x)) T (0,0))::L)) (if l.length < sz then none else some (num (l.take sz),l.drop sz))):=by
 have c1:=cs _ hM.sub
 by_cases hlt:l.length < sz
 ·rw [if_pos hlt]
  have C:=split_no W a l.length c sz hlt (by omega)
  clear hS hlt
  go_enter Tryz.func210,Tryz.ntmps210
  go_wp2_with fail
  refine C.mono ?_
  rintro e V ⟨rfl,rfl⟩
  go_wp2_with fail
  go_ret2
  exact ⟨rfl,hM.sub⟩
 ·rw [if_neg hlt]
  have hle:sz≤l.length:=by omega
  have C:=split_yes (hM.sl hS) sz hle (by omega)
  have hlen:(l.take sz).length=sz:=by rw [List.length_take];omega
  have hrg:=num_range (bytes_tk hS.row.bytes sz)
  rw [hlen] at hrg
  have hw:=hfit _ hrg.1 hrg.2
  clear hfit hlt hle hrg
  obtain ⟨N,hN⟩:∃ N,num (l.take sz)=N:=⟨_,rfl⟩
  rw [hN] at hw
  go_enter Tryz.func210,Tryz.ntmps210
  go_wp2_with fail
  refine C.mono ?_
  rintro e V ⟨v1,v2,rfl,⟨a1,k1,a2,k2,rfl,rfl,hSp⟩,q,rfl⟩
  have hM1:=hM.drewN q
  generalize W.drewN q=V at hM1
  have hp:=hSp V (hM1.sl hS)
  have hq:=(hSp w hS).2
  have CG:=get_any hp.1.row sz k1 hlen (by omega)
  rw [hN] at CG
  have c2:=co _ hM1.sub
  have c3:=(hM1.cell 0 rfl j).trans hj
  have f3:=hM1.free 0 rfl j
  have HM2:Hid (Mem w (V.setCell ⟨g,j,none⟩ (.int .u32 N)) ((g,.cells (A.setIfInBounds j (.int .u32 N)) T (0,0))::L)):=by
   have:=hM1.set 0 rfl j (.int .u32 N)
   exact this
  clear hSp hp hM C hM1 hj cs co
  go_wp2_with fail
  refine (ho _).mono ?_
  rintro e V1 ⟨rfl,rfl⟩
  go_wp2_with fail
  refine CG.mono ?_
  rintro e V1 ⟨rfl,rfl⟩
  go_wp2_with fail
  go_ret2
  refine ⟨a2,k2,by rw [List.length_drop];rfl,hq,?_⟩
  rw [hN];exact HM2.out
theorem nsm_CU {w W:World} {L:List (Nat×Obj)} (h:Mem w W L) (bo ko:Nat) (p p' q q':Addr) (x y:Int)
  (co:∀ V,Mem w V L→V.cell? ⟨bo,0,none⟩=some (.func (.func ko) #[] #[]))
  (eo:∀ args V,(callFunc ko args).run Tryz.prog V=.ok (.enter ko args) V) (ho:∀ V,Calls Tryz.prog ko #[.pointer (some p)] V fun e V'=>e=.returned (.pointer (some p'))∧V=V')
  (hq:∀ V,Calls Tryz.prog ko #[.pointer (some q)] V fun e V'=>e=.returned (.pointer (some q'))∧V=V')
  (cx:∀ V,Mem w V L→V.cell? p'=some (.int .u32 x)) (cy:∀ V,Mem w V L→V.cell? q'=some (.int .u32 y)) :
  Calls Tryz.prog 213 #[.pointer (some p),.pointer (some q),.pointer (some ⟨bo,0,none⟩)] W fun e W'=>e=.returned (.bool (decide (x=y)))∧Mem w W' L:=by
 have HM:Hid (Mem w W.drew L):=h.drew
 have c2:=co _ HM.out
 have c3:=cx _ HM.out
 have c4:=cy _ HM.out
 clear h co cx cy
 go_enter Tryz.func213,Tryz.ntmps213
 go_upto_region 1 with fail
 go_region_held3 (fun V=>V.cell? ⟨bo,0,none⟩=some (.func (.func ko) #[] #[])∧V.cell? p'=some (.int .u32 x)∧V.cell? q'=some (.int .u32 y)) (go_keep)
  (first | (go_at_fn ko;with_reducible refine (ho _).mono ?_;rintro e V ⟨rfl,rfl⟩) | (go_at_fn ko;with_reducible refine (hq _).mono ?_;rintro e V ⟨rfl,rfl⟩))
 go_wp2_with fail
 go_ret
 exact ⟨by simp <;> rfl,HM.out⟩
structure Ten where
 name:ByteArray
 vni:Int
 key:List Int
 vtep:Int
 vmac:List Int
 host:List Int
 pool:List Int
 lo:Int
 hi:Int
 filter:Int
 stat:List (Int×Int)
 twi:List (Int×Int)
 sess:Int
 queue:Int
 rate:Int
 burst:Int
structure TLen (t:Ten):Prop where
 key:t.key.length=8
 vmac:t.vmac.length=6
 host:t.host.length=6
def tc (t:Ten) (p s q:Value):List Value :=
 .string t.name::.int .u32 t.vni::(t.key.map (Value.int .u8)++.int .u32 t.vtep::(t.vmac.map (Value.int .u8)++(t.host.map (Value.int .u8) ++
  [p,.int .u16 t.lo,.int .u16 t.hi,.int .i64 t.filter,s,q,.int .i64 t.sess,.int .i64 t.queue,.int .u32 t.rate,.int .u32 t.burst])))
theorem six6 {l:List Int} (h:l.length=6):∃ a b c d e f,l=[a,b,c,d,e,f]:=by
 match l,h with
 | [a,b,c,d,e,f],_=>exact ⟨a,b,c,d,e,f,rfl⟩
theorem eight8 {l:List Int} (h:l.length=8):∃ a b c d e f x y,l=[a,b,c,d,e,f,x,y]:=by
 match l,h with
 | [a,b,c,d,e,f,x,y],_=>exact ⟨a,b,c,d,e,f,x,y,rfl⟩
theorem tc_len {t:Ten} (h:TLen t) (p s q:Value):(tc t p s q).length=33:=by
 simp [tc,h.key,h.vmac,h.host]
def ten0:Ten:=⟨ByteArray.empty,0,[0,0,0,0,0,0,0,0],0,[0,0,0,0,0,0],[0,0,0,0,0,0],[],0,0,0,[],[],0,0,0,0⟩
theorem ten0_len:TLen ten0:=⟨rfl,rfl,rfl⟩
abbrev nilV:Value:=.slice none 0 0
theorem infoT:(Tryz.prog.info? 46).map (fun i=>(i.zero,i.size,i.bytes))=some (some (.agg (tc ten0 nilV nilV nilV).toArray),33,160):=by kernel_rfl
theorem infoU:(Tryz.prog.info? 33).map (fun i=>(i.zero,i.size,i.bytes))=some (some (.int .u32 0),1,4):=by kernel_rfl
theorem infoP:(Tryz.prog.info? 122).map (fun i=>(i.zero,i.size,i.bytes))=some (some (.agg #[.int .u32 0,.int .u32 0]),2,8):=by kernel_rfl
def Rw (V:World) (sz:Nat) (v:Value) (xs:List (List Value)):Prop :=
 ∃ a c,v=.slice a xs.length c∧xs.length≤c∧c≤9223372036854775807∧(a=none→c=0) ∧
  (xs=[]∨∃ b off,a=some ⟨b,off,none⟩∧∀ i,i < xs.length→∀ j u,(xs.getD i [])[j]? = some u→V.cell? ⟨b,off+i * sz+j,none⟩=some u)
theorem Rw.below {V V':World} {sz:Nat} {v:Value} {xs:List (List Value)} (h:Rw V sz v xs) (hne:∀ x∈xs,x≠[]) {B:Nat} (hb:Below B V V') (hB:V.heap.size≤B):Rw V' sz v xs:=by
 obtain ⟨a,c,rfl,h1,h2,h3,h4⟩:=h
 refine ⟨a,c,rfl,h1,h2,h3,?_⟩
 rcases h4 with e | ⟨b,off,rfl,hc⟩
 ·exact Or.inl e
 ·refine Or.inr ⟨b,off,rfl,fun i hi j u hu=>?_⟩
  have:=hc i hi j u hu
  have hlt:=cell_lt this
  rw [hb.cell (p:=⟨b,off+i * sz+j,none⟩) (by simp at hlt ⊢;omega)]
  exact this
def ux (l:List Int):List (List Value):=l.map (fun x=>[.int .u32 x])
def px (l:List (Int×Int)):List (List Value):=l.map (fun x=>[.int .u32 x.1,.int .u32 x.2])
theorem ux_ne {l:List Int}:∀ x∈ux l,x≠[]:=by
 intro x hx
 simp only [ux,List.mem_map] at hx
 obtain ⟨y,_,rfl⟩:=hx
 simp
theorem px_ne {l:List (Int×Int)}:∀ x∈px l,x≠[]:=by
 intro x hx
 simp only [px,List.mem_map] at hx
 obtain ⟨y,_,rfl⟩:=hx
 simp
theorem Mem.rw' {w W:World} {L:List (Nat×Obj)} (hM:Mem w W L) {sz:Nat} {v:Value} {xs:List (List Value)} (h:Rw w sz v xs) (hne:∀ x∈xs,x≠[]):Rw W sz v xs:=h.below hne hM.below (Nat.le_refl _)
theorem madeCells_flat (z:Array Value) (n:Nat) (hz:0 < z.size):(madeCells z (n * z.size)).toList=(List.replicate n z.toList).flatten:=by
 have key:∀ m,(madeCells z m).toList=(List.range m).map (fun i=>z[i % z.size]!):=by
  intro m
  simp [madeCells]
 rw [key]
 induction n with
 | zero=>simp
 | succ n ih =>
  rw [Nat.succ_mul,List.range_add,List.map_append,ih,List.replicate_succ',List.flatten_append]
  congr 1
  simp only [List.map_map,List.flatten_cons,List.flatten_nil,List.append_nil]
  apply List.ext_getElem
  ·simp
  ·intro i h1 h2
   have hi:i < z.size:=by simpa using h2
   simp only [List.getElem_map,List.getElem_range,Function.comp_apply,Array.getElem_toList]
   rw [Nat.mul_add_mod_self_right,Nat.mod_eq_of_lt hi,getElem!_pos z i hi]
end Go.Proofs.YtdigofgjhaakmaaGreatDoor
