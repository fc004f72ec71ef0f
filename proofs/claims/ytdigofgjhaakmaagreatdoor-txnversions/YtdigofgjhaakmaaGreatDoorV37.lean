/-
  TxnVersions.
-/
import Derived.Test.YtdigofgjhaakmaaGreatDoorV36
import Derived.Test.YtdigofgjhaakmaaGreatDoorV01
set_option linter.unusedVariables false
set_option linter.unusedSimpArgs false
set_option maxRecDepth 20000
set_option maxHeartbeats 40000000
namespace Go.Proofs.YtdigofgjhaakmaaGreatDoor
open Go.RowKit
open Sm
open Cf
open Df
open Va
theorem versions16 {w:World} (hv:Vs w) {ga:Addr} (hG:Gl w ga) (a a':Option Addr) (n cap m cap':Nat) (ks:Nat→Int) (os:Nat→Bool)
 (hks:∀ i,i < n→∃ b off,a=some ⟨b,off,none⟩∧w.cell? ⟨b,off+i,none⟩=some (.int .u16 (ks i))∧0≤ks i∧ks i≤65535)
 (hos:∀ i,i < m→∃ b off,a'=some ⟨b,off,none⟩∧w.cell? ⟨b,off+i,none⟩=some (.bool (os i))) :
 Calls Tryz.prog 6 #[.slice a n cap,.slice a' m cap'] w fun e V=>e=.returned (.bool true)∧Below w.heap.size w V:=by
 have CK:=known16 hv hG
 have HV:Hid (∀ V,Below w.heap.size w V→Vs V):=fun V hV=>hv.below hV
 have HG:Hid (Gl w ga):=hG
 have HK:Hid (∀ i,i < n→∃ b off,a=some ⟨b,off,none⟩∧(0≤ks i∧ks i≤65535)∧∀ V,Below w.heap.size w V→V.cell? ⟨b,off+i,none⟩=some (.int .u16 (ks i))):=by
  intro i hi
  obtain ⟨b,off,e,hc,h0,h1⟩:=hks i hi
  exact ⟨b,off,e,⟨h0,h1⟩,fun V hV=>(hV.cell (p:=⟨b,off+i,none⟩) (cell_lt hc)).trans hc⟩
 have HO:Hid (∀ i,i < m→∃ b off,a'=some ⟨b,off,none⟩∧∀ V,Below w.heap.size w V→V.cell? ⟨b,off+i,none⟩=some (.bool (os i))):=by
  intro i hi
  obtain ⟨b,off,e,hc⟩:=hos i hi
  exact ⟨b,off,e,fun V hV=>(hV.cell (p:=⟨b,off+i,none⟩) (cell_lt hc)).trans hc⟩
 clear hv hG hks hos
 go_enter Tryz.func6,Tryz.ntmps6
 go_wp2_with fail
 refine CK.mono ?_
 rintro e V0 ⟨rfl,hb0⟩
 have HB0:Hid (Below w.heap.size w V0):=hb0
 clear CK hb0
 by_cases h20:n≤20
 ·have h1:¬ ((20:Int) < n):=by omega
  have CN:=sd_new (x:=10) (y:=4096) (n:=10) (m:=4096) rfl rfl V0
  go_wp2_with fail
  refine CN.mono ?_
  rintro e V1 ⟨p,rfl,h,hSd0⟩
  have hSd:Sd w V1 p h 4096 10 ⟨false,false,0,0⟩ 0 [] []:=by
   obtain ⟨hc,ks',K,k1,k2,k3⟩:=hSd0.at_
   have hM:=k1.st.mem
   exact ⟨hc,ks',K,⟨⟨⟨HB0.out.trans (hM.below.mono HB0.out.size),fun x hx=>Nat.le_trans HB0.out.size (hM.low x hx),hM.at_,hM.apart⟩,k1.st.heads,k1.st.ok⟩,k1.pos,k1.top,k1.mlo,k1.mhi,k1.left,k1.pre⟩,k2,k3⟩
  have CO:=ta_open hSd HG.out rfl (by omega) (by omega) (by omega) (by omega) (by simp) (ver:=0) (c:=cfg0) (Or.inl ⟨rfl,rfl,rfl⟩) (n:=20) (by omega)
  clear CN hSd hSd0 HB0
  go_wp2_with fail
  refine CO.mono ?_
  rintro e V2 ⟨ps0,rfl,hA,-⟩
  have HA0:Hid (∃ all c,TxA w V2 p h 4096 10 ⟨false,false,0,0⟩ ((0:Nat):Int) all ps0 ((0:Nat):Int) c none 20 []∧Rst all ((0:Nat):Int) c∧all.length=0∧Tn1 c):=⟨[],cfg0,hA,Or.inl ⟨rfl,rfl,rfl⟩,rfl,Or.inl rfl⟩
  clear CO hA
  go_wp2_with fail
  go_loopw [6,8] (fun u6 u8 w'=>∃ (i ps:Nat),i≤n∧u8=.int .i64 i∧u6=.pointer (some ⟨ps,0,none⟩)∧Hid (∃ all c,TxA w w' p h 4096 10 ⟨false,false,0,0⟩ (i:Int) all ps (i:Int) c none 20 []∧Rst all (i:Int) c∧all.length=i∧Tn1 c)) (fun u6 u8 w'=>n - (intOf u8).toNat)
  case atStart=>exact ⟨0,ps0,Nat.zero_le _,rfl,rfl,HA0⟩
  case round =>
   obtain ⟨i,ps,hi,rfl,rfl,HR⟩:=hrel
   clear HA0
   by_cases hlt:i < n
   ·have hlt1:(i:Int) < n:=by omega
    obtain ⟨all,c,hA,hR,hall,htn⟩:=HR.out
    have HTN:Hid (Tn1 c):=htn
    obtain ⟨b,off,rfl,hk,hcl⟩:=HK.out i hlt
    have HCL:Hid (∀ V,Below w.heap.size w V→V.cell? ⟨b,off+i,none⟩=some (.int .u16 (ks i))):=hcl
    have e0:IntKind.u64.wrap (i:Int)=i:=by rw [wrapu64];omega
    have e0':(i:Int) % 18446744073709551616=i:=by omega
    have e1:IntKind.u64.wrap ((i:Int)+1)=(i:Int)+1:=by rw [wrapu64];omega
    have e1':((i:Int)+1) % 18446744073709551616=(i:Int)+1:=by omega
    have CB1:=ta_begin_no hA (v:=(i:Int)+1) (k:=112) (Or.inr ⟨rfl,by omega,rfl⟩)
    have CB2:=ta_begin hA
    have HR2:Hid (Rst all (i:Int) c):=hR
    have HAL:Hid (all.length=i):=hall
    clear HR hA hcl hR hall HK htn
    go_wp2_with fail
    refine CB1.mono ?_
    rintro e _ ⟨rfl,rfl⟩
    go_wp2_with fail
    refine CB2.mono ?_
    rintro e V3 ⟨rfl,hA⟩
    have CB3:=ta_begin_no hA (v:=(i:Int)) (k:=110) (Or.inl ⟨by simp,rfl⟩)
    have CS:=seatC_any V3 none 0 0 (fun _=>0) (fun i hi=>absurd hi (by omega)) 1 (by omega) (by omega)
    have HA:Hid (TxA w V3 p h 4096 10 ⟨false,false,0,0⟩ (i:Int) all ps (i:Int) c (some c) 20 []):=hA
    clear CB1 CB2 hA
    go_wp2_with fail
    refine CB3.mono ?_
    rintro e _ ⟨rfl,rfl⟩
    go_wp2_with fail
    refine CS.mono ?_
    rintro e V4 ⟨v,rfl,hcv,hb4⟩
    have CG:=ta_gateway (HA.out.join hb4) hcv (sc_in _ _) (sc_rg (by decide) _)
    obtain ⟨cl,hcl⟩:∃ cl,v=.agg cl:=by obtain ⟨-,u,e,-⟩:=hcv;exact ⟨_,e⟩
    subst hcl
    clear CS HA hcv hb4 CB3
    go_wp2_with fail
    refine CG.mono ?_
    rintro e V5 ⟨rfl,hA⟩
    have hcell:=HCL.out V5 hA.mem.below
    have HA:Hid (TxA w V5 p h 4096 10 ⟨false,false,0,0⟩ (i:Int) all ps (i:Int) c (some (sc 1 c.ten)) 20 []):=hA
    have CT:=seatT_any V5 0 (by omega) (ks i) hk.1 hk.2
    clear CG hA
    go_wp2_with fail
    refine CT.mono ?_
    rintro e V6 ⟨z,rfl,hz1,hz2,hz3,hb6⟩
    have hzl:=(SeatQ.lig hz2 (by omega))
    have hsq:=SeatQ.sq hz2 (by omega)
    have hA6:=HA.out.join hb6
    have CSt:=ta_stage (y:=yP ⟨#[97]⟩ z) (HV.out V6 hA6.mem.below) hA6 (by omega) hz3 hzl (by show (1:Nat)≤1000000;omega)
    have hft:ftsB (sc 1 c.ten).ten (yP ⟨#[97]⟩ z).1=true:=fts_one hsq
    have est:stg (sc 1 c.ten) (yP ⟨#[97]⟩ z).1=sc 1 [z.1]:=by
     rw [stg,if_pos hft]
     show (⟨_,_,_,_,_,_,app c.ten [(yP ⟨#[97]⟩ z).1]⟩:Cgf)=_
     rw [app_one HTN.out rfl (nk_one hsq)];rfl
    rw [hft,if_pos rfl,est] at CSt
    have hbp:=build_p ⟨#[97]⟩ z hzl.1.len V6
    obtain ⟨Y,hY⟩:∃ Y,(yc (yP ⟨#[97]⟩ z)).toArray=Y:=⟨_,rfl⟩
    rw [hY] at CSt hbp
    have HZ:Hid (SQ 0 z.1∧TIn z.1∧z.1=sQ 0 (ks i)∧TRg z.1∧Lgt z.1):=⟨hsq,hzl.1,hz1,hzl.2⟩
    obtain ⟨A,hAA⟩:∃ A,tv z=.agg A:=⟨_,rfl⟩
    rw [hAA] at hbp
    rw [hAA]
    clear CT HA hA6 hz2 hz3 hzl hsq hft est hb6 hz1 hY hAA hcell
    go_wp2_with (refine wpList_bld rfl 48 _ (by with_reducible rfl) hbp (by simp [Act.eval,Act.put]) ?_)
    refine CSt.mono ?_
    rintro e V7 ⟨rfl,hA⟩
    have HA:Hid (TxA w V7 p h 4096 10 ⟨false,false,0,0⟩ (i:Int) all ps (i:Int) c (some (sc 1 [z.1])) (20+1) []):=hA
    clear CSt hA hbp
    go_upto_region 15 with fail
    go_cut [80] from 29 to 153 (fun u80 w'=>∃ q:Bool,u80=.bool q∧Hid (TxA w w' p h 4096 10 ⟨false,false,0,0⟩ (i:Int) all ps (i:Int) c (some (sc 1 [z.1])) (20+1) []))
    case first =>
     by_cases him:i < m
     ·have h2:(i:Int) < m:=by omega
      obtain ⟨b2,off2,rfl,hc2⟩:=HO.out i him
      have hcb:=hc2 _ HA.out.mem.below
      clear HO hc2
      go_wp2_with fail
      go_meet
      case rel=>exact ⟨_,rfl,HA⟩
     ·have h2:¬ ((i:Int) < m):=by omega
      go_wp2_with fail
      go_meet
      case rel=>exact ⟨_,rfl,HA⟩
    case rest =>
     obtain ⟨q,rfl,HA2⟩:=hcut
     clear HA HO
     go_upto_if 80 with fail
     go_cut [10,11] from 29 to 153 (fun u10 u11 w'=>Hid (TxA w w' p h 4096 10 ⟨false,false,0,0⟩ (i:Int) all ps (i:Int) c (some (sc 1 [z.1])) (20+1) []))
     case first =>
      cases q
      ·go_wp2_with fail
       go_meet
       case rel=>exact HA2
      ·have CO:=ta_open HA2.out.sd HG.out rfl (by omega) (by omega) (by omega) (by omega) (by have:=HAL.out;omega) HR2.out (n:=20) (by omega)
       go_wp2_with fail
       refine CO.mono ?_
       rintro e V8 ⟨ps1,rfl,hT,hb8⟩
       have CAb:=ta_abort_no hT
       have CVr:=ta_version hT
       have HA8:Hid (TxA w V8 p h 4096 10 ⟨false,false,0,0⟩ (i:Int) all ps (i:Int) c (some (sc 1 [z.1])) (20+1) []):=HA2.out.join hb8
       have hvv:((i:Int) != (i:Int))=false:=by simp
       clear CO hT hb8 HA2
       go_wp2_with fail
       refine CAb.mono ?_
       rintro e _ ⟨rfl,rfl⟩
       go_wp2_with fail
       refine CVr.mono ?_
       rintro e _ ⟨rfl,rfl⟩
       go_wp2_with fail
       go_meet
       case rel=>exact HA8
     case rest =>
      have HA3:Hid (TxA w wc p h 4096 10 ⟨false,false,0,0⟩ (i:Int) all ps (i:Int) c (some (sc 1 [z.1])) (20+1) []):=hcut
      clear HA2 hcut
      have CC:=ta_commit (HV.out wc HA3.out.mem.below) HG.out HA3.out (by omega) rfl (by omega) (by omega) (by omega) (by omega) (by have:=HAL.out;omega) (by omega) (by omega)
      have hcm:cmE 10 4096 (i:Int) (sc 1 [z.1])=0:=cm_one (by omega) HZ.out.2.1.len HZ.out.1 (by decide)
      clear HA3
      go_wp2_with fail
      refine CC.mono ?_
      rintro e V8 ⟨k,er,rfl,hc⟩
      rcases hc with ⟨-,a1,a2,-⟩ | ⟨rfl,rfl,-,D',hd1,hd2,hR,hA⟩ | ⟨-,-,-,a1,-⟩
      ·exact absurd (a1.trans hcm) a2
      ·have hD:=hd2 rfl
       subst hD
       have CO:=ta_open hA.sd HG.out rfl (by omega) (by omega) (by omega) (by omega) (by simp [HAL.out];omega) hR (n:=20) (by omega)
       have HA8:Hid (TxA w V8 p h 4096 10 ⟨false,false,0,0⟩ ((i:Int)+1) (all++[rcd16 ((i:Int)+1) (sc 1 [z.1])]) ps ((i:Int)+1) (sc 1 [z.1]) none (20+1) []):=hA
       have HRS:Hid (Rst (all++[rcd16 ((i:Int)+1) (sc 1 [z.1])]) ((i:Int)+1) (sc 1 [z.1])):=hR
       clear CC hcm hA hR hd1 hd2
       go_wp2_with fail
       refine CO.mono ?_
       rintro e V9 ⟨ps2,rfl,hT,hb9⟩
       have hA9:=HA8.out.join hb9
       have HT2:Hid (TxA w V9 p h 4096 10 ⟨false,false,0,0⟩ ((i:Int)+1) (all++[rcd16 ((i:Int)+1) (sc 1 [z.1])]) ps2 ((i:Int)+1) (sc 1 [z.1]) none 20 []):=hT
       have HS:Hid (∀ X,Below V9.heap.size V9 X→X.cell? ⟨b,off+i,none⟩=some (.int .u16 (ks i))):=fun X hX=>HCL.out X (hT.mem.below.trans (hX.mono hT.mem.below.size))
       have HVt:Hid (∀ X,Below V9.heap.size V9 X→Calls Tryz.prog 15 #[.pointer (some ⟨ps2,0,none⟩)] X fun e W'=>e=.returned (.int .u64 ((i:Int)+1))∧X=W'):=fun X hX=>ta_version (HT2.out.join hX)
       have HVs:Hid (∀ X,Below V9.heap.size V9 X→Calls Tryz.prog 15 #[.pointer (some ⟨ps,0,none⟩)] X fun e W'=>e=.returned (.int .u64 ((i:Int)+1))∧X=W'):=fun X hX=>ta_version (hA9.join hX)
       have HCF:Hid (∀ X,Below V9.heap.size V9 X→Calls Tryz.prog 17 #[.pointer (some ⟨ps2,0,none⟩)] X fun e V=>∃ v,e=.returned v∧Cpd X (sc 1 [z.1]) (sc 1 [z.1]).ten v V):=fun X hX=>ta_config (HT2.out.join hX) (by omega)
       have HFW:Hid (∀ t∈(sc 1 [z.1]).ten,TFew t):=lig_tfew hT.lig.1
       have HSC:Hid (∀ (X:World) (g:Nat),True→X.heap[g]? = some (.cells #[.int .u16 (ks i)] 42)→Calls Tryz.prog 34 #[.slice (some ⟨g,0,none⟩) 1 1,.int .u8 1] X fun e V=>∃ v,e=.returned v∧CV V v (sc 1 [z.1])∧Below X.heap.size X V):=by
        intro X g _ hg
        have hks:∀ j,j < 1→∃ b off,(some ⟨g,0,none⟩:Option Addr)=some ⟨b,off,none⟩∧X.cell? ⟨b,off+j,none⟩=some (.int .u16 (ks i))∧0≤ks i∧ks i≤65535:=by
         intro j hj
         obtain rfl:j=0:=by omega
         exact ⟨g,0,rfl,by rw [cell_of hg];rfl,hk⟩
        have:=seatC_any X (some ⟨g,0,none⟩) 1 1 (fun _=>ks i) hks 1 (by omega) (by omega)
        have e3:(sc (Int.tmod 1 8) ((List.range (min 1 4)).map fun j=>sQ j (ks i)))=sc 1 [z.1]:=by rw [HZ.out.2.2.1];rfl
        rw [e3] at this
        exact this
       have hvv:((i:Int)+1 != (i:Int)+1)=false:=by simp
       have hw0:IntKind.i64.wrap 0=0:=rfl
       clear CO hT hb9 hA9 HA8
       go_upto_region 21 with fail
       refine wp_region_held_drew (S:=fun X=>X.cell? ⟨b,off+i,none⟩=some (.int .u16 (ks i))) (by kernel_rfl) (HS.out _ (Below.refl _ _).drew) (fun hHeld=>?_)
       refine tkq 0 rfl (v:=?_) (Or.inl ⟨by rfl,?qy0⟩) ?_
       case qy0=>intro w hSw;(try dsimp only at hSw);go_simp;all_goals with_reducible rfl
       try simp only [sqa,sqb,sqc,Act.put,sqd,sqe,sqf]
       refine tkq 1 rfl (v:=?_) (Or.inl ⟨by rfl,?qy1⟩) ?_
       case qy1=>intro w hSw;(try dsimp only at hSw);go_simp;all_goals with_reducible rfl
       try simp only [sqa,sqb,sqc,Act.put,sqd,sqe,sqf]
       refine tkq 2 rfl (v:=?_) (Or.inl ⟨by rfl,?qy2⟩) ?_
       case qy2=>intro w hSw;(try dsimp only at hSw);go_simp;all_goals with_reducible rfl
       try simp only [sqa,sqb,sqc,Act.put,sqd,sqe,sqf]
       refine tkq 3 rfl (v:=?_) (Or.inl ⟨by rfl,?qy3⟩) ?_
       case qy3=>intro w hSw;(try dsimp only at hSw);go_simp;all_goals with_reducible rfl
       try simp only [sqa,sqb,sqc,Act.put,sqd,sqe,sqf]
       refine tkq 4 rfl (v:=?_) (Or.inl ⟨by rfl,?qy4⟩) ?_
       case qy4=>intro w hSw;(try dsimp only at hSw);go_simp;all_goals with_reducible rfl
       try simp only [sqa,sqb,sqc,Act.put,sqd,sqe,sqf]
       refine tkq 5 rfl (v:=?_) (Or.inl ⟨by rfl,?qy5⟩) ?_
       case qy5=>intro w hSw;(try dsimp only at hSw);go_simp;all_goals with_reducible rfl
       try simp only [sqa,sqb,sqc,Act.put,sqd,sqe,sqf]
       refine tkq 6 rfl (v:=?_) (Or.inl ⟨by rfl,?qy6⟩) ?_
       case qy6=>intro w hSw;(try dsimp only at hSw);go_simp;all_goals with_reducible rfl
       try simp only [sqa,sqb,sqc,Act.put,sqd,sqe,sqf]
       refine tkq 7 rfl (v:=?_) (Or.inl ⟨by rfl,?qy7⟩) ?_
       case qy7=>intro w hSw;(try dsimp only at hSw);go_simp;all_goals with_reducible rfl
       try simp only [sqa,sqb,sqc,Act.put,sqd,sqe,sqf]
       refine tkq 8 rfl (v:=?_) (Or.inl ⟨by rfl,?qy8⟩) ?_
       case qy8=>intro w hSw;(try dsimp only at hSw);go_simp;all_goals with_reducible rfl
       try simp only [sqa,sqb,sqc,Act.put,sqd,sqe,sqf]
       refine tkq 9 rfl (v:=?_) (Or.inl ⟨by rfl,?qy9⟩) ?_
       case qy9=>intro w hSw;(try dsimp only at hSw);go_simp;all_goals with_reducible rfl
       try simp only [sqa,sqb,sqc,Act.put,sqd,sqe,sqf]
       refine tkq 10 rfl (v:=?_) (Or.inl ⟨by rfl,?qy10⟩) ?_
       case qy10=>intro w hSw;(try dsimp only at hSw);go_simp;all_goals with_reducible rfl
       try simp only [sqa,sqb,sqc,Act.put,sqd,sqe,sqf]
       refine tkq 11 rfl (v:=?_) (Or.inl ⟨by rfl,?qy11⟩) ?_
       case qy11=>intro w hSw;(try dsimp only at hSw);go_simp;all_goals with_reducible rfl
       try simp only [sqa,sqb,sqc,Act.put,sqd,sqe,sqf]
       refine tkq 12 rfl (v:=?_) (Or.inl ⟨by rfl,?qy12⟩) ?_
       case qy12=>intro w hSw;(try dsimp only at hSw);go_simp;all_goals with_reducible rfl
       try simp only [sqa,sqb,sqc,Act.put,sqd,sqe,sqf]
       refine tkq 13 rfl (v:=?_) (Or.inl ⟨by rfl,?qy13⟩) ?_
       case qy13=>intro w hSw;(try dsimp only at hSw);go_simp;all_goals with_reducible rfl
       try simp only [sqa,sqb,sqc,Act.put,sqd,sqe,sqf]
       refine tkq 14 rfl (v:=?_) (Or.inl ⟨by rfl,?qy14⟩) ?_
       case qy14=>intro w hSw;(try dsimp only at hSw);go_simp;all_goals with_reducible rfl
       try simp only [sqa,sqb,sqc,Act.put,sqd,sqe,sqf]
       refine tkq 15 rfl (v:=?_) (Or.inl ⟨by rfl,?qy15⟩) ?_
       case qy15=>intro w hSw;(try dsimp only at hSw);go_simp;all_goals with_reducible rfl
       try simp only [sqa,sqb,sqc,Act.put,sqd,sqe,sqf]
       refine tkq 17 rfl (v:=?_) (Or.inl ⟨by rfl,?qy17⟩) ?_
       case qy17=>intro w hSw;(try dsimp only at hSw);go_simp;all_goals with_reducible rfl
       try simp only [sqa,sqb,sqc,Act.put,sqd,sqe,sqf]
       refine tkq 18 rfl (v:=?_) (Or.inl ⟨by rfl,?qy18⟩) ?_
       case qy18=>intro w hSw;(try dsimp only at hSw);go_simp;all_goals with_reducible rfl
       try simp only [sqa,sqb,sqc,Act.put,sqd,sqe,sqf]
       refine wpAnyH_ready (rs:=[16]) (by kernel_rfl) (by simp) ?_
       refine AllReadyH.cons rfl (fun K hK=>?_) AllReadyH.nil
       go_simp
       with_reducible refine (HVt.out _ (Below.refl _ _).drew).mono ?_
       rintro e _ ⟨rfl,rfl⟩
       try go_wp2_with fail
       refine hK.out _ _ (HS.out _ (Below.refl _ _).drew) (fun hHeld=>?_)
       clear hK K
       try simp only [sqa,sqb,sqc,Act.put,sqd,sqe,sqf]
       refine tkq 19 rfl (v:=?_) (Or.inl ⟨by rfl,?qy19⟩) ?_
       case qy19=>intro w hSw;(try dsimp only at hSw);go_simp;all_goals with_reducible rfl
       try simp only [sqa,sqb,sqc,Act.put,sqd,sqe,sqf]
       refine tkq 20 rfl (v:=?_) (Or.inl ⟨by rfl,?qy20⟩) ?_
       case qy20=>intro w hSw;(try dsimp only at hSw);go_simp;all_goals with_reducible rfl
       try simp only [sqa,sqb,sqc,Act.put,sqd,sqe,sqf]
       refine tkq 21 rfl (v:=?_) (Or.inl ⟨by rfl,?qy21⟩) ?_
       case qy21=>intro w hSw;(try dsimp only at hSw);go_simp;all_goals with_reducible rfl
       try simp only [sqa,sqb,sqc,Act.put,sqd,sqe,sqf]
       refine tkq 22 rfl (v:=?_) (Or.inl ⟨by rfl,?qy22⟩) ?_
       case qy22=>intro w hSw;(try dsimp only at hSw);go_simp;all_goals with_reducible rfl
       try simp only [sqa,sqb,sqc,Act.put,sqd,sqe,sqf]
       refine tkq 24 rfl (v:=?_) (Or.inl ⟨by rfl,?qy24⟩) ?_
       case qy24=>intro w hSw;(try dsimp only at hSw);go_simp;all_goals with_reducible rfl
       try simp only [sqa,sqb,sqc,Act.put,sqd,sqe,sqf]
       refine tkq 25 rfl (v:=?_) (Or.inl ⟨by rfl,?qy25⟩) ?_
       case qy25=>intro w hSw;(try dsimp only at hSw);go_simp;all_goals with_reducible rfl
       try simp only [sqa,sqb,sqc,Act.put,sqd,sqe,sqf]
       refine wpAnyH_ready (rs:=[23]) (by kernel_rfl) (by simp) ?_
       refine AllReadyH.cons rfl (fun K hK=>?_) AllReadyH.nil
       go_simp
       with_reducible refine (HVs.out _ (Below.refl _ _).drew).mono ?_
       rintro e _ ⟨rfl,rfl⟩
       try go_wp2_with fail
       refine hK.out _ _ (HS.out _ (Below.refl _ _).drew) (fun hHeld=>?_)
       clear hK K
       try simp only [sqa,sqb,sqc,Act.put,sqd,sqe,sqf]
       refine tkq 26 rfl (v:=?_) (Or.inl ⟨by rfl,?qy26⟩) ?_
       case qy26=>intro w hSw;(try dsimp only at hSw);go_simp;all_goals with_reducible rfl
       try simp only [sqa,sqb,sqc,Act.put,sqd,sqe,sqf]
       refine tkq 27 rfl (v:=?_) (Or.inl ⟨by rfl,?qy27⟩) ?_
       case qy27=>intro w hSw;(try dsimp only at hSw);go_simp;all_goals with_reducible rfl
       try simp only [sqa,sqb,sqc,Act.put,sqd,sqe,sqf]
       refine tkq 28 rfl (v:=?_) (Or.inl ⟨by rfl,?qy28⟩) ?_
       case qy28=>intro w hSw;(try dsimp only at hSw);go_simp;all_goals with_reducible rfl
       try simp only [sqa,sqb,sqc,Act.put,sqd,sqe,sqf]
       refine tkq 29 rfl (v:=?_) (Or.inl ⟨by rfl,?qy29⟩) ?_
       case qy29=>intro w hSw;(try dsimp only at hSw);go_simp;all_goals with_reducible rfl
       try simp only [sqa,sqb,sqc,Act.put,sqd,sqe,sqf]
       refine tkq 31 rfl (v:=?_) (Or.inl ⟨by rfl,?qy31⟩) ?_
       case qy31=>intro w hSw;(try dsimp only at hSw);go_simp;all_goals with_reducible rfl
       try simp only [sqa,sqb,sqc,Act.put,sqd,sqe,sqf]
       refine tkq 32 rfl (v:=?_) (Or.inl ⟨by rfl,?qy32⟩) ?_
       case qy32=>intro w hSw;(try dsimp only at hSw);go_simp;all_goals with_reducible rfl
       try simp only [sqa,sqb,sqc,Act.put,sqd,sqe,sqf]
       refine tkq 33 rfl (v:=?_) (Or.inl ⟨by rfl,?qy33⟩) ?_
       case qy33=>intro w hSw;(try dsimp only at hSw);go_simp;all_goals with_reducible rfl
       try simp only [sqa,sqb,sqc,Act.put,sqd,sqe,sqf]
       refine tkq 34 rfl (v:=?_) (Or.inl ⟨by rfl,?qy34⟩) ?_
       case qy34=>intro w hSw;(try dsimp only at hSw);go_simp;all_goals with_reducible rfl
       try simp only [sqa,sqb,sqc,Act.put,sqd,sqe,sqf]
       refine wpAnyH_ready (rs:=[30,35]) (by kernel_rfl) (by simp) ?_
       refine AllReadyH.cons rfl (fun K hK=>?_) (AllReadyH.cons rfl (fun K hK=>?_) AllReadyH.nil)
       ·go_simp
        with_reducible refine (HCF.out _ (Below.refl _ _).drew).mono ?_
        rintro e V10 ⟨v5,rfl,hcp⟩
        try go_wp2_with fail
        have hb10:=below_dr hcp.below
        have hcv5:=hcp.cv (sc_len _ _)
        obtain ⟨cl5,hcl⟩:∃ cl,v5=.agg cl:=by obtain ⟨-,u,e,-⟩:=hcv5;exact ⟨_,e⟩
        subst hcl
        refine hK.out _ _ (HS.out _ hb10) (fun hHeld=>?_)
        clear hK K
        try simp only [sqa,sqb,sqc,Act.put,sqd,sqe,sqf]
        have hbx:Below V10.heap.size V10 (V10.alloc (.cells #[.int .u16 (ks i)] 42)):=(Below.refl _ _).alloc (Nat.le_refl _) _
        have hbb:=hb10.trans (hbx.mono hb10.size)
        have hcv11:=hcv5.at_ hbx (Nat.le_refl _)
        have hgk:(V10.alloc (.cells #[.int .u16 (ks i)] 42)).heap[V10.heap.size]? = some (.cells #[.int .u16 (ks i)] 42):=heap_alloc_new _ _
        have hba:True:=trivial
        refine wpAnyH_ready (rs:=[35]) (by kernel_rfl) (by simp) ?_
        refine AllReadyH.cons rfl (fun K hK=>?_) AllReadyH.nil
        go_simp
        refine hK.out _ _ (HS.out _ hbb) (fun hHeld=>?_)
        clear hK K hcp hb10 hbx hcv5
        try simp only [sqa,sqb,sqc,Act.put,sqd,sqe,sqf]
        refine wpAnyH_ready (rs:=[36]) (by kernel_rfl) (by simp) ?_
        refine AllReadyH.cons rfl (fun K hK=>?_) AllReadyH.nil
        go_simp
        with_reducible refine (HSC.out _ _ hba hgk).mono ?_
        rintro e V12 ⟨v2,rfl,hcv2,hb12⟩
        try go_wp2_with fail
        refine hK.out _ _ (HS.out _ (hbb.trans (hb12.mono hbb.size))) (fun hHeld=>?_)
        clear hK K
        try simp only [sqa,sqb,sqc,Act.put,sqd,sqe,sqf]
        obtain ⟨cl12,hcl⟩:∃ cl,v2=.agg cl:=by obtain ⟨-,u,e,-⟩:=hcv2;exact ⟨_,e⟩
        subst hcl
        have hbc:=hbb.trans (hb12.mono hbb.size)
        have hcva:=hcv11.at_ hb12 (Nat.le_refl _)
        refine wpAnyH_ready (rs:=[37]) (by kernel_rfl) (by simp) ?_
        refine AllReadyH.cons rfl (fun K hK=>?_) AllReadyH.nil
        go_simp
        with_reducible refine (hconfig_yes hcva hcv2 HFW.out (csame_refl16 _)).mono ?_
        rintro e V13 ⟨rfl,hb13⟩
        try go_wp2_with fail
        refine hK.out _ _ (HS.out _ (hbc.trans (hb13.mono hbc.size))) (fun hHeld=>?_)
        clear hK K
        try simp only [sqa,sqb,sqc,Act.put,sqd,sqe,sqf]
        refine tkq 38 rfl (v:=?_) (Or.inl ⟨by rfl,?ray38⟩) ?_
        case ray38=>intro w hSw;(try dsimp only at hSw);go_simp;all_goals with_reducible rfl
        try simp only [sqa,sqb,sqc,Act.put,sqd,sqe,sqf]
        refine tkq 39 rfl (v:=?_) (Or.inl ⟨by rfl,?ray39⟩) ?_
        case ray39=>intro w hSw;(try dsimp only at hSw);go_simp;all_goals with_reducible rfl
        try simp only [sqa,sqb,sqc,Act.put,sqd,sqe,sqf]
        refine wpAnyH_done (by kernel_rfl) ?_ _
        have HF:Hid (TxA w V13 p h 4096 10 ⟨false,false,0,0⟩ ((i:Int)+1) (all++[rcd16 ((i:Int)+1) (sc 1 [z.1])]) ps2 ((i:Int)+1) (sc 1 [z.1]) none 20 []):=HT2.out.join (hbc.trans (hb13.mono hbc.size))
        clear HSC HS HVt HVs hbb hbc hb12 hb13 hcva hcv2 hcv11 HT2 HFW
        go_wp2_with fail
        go_roundw
        case rel=>exact ⟨i+1,ps2,by omega,by go_num,rfl,_,_,HF.out,HRS.out,by simp [HAL.out],Or.inr ⟨_,rfl,nk_one HZ.out.1⟩⟩
        case measure=>simp [intOf];omega
       ·go_simp
        have hbx:Below V9.heap.size V9 (V9.alloc (.cells #[.int .u16 (ks i)] 42)).drew:=((Below.refl _ _).alloc (Nat.le_refl _) _).drew
        refine hK.out _ _ (HS.out _ hbx) (fun hHeld=>?_)
        clear hK K
        try simp only [sqa,sqb,sqc,Act.put,sqd,sqe,sqf]
        have hgk0:(V9.alloc (.cells #[.int .u16 (ks i)] 42)).drew.heap[V9.heap.size]? = some (.cells #[.int .u16 (ks i)] 42):=heap_alloc_new _ _
        refine wpAnyH_ready (rs:=[30]) (by kernel_rfl) (by simp) ?_
        refine AllReadyH.cons rfl (fun K hK=>?_) AllReadyH.nil
        go_simp
        with_reducible refine (HCF.out _ hbx).mono ?_
        rintro e V10 ⟨v5,rfl,hcp⟩
        try go_wp2_with fail
        have hcv11:=hcp.cv (sc_len _ _)
        have hbb:=hbx.trans (hcp.below.mono hbx.size)
        obtain ⟨cl5,hcl⟩:∃ cl,v5=.agg cl:=by obtain ⟨-,u,e,-⟩:=hcv11;exact ⟨_,e⟩
        subst hcl
        have hgk:V10.heap[V9.heap.size]? = some (.cells #[.int .u16 (ks i)] 42):=(hcp.below.block _ (by show V9.heap.size < (V9.alloc _).heap.size;simp)).trans hgk0
        have hba:True:=trivial
        refine hK.out _ _ (HS.out _ hbb) (fun hHeld=>?_)
        clear hK K hcp hbx hgk0
        try simp only [sqa,sqb,sqc,Act.put,sqd,sqe,sqf]
        refine wpAnyH_ready (rs:=[36]) (by kernel_rfl) (by simp) ?_
        refine AllReadyH.cons rfl (fun K hK=>?_) AllReadyH.nil
        go_simp
        with_reducible refine (HSC.out _ _ hba hgk).mono ?_
        rintro e V12 ⟨v2,rfl,hcv2,hb12⟩
        try go_wp2_with fail
        refine hK.out _ _ (HS.out _ (hbb.trans (hb12.mono hbb.size))) (fun hHeld=>?_)
        clear hK K
        try simp only [sqa,sqb,sqc,Act.put,sqd,sqe,sqf]
        obtain ⟨cl12,hcl⟩:∃ cl,v2=.agg cl:=by obtain ⟨-,u,e,-⟩:=hcv2;exact ⟨_,e⟩
        subst hcl
        have hbc:=hbb.trans (hb12.mono hbb.size)
        have hcva:=hcv11.at_ hb12 (Nat.le_refl _)
        refine wpAnyH_ready (rs:=[37]) (by kernel_rfl) (by simp) ?_
        refine AllReadyH.cons rfl (fun K hK=>?_) AllReadyH.nil
        go_simp
        with_reducible refine (hconfig_yes hcva hcv2 HFW.out (csame_refl16 _)).mono ?_
        rintro e V13 ⟨rfl,hb13⟩
        try go_wp2_with fail
        refine hK.out _ _ (HS.out _ (hbc.trans (hb13.mono hbc.size))) (fun hHeld=>?_)
        clear hK K
        try simp only [sqa,sqb,sqc,Act.put,sqd,sqe,sqf]
        refine tkq 38 rfl (v:=?_) (Or.inl ⟨by rfl,?rby38⟩) ?_
        case rby38=>intro w hSw;(try dsimp only at hSw);go_simp;all_goals with_reducible rfl
        try simp only [sqa,sqb,sqc,Act.put,sqd,sqe,sqf]
        refine tkq 39 rfl (v:=?_) (Or.inl ⟨by rfl,?rby39⟩) ?_
        case rby39=>intro w hSw;(try dsimp only at hSw);go_simp;all_goals with_reducible rfl
        try simp only [sqa,sqb,sqc,Act.put,sqd,sqe,sqf]
        refine wpAnyH_done (by kernel_rfl) ?_ _
        have HF:Hid (TxA w V13 p h 4096 10 ⟨false,false,0,0⟩ ((i:Int)+1) (all++[rcd16 ((i:Int)+1) (sc 1 [z.1])]) ps2 ((i:Int)+1) (sc 1 [z.1]) none 20 []):=HT2.out.join (hbc.trans (hb13.mono hbc.size))
        clear HSC HS HVt HVs hbb hbc hb12 hb13 hcva hcv2 hcv11 HT2 HFW
        go_wp2_with fail
        go_roundw
        case rel=>exact ⟨i+1,ps2,by omega,by go_num,rfl,_,_,HF.out,HRS.out,by simp [HAL.out],Or.inr ⟨_,rfl,nk_one HZ.out.1⟩⟩
        case measure=>simp [intOf];omega
      ·cases a1
   ·have hlt1:¬ ((i:Int) < n):=by omega
    obtain ⟨all,c,hA,hR,hall,-⟩:=HR.out
    have HE:Hid (Below w.heap.size w wr):=hA.mem.below
    clear HR hA
    go_wp2_with fail
    go_ret
    exact ⟨rfl,HE.out⟩
 ·have h1:(20:Int) < n:=by omega
  go_wp2_with fail
  go_ret
  exact ⟨rfl,HB0.out⟩
end Go.Proofs.YtdigofgjhaakmaaGreatDoor
