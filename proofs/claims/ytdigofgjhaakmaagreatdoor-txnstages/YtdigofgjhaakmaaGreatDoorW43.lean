/-
  TxnStages.
-/
import Derived.Test.YtdigofgjhaakmaaGreatDoorW42
import Derived.Test.YtdigofgjhaakmaaGreatDoorW01
set_option linter.unusedVariables false
set_option linter.unusedSimpArgs false
set_option maxRecDepth 20000
set_option maxHeartbeats 40000000
namespace Go.Proofs.YtdigofgjhaakmaaGreatDoor
open Go.RowKit
open Sm
open Cf
open Df
open Va
def cT (l:List Ten):Cgf:={ cfg0 with ten:=l }
theorem cpd_zero {W V:World} {v:Value} (h:Cpd W cfg0 cfg0.ten v V):∃ a c,v=.agg (cc cfg0 (.slice a 0 c)).toArray:=by
 obtain ⟨u,rfl,B,C,⟨zs,e,h1,-⟩,-⟩:=h
 have hz:zs=[]:=by cases zs with
  | nil=>rfl
  | cons x r=>cases e
 subst hz
 rcases h1.2 with ⟨rfl,-,-⟩ | ⟨g,cap,cur,rfl,-⟩
 ·exact ⟨_,_,rfl⟩
 ·exact ⟨_,_,rfl⟩
theorem fld6 (u:Value) (W:World):(Instr.field 39 (.agg (cc cfg0 u).toArray) 6).run Tryz.prog W=.ok u W:=by
 obtain ⟨os,tape,heap⟩:=W
 kernel_rfl
theorem wpList_fld {ops:Array Oper} {rest:List Oper} {o:Oper} {a:Act} {w w':World} {Q:Exit→Act→World→Prop} (hw:Region.wanted o (yielded ops a.tmps)=true) (ty:TypeId) (x:Operand) (i:Nat) (ho:o.op=.field ty x i) {v0 v:Value}
 (hr:(Instr.field ty v0 i).run Tryz.prog w=.ok v w') (hv:a.eval x=v0) (h:wpList Tryz.prog ops Q rest (a.put o.dst v) w'):wpList Tryz.prog ops Q (o::rest) a w :=
 wpList_wanted hw fun _ hK=>by
  subst hv
  unfold Oper.wp execOp
  simp only [ho,Sem.run_bind,hr,Result.andThen_ok,Sem.run_pure]
  exact hK _ _ h
theorem stages16 {w:World} (hv:Vs w) {ga:Addr} (hG:Gl w ga) (a:Option Addr) (n cap:Nat) (ks:Nat→Int)
 (hks:∀ i,i < n→∃ b off,a=some ⟨b,off,none⟩∧w.cell? ⟨b,off+i,none⟩=some (.int .u16 (ks i))∧0≤ks i∧ks i≤65535) (b:Int) (hb0:0≤b) (hb1:b≤255) :
 Calls Tryz.prog 7 #[.slice a n cap,.int .u8 b] w fun e V=>e=.returned (.bool true)∧Below w.heap.size w V:=by
 have CK:=known16 hv hG
 have HV:Hid (∀ V,Below w.heap.size w V→Vs V):=fun V hV=>hv.below hV
 have HG:Hid (Gl w ga):=hG
 have HK:Hid (∀ i,i < n→∃ b off,a=some ⟨b,off,none⟩∧(0≤ks i∧ks i≤65535)∧∀ V,Below w.heap.size w V→V.cell? ⟨b,off+i,none⟩=some (.int .u16 (ks i))):=by
  intro i hi
  obtain ⟨b,off,e,hc,h0,h1⟩:=hks i hi
  exact ⟨b,off,e,⟨h0,h1⟩,fun V hV=>(hV.cell (p:=⟨b,off+i,none⟩) (cell_lt hc)).trans hc⟩
 obtain ⟨m,hm⟩:∃ m:Nat,Int.tmod b 6=m:=⟨(Int.tmod b 6).toNat,by rw [Int.tmod_eq_emod_of_nonneg hb0];omega⟩
 have hm6:m < 6:=by rw [Int.tmod_eq_emod_of_nonneg hb0] at hm;omega
 clear hv hG hks hb0 hb1
 go_enter Tryz.func7,Tryz.ntmps7
 go_wp2_with fail
 refine CK.mono ?_
 rintro e V0 ⟨rfl,hb0⟩
 have HB0:Hid (Below w.heap.size w V0):=hb0
 clear CK hb0
 by_cases h4:n≤4
 ·have h1:¬ ((4:Int) < n):=by omega
  have CN:=sd_new (x:=10) (y:=4096) (n:=10) (m:=4096) rfl rfl V0
  go_wp2_with fail
  refine CN.mono ?_
  rintro e V1 ⟨p,rfl,h,hSd0⟩
  have CO:=ta_open (hSd0.base HB0.out) HG.out rfl (by omega) (by omega) (by omega) (by omega) (by simp) (ver:=0) (c:=cfg0) (Or.inl ⟨rfl,rfl,rfl⟩) (n:=20) (by omega)
  clear CN hSd0 HB0
  go_wp2_with fail
  refine CO.mono ?_
  rintro e V2 ⟨ps,rfl,hA,-⟩
  have CB:=ta_begin hA
  have hzq:((0:Int) != 0)=false:=rfl
  have e0:IntKind.i64.wrap ((n:Int) - 1)=(n:Int) - 1:=wrap64n (by omega) (by omega)
  clear CO hA
  go_wp2_with fail
  refine CB.mono ?_
  rintro e V3 ⟨rfl,hA⟩
  have HA0:Hid (TxA w V3 p h 4096 10 D0 0 [] ps 0 cfg0 (some (cT (sLs ks n n))) (20+(n - n)) []):=by
   rw [sl_end,Nat.sub_self];exact hA
  clear CB hA
  go_wp2_with fail
  go_loopw [7] (fun u7 w'=>∃ (q:Int) (j:Nat),j≤n∧q=(j:Int) - 1∧u7=.int .i64 q∧Hid (TxA w w' p h 4096 10 D0 0 [] ps 0 cfg0 (some (cT (sLs ks n j))) (20+(n - j)) [])) (fun u7 w'=>(intOf u7+1).toNat)
  case atStart=>exact ⟨_,n,Nat.le_refl _,rfl,rfl,HA0⟩
  case round =>
   obtain ⟨q,j,hj,hq,rfl,HR⟩:=hrel
   clear HA0
   by_cases hq0:0≤q
   ·obtain ⟨i,rfl⟩:∃ i:Nat,q=(i:Int):=⟨q.toNat,by omega⟩
    obtain rfl:j=i+1:=by omega
    have hin:i < n:=by omega
    have hin1:(i:Int) < n:=by omega
    have e5:IntKind.i64.wrap ((i:Int) - 1)=(i:Int) - 1:=wrap64n (by omega) (by omega)
    obtain ⟨b',off,rfl,hk,hcl⟩:=HK.out i hin
    have HCL:Hid (∀ V,Below w.heap.size w V→V.cell? ⟨b',off+i,none⟩=some (.int .u16 (ks i))):=hcl
    have HA:Hid (TxA w wr.drew p h 4096 10 D0 0 [] ps 0 cfg0 (some (cT (sLs ks n (i+1)))) (20+(n - (i+1))) []):=HR.out.join (Below.refl _ _).drew
    have CNm:∀ X,Calls Tryz.prog 36 #[.int .i64 (i:Int)] X fun e w'=>e=.returned (.string (sNa i))∧X=w':=fun X=>sname14_any X i (by omega)
    have HCT:Hid (∀ X,Calls Tryz.prog 35 #[.int .i64 (i:Int),.int .u16 (ks i)] X fun e V=>∃ z:Tv,e=.returned (tv z)∧z.1=sQ i (ks i)∧SeatQ i (ks i) z.1∧Rws V z∧Below X.heap.size X V):=fun X=>seatT_any X i (by omega) (ks i) hk.1 hk.2
    have HN4:Hid (n≤4∧i < n):=⟨h4,hin⟩
    clear HR hcl hk hq hj hin
    go_upto_region 11 with fail
    refine wp_region_held_drew (S:=fun X=>X.cell? ⟨b',off+i,none⟩=some (.int .u16 (ks i))) (by kernel_rfl) (HCL.out _ HA.out.mem.below) (fun hHeld=>?_)
    refine tkq 0 rfl (v:=?_) (Or.inl ⟨by rfl,?z44⟩) ?_
    case z44=>intro w hSw;(try dsimp only at hSw);go_simp;all_goals with_reducible rfl
    try simp only [sqa,sqb,sqc,Act.put,sqd,sqe,sqf]
    refine tkq 1 rfl (v:=?_) (Or.inl ⟨by rfl,?z45⟩) ?_
    case z45=>intro w hSw;(try dsimp only at hSw);go_simp;all_goals with_reducible rfl
    try simp only [sqa,sqb,sqc,Act.put,sqd,sqe,sqf]
    refine tkq 3 rfl (v:=?_) (Or.inl ⟨by rfl,?z46⟩) ?_
    case z46=>intro w hSw;(try dsimp only at hSw);go_simp;all_goals with_reducible rfl
    try simp only [sqa,sqb,sqc,Act.put,sqd,sqe,sqf]
    refine tkq 4 rfl (v:=?_) (Or.inl ⟨by rfl,?z47⟩) ?_
    case z47=>intro w hSw;(try dsimp only at hSw);go_simp;all_goals with_reducible rfl
    try simp only [sqa,sqb,sqc,Act.put,sqd,sqe,sqf]
    refine tkq 5 rfl (v:=?_) (Or.inl ⟨by rfl,?z48⟩) ?_
    case z48=>intro w hSw;(try dsimp only at hSw);go_simp;all_goals with_reducible rfl
    try simp only [sqa,sqb,sqc,Act.put,sqd,sqe,sqf]
    refine tkq 6 rfl (v:=?_) (Or.inl ⟨by rfl,?z49⟩) ?_
    case z49=>intro w hSw;(try dsimp only at hSw);go_simp;all_goals with_reducible rfl
    try simp only [sqa,sqb,sqc,Act.put,sqd,sqe,sqf]
    refine tkq 7 rfl (v:=?_) (Or.inl ⟨by rfl,?z50⟩) ?_
    case z50=>intro w hSw;(try dsimp only at hSw);go_simp;all_goals with_reducible rfl
    try simp only [sqa,sqb,sqc,Act.put,sqd,sqe,sqf]
    refine wpAnyH_ready (rs:=[2]) (by kernel_rfl) (by simp) ?_
    refine AllReadyH.cons rfl (fun K hK=>?_) AllReadyH.nil
    go_simp
    with_reducible refine (CNm _).mono ?_
    rintro e _ ⟨rfl,rfl⟩
    try go_wp2_with fail
    refine hK.out _ _ (HCL.out _ HA.out.mem.below) (fun hHeld=>?_)
    clear hK K
    try simp only [sqa,sqb,sqc,Act.put,sqd,sqe,sqf]
    refine wpAnyH_ready (rs:=[8]) (by kernel_rfl) (by simp) ?_
    refine AllReadyH.cons rfl (fun K hK=>?_) AllReadyH.nil
    go_simp
    with_reducible refine (HCT.out _).mono ?_
    rintro e V6 ⟨z,rfl,hz1,hz2,hz3,hb6⟩
    try go_wp2_with fail
    have hzl:=SeatQ.lig hz2 (by have:=HN4.out;omega)
    have hsq:=SeatQ.sq hz2 (by have:=HN4.out;omega)
    have hA6:=HA.out.join hb6
    have CSt:=ta_stage (y:=yP (sNa i) z) (HV.out V6 hA6.mem.below) hA6 (by omega) hz3 hzl (by show (1:Nat)≤1000000;omega)
    have hft:ftsB (cT (sLs ks n (i+1))).ten (yP (sNa i) z).1=true:=fts_sl hsq
    have est:stg (cT (sLs ks n (i+1))) (yP (sNa i) z).1=cT (sLs ks n i):=stg_put ks (by have:=HN4.out;omega) HN4.out.2 rfl hsq hz1
    rw [hft,if_pos rfl,est,show 20+(n - (i+1))+1=20+(n - i) by have:=HN4.out;omega] at CSt
    have hbp:=fun X=>build_p (sNa i) z hzl.1.len X
    obtain ⟨Y,hY⟩:∃ Y,(yc (yP (sNa i) z)).toArray=Y:=⟨_,rfl⟩
    rw [hY] at CSt
    simp only [hY] at hbp
    obtain ⟨A,hAA⟩:∃ A,tv z=.agg A:=⟨_,rfl⟩
    simp only [hAA] at hbp
    rw [hAA]
    have HAX:Hid (TxA w V6 p h 4096 10 D0 0 [] ps 0 cfg0 (some (cT (sLs ks n (i+1)))) (20+(n - (i+1))) []):=hA6
    clear hft est hY hAA hz1 hz2 hz3 hb6 hzl hsq HA hA6
    refine hK.out _ _ (HCL.out _ HAX.out.mem.below) (fun hHeld=>?_)
    clear hK K
    try simp only [sqa,sqb,sqc,Act.put,sqd,sqe,sqf]
    refine tkq 9 rfl (v:=.agg Y) (yieldsIf_bld (by rfl) _ _ rfl hbp (by simp [Act.eval,Act.put])) ?_
    try simp only [sqa,sqb,sqc,Act.put,sqd,sqe,sqf]
    refine wpAnyH_ready (rs:=[10]) (by kernel_rfl) (by simp) ?_
    refine AllReadyH.cons rfl (fun K hK=>?_) AllReadyH.nil
    go_simp
    with_reducible refine (CSt).mono ?_
    rintro e V7 ⟨rfl,hA7⟩
    try go_wp2_with fail
    have HA7:Hid (TxA w V7 p h 4096 10 D0 0 [] ps 0 cfg0 (some (cT (sLs ks n i))) (20+(n - i)) []):=hA7
    clear hA7
    refine hK.out _ _ (HCL.out _ HA7.out.mem.below) (fun hHeld=>?_)
    clear hK K
    try simp only [sqa,sqb,sqc,Act.put,sqd,sqe,sqf]
    refine tkq 11 rfl (v:=?_) (Or.inl ⟨by rfl,?z51⟩) ?_
    case z51=>intro w hSw;(try dsimp only at hSw);go_simp;all_goals with_reducible rfl
    try simp only [sqa,sqb,sqc,Act.put,sqd,sqe,sqf]
    refine wpAnyH_done (by kernel_rfl) ?_ _
    clear CSt HAX HCL
    have hz0:((0:Int) != 0)=false:=rfl
    go_wp2_with fail
    go_roundw
    case rel=>exact ⟨(i:Int) - 1,i,by have:=HN4.out.2;omega,rfl,by go_num,HA7⟩
    case measure=>simp [intOf]
   ·obtain rfl:j=0:=by omega
    obtain rfl:q=-1:=by omega
    have hA:=HR.out
    have e1:IntKind.u8.wrap (m:Int)=m:=by simp [IntKind.wrap,IntKind.bits,IntKind.signed];omega
    have e2:IntKind.i64.wrap (m:Int)=m:=wrap64n (by omega) (by omega)
    have CNm:=sname14_any wr m (by omega)
    rw [show (⟨#[UInt8.ofNat (97+m % 8)]⟩:ByteArray)=sNa m from rfl] at CNm
    have CSt:=ta_stage (y:=yN (sNa m)) (HV.out _ hA.mem.below) hA (by omega) (rws_nil _ ten0 rfl rfl rfl) ten0_in (by show (1:Nat)≤1000000;omega)
    have hft:ftsB (cT (sLs ks n 0)).ten (yN (sNa m)).1=decide (m < n):=fts_gone ks (by omega) (by omega)
    have est:stg (cT (sLs ks n 0)) (yN (sNa m)).1=cT (wn ks m n):=stg_gone ks (by omega) (by omega) rfl
    rw [hft,est] at CSt
    have hbn:=build_n (sNa m) wr
    obtain ⟨Y,hY⟩:∃ Y,(yc (yN (sNa m))).toArray=Y:=⟨_,rfl⟩
    rw [hY] at CSt hbn
    obtain ⟨kk,hkk⟩:∃ kk:Int,(if decide (m < n)=true then 0 else 90)=kk:=⟨_,rfl⟩
    rw [hkk] at CSt
    clear HR hA hft est hY hj hq hq0
    go_wp2_with fail
    refine CNm.mono ?_
    rintro e _ ⟨rfl,rfl⟩
    clear CNm
    go_wp2_with (refine wpList_bld rfl 48 _ (by with_reducible rfl) hbn (by simp [Act.eval,Act.put]) ?_)
    refine CSt.mono ?_
    rintro e V4 ⟨rfl,hA⟩
    have HA4:Hid (TxA w V4 p h 4096 10 D0 0 [] ps 0 cfg0 (some (cT (wn ks m n))) (20+(n - 0)+1) []):=hA
    clear CSt hA hbn
    go_upto_region 15 with fail
    go_cut [74] from 14 to 126 (fun u74 w'=>u74=.bool false∧Hid (TxA w w' p h 4096 10 D0 0 [] ps 0 cfg0 (some (cT (wn ks m n))) (20+(n - 0)+1) []))
    case first =>
     by_cases hmn:m < n
     ·have hmn1:(m:Int) < n:=by omega
      rw [decide_eq_true hmn,if_pos rfl] at hkk
      subst hkk
      go_wp2_with fail
      go_meet
      case rel=>exact ⟨rfl,HA4⟩
     ·have hmn1:¬ (m:Int) < n:=by omega
      rw [decide_eq_false hmn,if_neg (by decide)] at hkk
      subst hkk
      go_wp2_with fail
      go_meet
      case rel=>exact ⟨rfl,HA4⟩
    case rest =>
     obtain ⟨rfl,HA5⟩:=hcut
     have HW0:Hid (∃ B C,TsB nilV (wn ks m 0) B C∧TxA w wc p h 4096 10 D0 0 [] ps 0 cfg0 (some (cT (wn ks m n))) (20+(n - 0)+1) (B++C)):=⟨[],[],tsb_nil,HA5.out⟩
     clear HA4 HA5 hkk
     go_wp2_with fail
     go_loopw [10,11] (fun u10 u11 w'=>∃ (i:Nat) (sa:Option Addr) (sn sc:Nat),i≤n∧u11=.int .i64 i∧u10=.slice sa sn sc∧Hid (∃ B C,TsB (.slice sa sn sc) (wn ks m i) B C∧TxA w w' p h 4096 10 D0 0 [] ps 0 cfg0 (some (cT (wn ks m n))) (20+(n - 0)+1) (B++C))) (fun u10 u11 w'=>n - (intOf u11).toNat)
     case atStart=>exact ⟨0,none,0,0,Nat.zero_le _,rfl,rfl,HW0⟩
     case round =>
      obtain ⟨i,sa,sn,sc,hi,rfl,rfl,HRR⟩:=hrel
      clear HW0
      by_cases hlt:i < n
      ·have hlt1:(i:Int) < n:=by omega
       have e5:IntKind.i64.wrap ((i:Int)+1)=(i:Int)+1:=wrap64n (by omega) (by omega)
       by_cases him:i=m
       ·subst him
        have hne:((i:Int) != (i:Int))=false:=by simp
        have HQ:Hid (∃ B C,TsB (.slice sa sn sc) (wn ks i (i+1)) B C∧TxA w wr p h 4096 10 D0 0 [] ps 0 cfg0 (some (cT (wn ks i n))) (20+(n - 0)+1) (B++C)):=by rw [wn_eq];exact HRR
        clear HRR
        go_wp2_with fail
        go_roundw
        case rel=>exact ⟨i+1,sa,sn,sc,by omega,by go_num,rfl,HQ⟩
        case measure=>simp [intOf];omega
       ·have hne:((i:Int) != (m:Int))=true:=by simp;omega
        obtain ⟨b',off,rfl,hk,hcl⟩:=HK.out i hlt
        have hcw:=hcl wr (by obtain ⟨B,C,-,h⟩:=HRR.out;exact h.mem.below)
        have CT:=sten14_any wr i (by omega) (ks i) hk.1 hk.2
        clear hcl hk
        go_wp2_with fail
        refine CT.mono ?_
        rintro e V6 ⟨t,p1,s1,q1,C',rfl,hS,hzx,hM'⟩
        have hl:=hzx.1
        have hz:=hzx.zb (C:=C') (fun x hx=>hx)
        obtain ⟨A,hA⟩:∃ A,(tc t p1 s1 q1).toArray=A:=⟨_,rfl⟩
        have hbs1:=bsliceT (t,p1,s1,q1) hl V6
        rw [show (zc (t,p1,s1,q1)).toArray=A from hA] at hbs1
        rw [hA]
        have hon:A.all (·.oneCell')=true:=by rw [←hA];exact all_oneCell_toArray (zb_one hz)
        obtain ⟨B,C,hT,hX⟩:=HRR.out
        obtain ⟨v4,V7,B',hrun,hT2,hX2⟩:=tw_more hT hX (Nat.le_trans (wn_length _ _ _) (by omega)) hzx hM' hA hon
        have HQ:Hid (∃ B C,TsB v4 (wn ks m (i+1)) B C∧TxA w V7 p h 4096 10 D0 0 [] ps 0 cfg0 (some (cT (wn ks m n))) (20+(n - 0)+1) (B++C)):=by
         rw [wn_ne ks him,← SeatQ.is hS];exact ⟨_,_,hT2,hX2⟩
        obtain ⟨va,vn,vc,rfl⟩:∃ a n c,v4=.slice a n c:=by
         obtain ⟨zs,-,h,-⟩:=hT2;exact owb_slice h
        clear CT HRR hT hX hT2 hX2 hon hA hz hl hM' hzx hS hcw
        go_wp2_with (first | (refine wpList_bsl rfl 37 1 _ (by with_reducible rfl) hbs1 (by simp [Act.eval,Act.put]) ?_) | (at_builtin;refine wpList_append_run (.tmp 86) (.tmp 93) 37 37 (by with_reducible rfl) hrun rfl rfl (by simp [Act.eval,Act.put]) (by simp [Act.eval,Act.put]) ?_) | fail)
        go_roundw
        case rel=>exact ⟨i+1,va,vn,vc,by omega,by go_num,rfl,HQ⟩
        case measure=>simp [intOf];omega
      ·obtain rfl:i=n:=by omega
       have h1x:¬ ((i:Int) < (i:Int)):=by omega
       obtain ⟨B,C,hT,hX⟩:=HRR.out
       have CS:=ta_staged hX (by omega)
       have HTS:Hid (∀ X,(∀ x∈B++C,X.heap[x.1]? = some x.2)→TSV X (.slice sa sn sc) (wn ks m i)):=fun X h=>tsb_tsv hT h
       have HX:Hid (TxA w wr p h 4096 10 D0 0 [] ps 0 cfg0 (some (cT (wn ks m i))) (20+(i - 0)+1) (B++C)):=hX
       have hlg:=hX.ligT.1
       clear HRR hT hX
       go_wp2_with fail
       refine CS.mono ?_
       rintro e V8 ⟨v,rfl,hcp⟩
       have hb8:=hcp.below
       obtain ⟨hcl,u,rfl,htsv⟩:=hcp.cv hlg.cin.len
       obtain ⟨A2,HA2,hs2,ho2,i29,j29⟩:=ccA hcl htsv.one
       obtain ⟨ua,un,uc,rfl⟩:=htsv.slice
       have hfw:=lig_tfew hlg
       have HU:Hid (∀ X,Below V8.heap.size V8 X→TSV X (.slice ua un uc) (wn ks m i)):=fun X hX=>htsv.at_ hX (Nat.le_refl _)
       rw [HA2.out]
       obtain ⟨g12,hg12⟩:∃ g,V8.heap.size=g:=⟨_,rfl⟩
       have hk12:(V8.alloc (.cells cz 39)).heap[g12]? = some (.cells cz 39):=by rw [←hg12];exact heap_alloc_new _ _
       have hz29:(cz:Array Value).size=A2.size:=by rw [hs2];rfl
       have HX8:Hid (TxA w ((V8.alloc (.cells cz 39)).setRow g12 A2) p h 4096 10 D0 0 [] ps 0 cfg0 (some (cT (wn ks m i))) (20+(i - 0)+1) ((g12,.cells A2 39)::(B++C))∧Below V8.heap.size V8 ((V8.alloc (.cells cz 39)).setRow g12 A2)):=by
        rw [←hg12,World.setRow_alloc_new]
        exact ⟨(HX.out.join hb8).push ((Mem.nil V8).push1 rfl),(Below.refl _ _).alloc (Nat.le_refl _) _⟩
       have HC28:Hid (∀ X:World,X.heap[g12]? = some (.cells A2 39)→X.cell? ⟨g12,28,none⟩=some (.slice ua un uc)):=fun X hX=>by
        rw [cell_of hX,← HA2.out];exact cc_28 hcl _
       clear CS hcp hb8 htsv hcl hlg HX
       go_upto_region 24 with (refine wpList_store_row rfl 39 (.tmp 12) (.tmp 98) (by with_reducible rfl) g12 A2 (by simp [Act.eval];try exact hg12) (by first | rfl | simp [Act.eval]) 39 cz hk12 i29 hz29 ho2 ?_)
       refine wp_letter (fun X=>TxA w X p h 4096 10 D0 0 [] ps 0 cfg0 (some (cT (wn ks m i))) (20+(i - 0)+1) ((g12,.cells A2 39)::(B++C))∧Below V8.heap.size V8 X) (by exact HX8.out) ?_
       rintro V9 ⟨hE,hb9⟩
       try simp only [hg12]
       have hm9:=hE.mem
       have c28:=HC28.out V9 (hm9.at_ _ List.mem_cons_self)
       have CH:=htenants_yes (HU.out V9 hb9) (HTS.out V9 fun x hx=>hm9.at_ x (List.mem_cons_of_mem _ hx)) hfw (tsames_refl _)
       have HE:Hid (TxA w V9 p h 4096 10 D0 0 [] ps 0 cfg0 (some (cT (wn ks m i))) (20+(i - 0)+1) ((g12,.cells A2 39)::(B++C))):=hE
       clear HX8 HC28 HU HTS hE hm9 hb9 hk12 hg12 hz29 HA2 i29 j29 hs2 ho2 hfw
       go_wp2_with fail
       refine CH.mono ?_
       rintro e V10 ⟨rfl,hb10⟩
       have HE10:Hid (TxA w V10 p h 4096 10 D0 0 [] ps 0 cfg0 (some (cT (wn ks m i))) (20+(i - 0)+1) ((g12,.cells A2 39)::(B++C))):=HE.out.join hb10
       have CC:=ta_config HE10.out (by omega)
       clear CH HE hb10 c28
       go_wp2_with fail
       refine CC.mono ?_
       rintro e V11 ⟨v,rfl,hcp⟩
       have HE11:Hid (TxA w V11 p h 4096 10 D0 0 [] ps 0 cfg0 (some (cT (wn ks m i))) (20+(i - 0)+1) ((g12,.cells A2 39)::(B++C))):=HE10.out.join hcp.below
       obtain ⟨xa,xc,rfl⟩:=cpd_zero hcp
       have hfd:=fld6 (.slice xa 0 xc) V11
       obtain ⟨A3,hA3⟩:∃ A,(cc cfg0 (.slice xa 0 xc)).toArray=A:=⟨_,rfl⟩
       rw [hA3] at hfd ⊢
       have CA:=ta_abort HE11.out
       clear CC HE10 hcp hA3
       go_wp2_with (refine wpList_fld rfl 39 (.tmp 110) 6 (by with_reducible rfl) hfd (by simp [Act.eval,Act.put]) ?_)
       refine CA.mono ?_
       rintro e V12 ⟨rfl,hA⟩
       have hba:=build_n ⟨#[97]⟩ V12
       obtain ⟨Y2,hY2⟩:∃ Y,(yc (yN ⟨#[97]⟩)).toArray=Y:=⟨_,rfl⟩
       rw [hY2] at hba
       have CSn:=ta_stage_no hA Y2
       have HE12:Hid (Below w.heap.size w V12):=hA.mem.below
       clear CA hA hfd HE11 hY2
       go_wp2_with (refine wpList_bld rfl 48 _ (by with_reducible rfl) hba (by simp [Act.eval,Act.put]) ?_)
       refine CSn.mono ?_
       rintro e V13 ⟨rfl,hb13⟩
       have HE13:Hid (Below w.heap.size w V13):=HE12.out.trans (hb13.mono HE12.out.size)
       clear CSn hba hb13
       go_wp2_with fail
       go_ret
       exact ⟨rfl,HE13.out⟩
 ·have h1:(4:Int) < n:=by omega
  go_wp2_with fail
  go_ret
  exact ⟨rfl,HB0.out⟩
end Go.Proofs.YtdigofgjhaakmaaGreatDoor
