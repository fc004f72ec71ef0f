/-
  Settings held against one another: lychhelp's Nums, Pairs, Light, whatever they are handed.
  What package log's Open answers.
  Settings as bytes: settings in memory, as they are written and read.
  Settings as bytes: the document's own reader: name, mac, key.
  Settings as bytes: what is written is read back, and no part of it is read.
  Settings as bytes: the program's whole (lych/api.Tenant): what all bytes are.
  Settings as bytes: changes: the program's changeName and Change.
-/
import Derived.Test.YtdigofgjhaakmaaGreatDoorW13
import Derived.Laws.StructEq
import Derived.Test.YtdigofgjhaakmaaGreatDoorW07
import Derived.Test.YtdigofgjhaakmaaGreatDoorW08
set_option linter.unusedVariables false
set_option linter.unusedSimpArgs false
set_option maxRecDepth 20000
set_option maxHeartbeats 40000000
namespace Go.Proofs.YtdigofgjhaakmaaGreatDoor
open Go.RowKit
open Sm
open Cf
theorem key_eq (x0 x1 x2 x3 x4 x5 x6 x7 y0 y1 y2 y3 y4 y5 y6 y7:Int) (w:World):(Op.equalIn 10000 36 (.agg #[.int .u8 x0,.int .u8 x1,.int .u8 x2,.int .u8 x3,.int .u8 x4,.int .u8 x5,.int .u8 x6,.int .u8 x7]) (.agg #[.int .u8 y0,.int .u8 y1,.int .u8 y2,.int .u8 y3,.int .u8 y4,.int .u8 y5,.int .u8 y6,.int .u8 y7])).run Tryz.prog w=.ok (decide ([x0,x1,x2,x3,x4,x5,x6,x7]=[y0,y1,y2,y3,y4,y5,y6,y7])) w:=by
 have u5:=Tryz.underlying5
 rw [show (10000:Nat)=9999+1 from rfl,Op.equalIn]
 simp only [Sem.run_bind,run_underlying Tryz.underlying36,Result.andThen_ok]
 simp only [Std.Legacy.Range.forIn_eq_forIn_range',Std.Legacy.Range.size,Nat.sub_zero,Nat.add_sub_cancel,Nat.div_one,List.range'_succ,List.range'_zero,List.forIn_cons,List.forIn_nil]
 by_cases h0:x0=y0
 rotate_left
 ·have hd:¬ ([x0,x1,x2,x3,x4,x5,x6,x7]=[y0,y1,y2,y3,y4,y5,y6,y7]):=by intro e;simp only [List.cons.injEq] at e;exact h0 (by simp_all)
  rw [decide_eq_false hd]
  clear hd
  have hb:(x0 == y0)=false:=by simpa using h0
  go_simp
  all_goals simp_all
 subst h0
 by_cases h1:x1=y1
 rotate_left
 ·have hd:¬ ([x0,x1,x2,x3,x4,x5,x6,x7]=[x0,y1,y2,y3,y4,y5,y6,y7]):=by intro e;simp only [List.cons.injEq] at e;exact h1 (by simp_all)
  rw [decide_eq_false hd]
  clear hd
  have hb:(x1 == y1)=false:=by simpa using h1
  go_simp
  all_goals simp_all
 subst h1
 by_cases h2:x2=y2
 rotate_left
 ·have hd:¬ ([x0,x1,x2,x3,x4,x5,x6,x7]=[x0,x1,y2,y3,y4,y5,y6,y7]):=by intro e;simp only [List.cons.injEq] at e;exact h2 (by simp_all)
  rw [decide_eq_false hd]
  clear hd
  have hb:(x2 == y2)=false:=by simpa using h2
  go_simp
  all_goals simp_all
 subst h2
 by_cases h3:x3=y3
 rotate_left
 ·have hd:¬ ([x0,x1,x2,x3,x4,x5,x6,x7]=[x0,x1,x2,y3,y4,y5,y6,y7]):=by intro e;simp only [List.cons.injEq] at e;exact h3 (by simp_all)
  rw [decide_eq_false hd]
  clear hd
  have hb:(x3 == y3)=false:=by simpa using h3
  go_simp
  all_goals simp_all
 subst h3
 by_cases h4:x4=y4
 rotate_left
 ·have hd:¬ ([x0,x1,x2,x3,x4,x5,x6,x7]=[x0,x1,x2,x3,y4,y5,y6,y7]):=by intro e;simp only [List.cons.injEq] at e;exact h4 (by simp_all)
  rw [decide_eq_false hd]
  clear hd
  have hb:(x4 == y4)=false:=by simpa using h4
  go_simp
  all_goals simp_all
 subst h4
 by_cases h5:x5=y5
 rotate_left
 ·have hd:¬ ([x0,x1,x2,x3,x4,x5,x6,x7]=[x0,x1,x2,x3,x4,y5,y6,y7]):=by intro e;simp only [List.cons.injEq] at e;exact h5 (by simp_all)
  rw [decide_eq_false hd]
  clear hd
  have hb:(x5 == y5)=false:=by simpa using h5
  go_simp
  all_goals simp_all
 subst h5
 by_cases h6:x6=y6
 rotate_left
 ·have hd:¬ ([x0,x1,x2,x3,x4,x5,x6,x7]=[x0,x1,x2,x3,x4,x5,y6,y7]):=by intro e;simp only [List.cons.injEq] at e;exact h6 (by simp_all)
  rw [decide_eq_false hd]
  clear hd
  have hb:(x6 == y6)=false:=by simpa using h6
  go_simp
  all_goals simp_all
 subst h6
 by_cases h7:x7=y7
 rotate_left
 ·have hd:¬ ([x0,x1,x2,x3,x4,x5,x6,x7]=[x0,x1,x2,x3,x4,x5,x6,y7]):=by intro e;simp only [List.cons.injEq] at e;exact h7 (by simp_all)
  rw [decide_eq_false hd]
  clear hd
  have hb:(x7 == y7)=false:=by simpa using h7
  go_simp
  all_goals simp_all
 subst h7
 rw [decide_eq_true rfl]
 go_simp
theorem mac_eq6 (x0 x1 x2 x3 x4 x5 y0 y1 y2 y3 y4 y5:Int) (w:World):(Op.equalIn 10000 35 (.agg #[.int .u8 x0,.int .u8 x1,.int .u8 x2,.int .u8 x3,.int .u8 x4,.int .u8 x5]) (.agg #[.int .u8 y0,.int .u8 y1,.int .u8 y2,.int .u8 y3,.int .u8 y4,.int .u8 y5])).run Tryz.prog w=.ok (decide ([x0,x1,x2,x3,x4,x5]=[y0,y1,y2,y3,y4,y5])) w:=by
 have u5:=Tryz.underlying5
 rw [show (10000:Nat)=9999+1 from rfl,Op.equalIn]
 simp only [Sem.run_bind,run_underlying Tryz.underlying35,Result.andThen_ok]
 simp only [Std.Legacy.Range.forIn_eq_forIn_range',Std.Legacy.Range.size,Nat.sub_zero,Nat.add_sub_cancel,Nat.div_one,List.range'_succ,List.range'_zero,List.forIn_cons,List.forIn_nil]
 by_cases h0:x0=y0
 rotate_left
 ·have hd:¬ ([x0,x1,x2,x3,x4,x5]=[y0,y1,y2,y3,y4,y5]):=by intro e;simp only [List.cons.injEq] at e;exact h0 (by simp_all)
  rw [decide_eq_false hd]
  clear hd
  have hb:(x0 == y0)=false:=by simpa using h0
  go_simp
  all_goals simp_all
 subst h0
 by_cases h1:x1=y1
 rotate_left
 ·have hd:¬ ([x0,x1,x2,x3,x4,x5]=[x0,y1,y2,y3,y4,y5]):=by intro e;simp only [List.cons.injEq] at e;exact h1 (by simp_all)
  rw [decide_eq_false hd]
  clear hd
  have hb:(x1 == y1)=false:=by simpa using h1
  go_simp
  all_goals simp_all
 subst h1
 by_cases h2:x2=y2
 rotate_left
 ·have hd:¬ ([x0,x1,x2,x3,x4,x5]=[x0,x1,y2,y3,y4,y5]):=by intro e;simp only [List.cons.injEq] at e;exact h2 (by simp_all)
  rw [decide_eq_false hd]
  clear hd
  have hb:(x2 == y2)=false:=by simpa using h2
  go_simp
  all_goals simp_all
 subst h2
 by_cases h3:x3=y3
 rotate_left
 ·have hd:¬ ([x0,x1,x2,x3,x4,x5]=[x0,x1,x2,y3,y4,y5]):=by intro e;simp only [List.cons.injEq] at e;exact h3 (by simp_all)
  rw [decide_eq_false hd]
  clear hd
  have hb:(x3 == y3)=false:=by simpa using h3
  go_simp
  all_goals simp_all
 subst h3
 by_cases h4:x4=y4
 rotate_left
 ·have hd:¬ ([x0,x1,x2,x3,x4,x5]=[x0,x1,x2,x3,y4,y5]):=by intro e;simp only [List.cons.injEq] at e;exact h4 (by simp_all)
  rw [decide_eq_false hd]
  clear hd
  have hb:(x4 == y4)=false:=by simpa using h4
  go_simp
  all_goals simp_all
 subst h4
 by_cases h5:x5=y5
 rotate_left
 ·have hd:¬ ([x0,x1,x2,x3,x4,x5]=[x0,x1,x2,x3,x4,y5]):=by intro e;simp only [List.cons.injEq] at e;exact h5 (by simp_all)
  rw [decide_eq_false hd]
  clear hd
  have hb:(x5 == y5)=false:=by simpa using h5
  go_simp
  all_goals simp_all
 subst h5
 rw [decide_eq_true rfl]
 go_simp
theorem drewN_more {w W:World} (h:∃ q,W=w.drewN q) (n:Nat):∃ q,W.drewN n=w.drewN q:=by
 obtain ⟨q,rfl⟩:=h
 exact ⟨q+n,by simp only [World.drewN];rw [Nat.add_assoc]⟩
theorem pair_eq (a b c d:Int) (w:World):(Op.equalIn 10000 122 (.agg #[.int .u32 a,.int .u32 b]) (.agg #[.int .u32 c,.int .u32 d])).run Tryz.prog w=.ok (decide ((a,b)=(c,d))) w:=by
 have u3:=Tryz.underlying33
 rw [show (10000:Nat)=9999+1 from rfl,run_equalIn_agg w 9999 122 _ _ (by kernel_rfl) (by kernel_rfl)]
 simp only [Program.fieldsOf,Tryz.underlying122]
 go_simp
 by_cases h1:a=c <;> by_cases h2:b=d <;> simp [h1,h2]
theorem nums_any {w:World} (sv tv:Value) (xs ys:List Int) (hx:Rw w 1 sv (ux xs)) (hy:Rw w 1 tv (ux ys)) (hbx:xs.length≤1000000) :
  Calls Tryz.prog 93 #[sv,tv] w fun e w'=>e=.returned (.bool (decide (xs=ys)))∧∃ q,w'=w.drewN q:=by
 obtain ⟨a,c,rfl,hlc,hcb,ha,hra⟩:=hx
 obtain ⟨a',c',rfl,hlc',hcb',ha',hra'⟩:=hy
 have hlx:(ux xs).length=xs.length:=by simp [ux]
 have hly:(ux ys).length=ys.length:=by simp [ux]
 rw [hlx] at hra ⊢
 rw [hly] at hra' ⊢
 by_cases hl:xs.length=ys.length
 ·obtain ⟨n,hn⟩:∃ n,xs.length=n:=⟨_,rfl⟩
  have hn2:ys.length=n:=by omega
  rw [hn2]
  rw [hn2] at hra'
  rw [hn] at hra ⊢
  obtain ⟨D,hD⟩:∃ D,decide (xs=ys)=D:=⟨_,rfl⟩
  rw [hD]
  have HX:Hid (∀ i,i < n→∃ b off,a=some ⟨b,off,none⟩∧w.rangeAt b (off+i * 1) ((ux xs).getD i [])):=by
   intro i hi
   rcases hra with e | ⟨b,off,rfl,hc⟩
   ·rw [e] at hlx;simp at hlx;omega
   ·exact ⟨b,off,rfl,fun j u hj=>hc i (by omega) j u hj⟩
  have HY:Hid (∀ i,i < n→∃ b off,a'=some ⟨b,off,none⟩∧w.rangeAt b (off+i * 1) ((ux ys).getD i [])):=by
   intro i hi
   rcases hra' with e | ⟨b,off,rfl,hc⟩
   ·rw [e] at hly;simp at hly;omega
   ·exact ⟨b,off,rfl,fun j u hj=>hc i (by omega) j u hj⟩
  clear hra hra' hlc hlc' hcb hcb' ha ha' hl hlx hly
  go_enter Tryz.func93,Tryz.ntmps93
  go_wp2_with fail
  go_loopw [5] (fun u5 w'=>∃ i:Nat,i≤n∧u5=.int .i64 i∧Hid ((∃ q,w'=w.drewN q)∧∀ j,j < i→xs[j]? = ys[j]?)) (fun u5 w'=>n - (intOf u5).toNat)
  case atStart=>exact ⟨0,Nat.zero_le _,rfl,⟨0,rfl⟩,fun j hj=>by omega⟩
  case round =>
   obtain ⟨i,hi,rfl,HR⟩:=hrel
   obtain ⟨⟨q,hq⟩,hall⟩:=HR.out
   have HQ:Hid (∃ q,wr=w.drewN q):=⟨q,hq⟩
   by_cases hlt:i < n
   ·have h1:(i:Int) < n:=by omega
    obtain ⟨b,off,rfl,rx⟩:=HX.out i hlt
    obtain ⟨b',off',rfl,ry⟩:=HY.out i hlt
    obtain ⟨x,hxi⟩:∃ x,xs[i]? = some x:=⟨_,List.getElem?_eq_getElem (by omega)⟩
    obtain ⟨y,hyi⟩:∃ y,ys[i]? = some y:=⟨_,List.getElem?_eq_getElem (by omega)⟩
    have ex:(ux xs).getD i []=[.int .u32 x]:=by simp [ux,List.getD,hxi]
    have ey:(ux ys).getD i []=[.int .u32 y]:=by simp [ux,List.getD,hyi]
    rw [ex] at rx
    rw [ey] at ry
    have d3:wr.cell? ⟨b,off+i,none⟩=some (.int .u32 x):=by have:=rx 0 _ rfl;rw [hq];simpa using this
    have d4:wr.cell? ⟨b',off'+i,none⟩=some (.int .u32 y):=by have:=ry 0 _ rfl;rw [hq];simpa using this
    have HA:Hid (∀ j,j < i→xs[j]? = ys[j]?):=hall
    clear HX HY ex ey rx ry hall HR hq
    by_cases hxy:x=y
    ·have HF:Hid (∀ j,j < i+1→xs[j]? = ys[j]?):=by
      intro j hj
      by_cases e:j=i
      ·rw [e,hxi,hyi,hxy]
      ·exact HA.out j (by omega)
     clear hxi hyi HA
     subst hxy
     have hb:(x != x)=false:=by simp
     go_upto_region 6 with fail
     go_quiet (fail)
     go_wp2_with fail
     go_roundw
     case rel=>exact ⟨i+1,by omega,by go_num,drewN_more HQ.out _,HF.out⟩
     case measure=>simp [intOf];omega
    ·obtain rfl:D=false:=by
      rw [←hD]
      apply decide_eq_false
      intro hc
      rw [hc,hyi] at hxi
      exact hxy (Option.some.inj hxi).symm
     have hb:(x != y)=true:=by simpa using hxy
     clear hD hxi hyi HA
     go_upto_region 6 with fail
     go_quiet (fail)
     go_wp2_with fail
     go_ret
     exact ⟨rfl,drewN_more HQ.out _⟩
   ·have h1:¬ ((i:Int) < n):=by omega
    obtain rfl:i=n:=by omega
    obtain rfl:D=true:=by
     rw [←hD]
     apply decide_eq_true
     apply List.ext_getElem?
     intro j
     by_cases hj:j < i
     ·exact hall j hj
     ·rw [List.getElem?_eq_none (by omega),List.getElem?_eq_none (by omega)]
    clear HR hall hD HX HY hq
    go_wp2_with fail
    go_ret
    exact ⟨rfl,HQ.out⟩
 ·rw [decide_eq_false (fun e=>hl (by rw [e]))]
  have h1:((xs.length:Int) != (ys.length:Int))=true:=by simp;omega
  have h2:¬ ((xs.length:Int)=(ys.length:Int)):=by omega
  clear hra hra' hl
  go_enter Tryz.func93,Tryz.ntmps93
  go_wp2_with fail
  go_ret
  exact ⟨rfl,0,rfl⟩
theorem pairs_any {w:World} (sv tv:Value) (xs ys:List (Int×Int)) (hx:Rw w 2 sv (px xs)) (hy:Rw w 2 tv (px ys)) (hbx:xs.length≤1000000) :
  Calls Tryz.prog 94 #[sv,tv] w fun e w'=>e=.returned (.bool (decide (xs=ys)))∧∃ q,w'=w.drewN q:=by
 obtain ⟨a,c,rfl,hlc,hcb,ha,hra⟩:=hx
 obtain ⟨a',c',rfl,hlc',hcb',ha',hra'⟩:=hy
 have hlx:(px xs).length=xs.length:=by simp [px]
 have hly:(px ys).length=ys.length:=by simp [px]
 rw [hlx] at hra ⊢
 rw [hly] at hra' ⊢
 by_cases hl:xs.length=ys.length
 ·obtain ⟨n,hn⟩:∃ n,xs.length=n:=⟨_,rfl⟩
  have hn2:ys.length=n:=by omega
  rw [hn2]
  rw [hn2] at hra'
  rw [hn] at hra ⊢
  obtain ⟨D,hD⟩:∃ D,decide (xs=ys)=D:=⟨_,rfl⟩
  rw [hD]
  have HX:Hid (∀ i,i < n→∃ b off,a=some ⟨b,off,none⟩∧w.rangeAt b (off+i * 2) ((px xs).getD i [])):=by
   intro i hi
   rcases hra with e | ⟨b,off,rfl,hc⟩
   ·rw [e] at hlx;simp at hlx;omega
   ·exact ⟨b,off,rfl,fun j u hj=>hc i (by omega) j u hj⟩
  have HY:Hid (∀ i,i < n→∃ b off,a'=some ⟨b,off,none⟩∧w.rangeAt b (off+i * 2) ((px ys).getD i [])):=by
   intro i hi
   rcases hra' with e | ⟨b,off,rfl,hc⟩
   ·rw [e] at hly;simp at hly;omega
   ·exact ⟨b,off,rfl,fun j u hj=>hc i (by omega) j u hj⟩
  clear hra hra' hlc hlc' hcb hcb' ha ha' hl hlx hly
  go_enter Tryz.func94,Tryz.ntmps94
  go_wp2_with fail
  go_loopw [5] (fun u5 w'=>∃ i:Nat,i≤n∧u5=.int .i64 i∧Hid ((∃ q,w'=w.drewN q)∧∀ j,j < i→xs[j]? = ys[j]?)) (fun u5 w'=>n - (intOf u5).toNat)
  case atStart=>exact ⟨0,Nat.zero_le _,rfl,⟨0,rfl⟩,fun j hj=>by omega⟩
  case round =>
   obtain ⟨i,hi,rfl,HR⟩:=hrel
   obtain ⟨⟨q,hq⟩,hall⟩:=HR.out
   have HQ:Hid (∃ q,wr=w.drewN q):=⟨q,hq⟩
   by_cases hlt:i < n
   ·have h1:(i:Int) < n:=by omega
    obtain ⟨b,off,rfl,rx⟩:=HX.out i hlt
    obtain ⟨b',off',rfl,ry⟩:=HY.out i hlt
    obtain ⟨x,hxi⟩:∃ x,xs[i]? = some x:=⟨_,List.getElem?_eq_getElem (by omega)⟩
    obtain ⟨y,hyi⟩:∃ y,ys[i]? = some y:=⟨_,List.getElem?_eq_getElem (by omega)⟩
    have ex:(px xs).getD i []=[.int .u32 x.1,.int .u32 x.2]:=by simp [px,List.getD,hxi]
    have ey:(px ys).getD i []=[.int .u32 y.1,.int .u32 y.2]:=by simp [px,List.getD,hyi]
    rw [ex] at rx
    rw [ey] at ry
    have d3:wr.cell? ⟨b,off+i * 2,none⟩=some (.int .u32 x.1):=by have:=rx 0 _ rfl;rw [hq];simpa using this
    have d5:wr.cell? ⟨b,off+i * 2+1,none⟩=some (.int .u32 x.2):=by have:=rx 1 _ rfl;rw [hq];simpa using this
    have d4:wr.cell? ⟨b',off'+i * 2,none⟩=some (.int .u32 y.1):=by have:=ry 0 _ rfl;rw [hq];simpa using this
    have d6:wr.cell? ⟨b',off'+i * 2+1,none⟩=some (.int .u32 y.2):=by have:=ry 1 _ rfl;rw [hq];simpa using this
    have HA:Hid (∀ j,j < i→xs[j]? = ys[j]?):=hall
    clear HX HY ex ey rx ry hall HR hq
    by_cases hxy:x=y
    ·have HF:Hid (∀ j,j < i+1→xs[j]? = ys[j]?):=by
      intro j hj
      by_cases e:j=i
      ·rw [e,hxi,hyi,hxy]
      ·exact HA.out j (by omega)
     clear hxi hyi HA
     subst hxy
     have hb:=fun V=>pair_eq x.1 x.2 x.1 x.2 V
     simp only [decide_true] at hb
     go_upto_region 6 with fail
     go_quiet (fail)
     go_wp2_with fail
     go_roundw
     case rel=>exact ⟨i+1,by omega,by go_num,drewN_more HQ.out _,HF.out⟩
     case measure=>simp [intOf];omega
    ·obtain rfl:D=false:=by
      rw [←hD]
      apply decide_eq_false
      intro hc
      rw [hc,hyi] at hxi
      exact hxy (Option.some.inj hxi).symm
     have hb:=fun V=>pair_eq x.1 x.2 y.1 y.2 V
     rw [decide_eq_false (show ¬ ((x.1,x.2)=(y.1,y.2)) from hxy)] at hb
     clear hD hxi hyi HA
     go_upto_region 6 with fail
     go_quiet (fail)
     go_wp2_with fail
     go_ret
     exact ⟨rfl,drewN_more HQ.out _⟩
   ·have h1:¬ ((i:Int) < n):=by omega
    obtain rfl:i=n:=by omega
    obtain rfl:D=true:=by
     rw [←hD]
     apply decide_eq_true
     apply List.ext_getElem?
     intro j
     by_cases hj:j < i
     ·exact hall j hj
     ·rw [List.getElem?_eq_none (by omega),List.getElem?_eq_none (by omega)]
    clear HR hall hD HX HY hq
    go_wp2_with fail
    go_ret
    exact ⟨rfl,HQ.out⟩
 ·rw [decide_eq_false (fun e=>hl (by rw [e]))]
  have h1:((xs.length:Int) != (ys.length:Int))=true:=by simp;omega
  have h2:¬ ((xs.length:Int)=(ys.length:Int)):=by omega
  clear hra hra' hl
  go_enter Tryz.func94,Tryz.ntmps94
  go_wp2_with fail
  go_ret
  exact ⟨rfl,0,rfl⟩
end Go.Proofs.YtdigofgjhaakmaaGreatDoor
namespace Go.Proofs.YtdigofgjhaakmaaGreatDoor
open Go.RowKit
open Sm
abbrev lgT:TypeId:=131
abbrev lgA (p:Nat) (t c:Int) (v:Value):Array Value:=#[.pointer (some ⟨p,0,none⟩),.int .u64 t,.int .i64 c,v]
structure Lg where
 t:Int
 c:Int
 r:List Int
theorem fd_len (bl:List (List Int)):(fd bl).length≤2:=by
 unfold fd
 split <;> try simp
 split <;> simp
theorem ro_len {bl:List (List Int)} {slot k i:Nat} {t:Int} {acc r:List Int} {m:Nat} (hb:∀ b∈bl,b.length=m∧IsBytes b) (hm:256≤m) (h:rdL bl slot t k i acc=some r):r.length≤acc.length+k * m:=by
 induction k generalizing i acc with
 | zero=>rw [rdL] at h;cases h;simp
 | succ k ih =>
  rw [rdL] at h
  split at h
  ·cases h
  ·rename_i q hq
   split at h
   ·have:=ih h
    rw [List.length_append] at this
    have hqb:q.b.length≤m:=by
     unfold rp at hq
     split at hq
     ·cases hq
     ·rename_i q' hu
      split at hq
      ·cases hq
      ·simp only [Option.some.injEq] at hq;subst hq
       by_cases hz:slot * sbk bl.length+i < bl.length
       ·have e:bl.getD (slot * sbk bl.length+i) []=bl[slot * sbk bl.length+i]:=by simp [List.getD,hz]
        rw [e] at hu
        have o:=hb _ (List.getElem_mem hz)
        have:=(unf_facts hu o.1 hm o.2).2.1
        omega
       ·have e:bl.getD (slot * sbk bl.length+i) []=[]:=by simp [List.getD,Nat.le_of_not_lt hz]
        rw [e] at hu
        simp [unf] at hu
    rw [Nat.succ_mul];omega
   ·cases h
theorem rd_len {bl:List (List Int)} {slot:Nat} {x:En} {m:Nat} (hb:∀ b∈bl,b.length=m∧IsBytes b) (hm:256≤m) (hm1:m≤65536) (h4:bl.length≤64) (h:rd bl slot=some x):x.r.length≤1000000000:=by
 unfold rd at h
 split at h
 ·cases h
 ·rename_i f hf
  simp only [Option.map_eq_some_iff] at h
  obtain ⟨r,hr,rfl⟩:=h
  have h1:=ro_len hb hm hr
  have h2:(f.n.toNat - 1) * m≤31 * 65536:=Nat.mul_le_mul (by have:=(rp_n hf).2;unfold sbk at this;omega) hm1
  have h3:f.b.length≤65536:=by
   have hq:=ro_len (k:=1) (i:=0) (acc:=[]) (r:=f.b) (t:=f.t) hb hm (by rw [rdL,hf];simp [rdL])
   simp at hq;omega
  simp only;omega
theorem fd_mem {bl:List (List Int)} {x:En} (h:x∈fd bl):rd bl 0=some x∨rd bl 1=some x:=by
 unfold fd at h
 split at h
 ·simp at h
 ·rename_i a h0 h1;simp at h;subst h;exact Or.inl h0
 ·rename_i a h0 h1;simp at h;subst h;exact Or.inr h1
 ·rename_i a b h0 h1
  split at h <;> simp at h <;> rcases h with e | e <;> subst e
  ·exact Or.inr h1
  ·exact Or.inl h0
  ·exact Or.inl h0
  ·exact Or.inr h1
section
variable {w W:World} {p h m:Nat} {D:Dk} {hc:Array Value} {ks:List Bk} {L:List (Nat×Obj)}
theorem DkAt.rows (H:DkAt w W p h m D hc ks L):∀ b∈ks.map Bk.b,b.length=m∧IsBytes b:=by
 intro b hb
 obtain ⟨k,hk,rfl⟩:=List.mem_map.mp hb
 have o:=H.st.ok k hk
 exact ⟨o.len,o.bytes⟩
set_option maxRecDepth 20000 in
theorem open_live (H:DkAt w W p h m D hc ks L) {a:Addr} (hG:Gl W a) (hd:D.dead=false) (hn:4≤ks.length) (hm:256≤m) :
  Calls Tryz.prog 40 #[.pointer (some ⟨p,0,none⟩)] W fun e W'=>∃ pl v',e=.returned (.tuple #[.pointer (some ⟨pl,0,none⟩),v',.int .i64 0])∧∃ vr X,OwnV vr (nw (fd (ks.map Bk.b))).r X∧∃ Y,RS v' (kp (fd (ks.map Bk.b))) Y∧∃ K,
   Mem W W' ((pl,.cells (lgA p (nw (fd (ks.map Bk.b))).t (nw (fd (ks.map Bk.b))).c vr) lgT (0,0))::(X++(Y++K))):=by
 have hf:=lfits_any H
 rw [show (decide (4≤ks.length) && decide (256≤m))=true by simp [hn,hm]] at hf
 have hfd:=find_live H hG hd hn hm
 have HB:Hid (∀ x∈fd (ks.map Bk.b),x.r.length≤1000000000):=by
  intro x hx
  rcases fd_mem hx with e | e <;> exact rd_len H.rows hm H.mhi (by rw [List.length_map];exact H.top) e
 have HL:=fd_len (ks.map Bk.b)
 generalize fd (ks.map Bk.b)=FD at *
 generalize hq:nw FD=q
 obtain ⟨qs,qt,qc,qr⟩:=q
 have HQ:Hid (nw FD=⟨qs,qt,qc,qr⟩):=hq
 show Calls _ _ _ _ fun e W'=>∃ pl v',e=.returned (.tuple #[.pointer (some ⟨pl,0,none⟩),v',.int .i64 0])∧∃ vr X,OwnV vr qr X∧∃ Y,RS v' (kp FD) Y∧∃ K,Mem W W' ((pl,.cells (lgA p qt qc vr) lgT (0,0))::(X++(Y++K)))
 clear H hG hq
 go_enter Tryz.func40,Tryz.ntmps40
 go_wp2_with fail
 refine hf.mono ?_
 rintro e w' ⟨rfl,rfl⟩
 go_wp2_with fail
 refine hfd.mono ?_
 rintro e w2 ⟨v,rfl,l,hl,Y,hE,K,hM⟩
 have hll:l.length≤2:=by rw [←List.length_map (f:=Prod.fst),hl];exact HL
 have hN:=newest_any hE hM hll
 have hlb:∀ x∈l,x.1.r.length≤1000000000:=fun x hx=>HB.out _ (by rw [←hl];exact List.mem_map_of_mem hx)
 have hlast:∃ X R,OwnV (lastE l).2 (lastE l).1.r X∧Y.Perm (X++R):=by
  rcases List.eq_nil_or_concat l with e | ⟨l',x,e⟩
  ·subst e
   rcases hE with ⟨_,_,rfl⟩ | ⟨g,cap,cur,Xs,_,h0,_⟩
   ·exact ⟨[],[],Or.inl ⟨rfl,rfl,rfl⟩,List.Perm.refl _⟩
   ·simp at h0
  ·subst e
   have:lastE (l'.concat x)=x:=by simp [lastE]
   rw [this]
   exact es_own hE (by simp)
 obtain ⟨X,R,ho,pm⟩:=hlast
 have hnw:=lastE_nw l
 rw [hl,HQ.out] at hnw
 have HKE:Hid (∀ V K',Mem w2 V K'→Calls Tryz.prog 70 #[v] V fun e W'=>∃ v',e=.returned v'∧∃ Y',RS v' (kp FD) Y'∧∃ K',Mem V W' (Y'++K')):=fun V K' hV=>by
  have:=kept_any hE (K:=K++K') (by have:=hM.join hV;rw [List.append_assoc] at this;exact this) hll hlb
  rwa [hl] at this
 have hM2:Mem W w2 (X++(R++K)):=by
  have:=hM.perm (pm.append_right K)
  rwa [List.append_assoc] at this
 rw [hnw] at hN ho
 generalize (lastE l).2=lv at *
 obtain ⟨av,cv,ev,-⟩:=ho.shape
 subst ev
 have hN2:Calls Tryz.prog 69 #[v] w2 fun e W'=>e=.returned (.agg (enA qs qt qc (.slice av qr.length cv)))∧∃ K',Mem w2 W' K':=hN
 have HO:Hid (OwnV (.slice av qr.length cv) qr X):=ho
 have HM2:Hid (Mem W w2 (X++(R++K))):=hM2
 obtain ⟨ae,ce,ee⟩:=hE.shape
 subst ee
 clear hE hM hN ho pm hfd hf hnw hl hlb HL HB hM2 hll
 go_wp2_with fail
 refine hN2.mono ?_
 rintro e w3 ⟨rfl,K3,h3⟩
 go_upto_region 7 with fail
 refine wp_letter (fun V=>Mem w2 V (K3++[(w3.heap.size,.cells (enA qs qt qc (.slice av qr.length cv)) enT (0,0))])) (h3.alloc _) ?_
 intro wx hx
 have kb:∀ j,wx.cell? ⟨w3.heap.size,j,none⟩=(enA qs qt qc (.slice av qr.length cv))[j]?:=fun j=>cell_of (hx.at_ (w3.heap.size,_) (List.mem_append_right _ (List.mem_singleton.mpr rfl))) j
 have k1:=kb 1
 have k2:=kb 2
 have k3:=kb 3
 simp at k1 k2 k3
 have hb7:w3.heap.size < wx.heap.size:=cell_lt k1
 have HX:Hid (Mem w2 wx (K3++[(w3.heap.size,.cells (enA qs qt qc (.slice av qr.length cv)) enT (0,0))])):=hx
 clear h3 hx kb hN2
 generalize w3.heap.size=b7 at *
 go_cut [2,3,4] from 8 (fun s2 s3 s4 wy=>s4=.int .i64 0∧∃ pl,s2=.pointer (some ⟨pl,0,none⟩)∧∃ Y',RS s3 (kp FD) Y'∧∃ K',Mem wx wy ((pl,.cells (lgA p qt qc (.slice av qr.length cv)) lgT (0,0))::(Y'++K')))
 case first =>
  have HK0:Hid (∀ V K',Mem wx V K'→Calls Tryz.prog 70 #[.slice ae l.length ce] V fun e W'=>∃ v',e=.returned v'∧∃ Y',RS v' (kp FD) Y'∧∃ K',Mem V W' (Y'++K')):=fun V K' hV=>HKE.out V _ (HX.out.join hV)
  have hLG:∀ (V:World),Mem V (V.alloc (.cells (lgA p qt qc (.slice av qr.length cv)) lgT)) [(V.heap.size,.cells (lgA p qt qc (.slice av qr.length cv)) lgT (0,0))]:=fun V=>(Mem.nil V).push1 rfl
  have HLG:Hid (∀ (V:World),Mem V (V.alloc (.cells (lgA p qt qc (.slice av qr.length cv)) lgT)) [(V.heap.size,.cells (lgA p qt qc (.slice av qr.length cv)) lgT (0,0))]):=hLG
  clear hLG
  have HKA:Hid (Calls Tryz.prog 70 #[.slice ae l.length ce] (wx.alloc (.cells (lgA p qt qc (.slice av qr.length cv)) lgT)).drew fun e W'=>∃ v',e=.returned v'∧∃ Y',RS v' (kp FD) Y'∧∃ K',Mem (wx.alloc (.cells (lgA p qt qc (.slice av qr.length cv)) lgT)).drew W' (Y'++K')):=HK0.out _ _ (HLG.out wx).drew
  have HKB:Hid (Calls Tryz.prog 70 #[.slice ae l.length ce] wx.drew fun e W'=>∃ v',e=.returned v'∧∃ Y',RS v' (kp FD) Y'∧∃ K',Mem wx.drew W' (Y'++K')):=HK0.out _ _ (Mem.nil wx).drew
  have HS:Hid (∀ V K,Mem wx V K→V.cell? ⟨b7,1,none⟩=some (.int .u64 qt)∧V.cell? ⟨b7,2,none⟩=some (.int .i64 qc)∧V.cell? ⟨b7,3,none⟩=some (.slice av qr.length cv)):=fun V K hV=>⟨(hV.old hb7).trans k1,(hV.old hb7).trans k2,(hV.old hb7).trans k3⟩
  clear HK0
  go_region_held3 (fun w'=>w'.cell? ⟨b7,1,none⟩=some (.int .u64 qt)∧w'.cell? ⟨b7,2,none⟩=some (.int .i64 qc)∧w'.cell? ⟨b7,3,none⟩=some (.slice av qr.length cv))
   (first | go_keep | assumption | exact HS.out _ _ ((HLG.out wx).drew.join q5) | exact HS.out _ _ ((Mem.nil wx).drew.join q5) | exact HS.out _ _ ((HLG.out wx)))
   (first
    | (go_at_call 70;with_reducible refine HKA.out.mono ?_;rintro e w5 ⟨v5,rfl,Y5,r5,K5,q5⟩)
    | (go_at_call 70;with_reducible refine HKB.out.mono ?_;rintro e w5 ⟨v5,rfl,Y5,r5,K5,q5⟩))
  all_goals
   go_wp2_with fail
   go_meet
   case rel=>first
    | exact ⟨rfl,wx.heap.size,rfl,Y5,r5,K5,(HLG.out wx).drew.join q5⟩
    | exact ⟨rfl,w5.heap.size,rfl,Y5,r5,K5,(((Mem.nil wx).drew.join q5).join (HLG.out w5)).perm List.perm_append_comm⟩
 case rest =>
  obtain ⟨rfl,pl,rfl,Y',hR,K',hM'⟩:=hcut
  have HE:Hid (Mem W wc ((pl,.cells (lgA p qt qc (.slice av qr.length cv)) lgT (0,0))::(X++(Y'++(K'++(R++K++(K3++[(b7,.cells (enA qs qt qc (.slice av qr.length cv)) enT (0,0))]))))))):=by
   have h9:=(HM2.out.join HX.out).join hM'
   refine h9.perm ?_
   have e:∀ (P:Nat×Obj) (A B C Y K:List (Nat×Obj)),((A++B)++C++(P::(Y++K))).Perm (P::(A++(Y++(K++(B++C))))):=by
    intro P A B C Y K
    refine List.perm_middle.trans (List.Perm.cons P ?_)
    simp only [List.append_assoc]
    refine List.Perm.append_left A ?_
    have h1:(B++(C++(Y++K)))=(B++C)++(Y++K):=by simp
    have h2:(Y++(K++(B++C)))=(Y++K)++(B++C):=by simp
    rw [h1,h2];exact List.perm_append_comm
   exact e _ _ _ _ _ _
  clear hM' HM2 HX HKE k1 k2 k3
  go_wp2
  exact bodyPost_ret (v:=.tuple #[.pointer (some ⟨pl,0,none⟩),u3,.int .i64 0]) (by simp [results,Tryz.results40,go_sem]) rfl ⟨pl,u3,rfl,_,X,HO.out,Y',hR,_,HE.out⟩
end
end Go.Proofs.YtdigofgjhaakmaaGreatDoor
namespace Go.Proofs.YtdigofgjhaakmaaGreatDoor
open Go.RowKit
open Sm
open Cf
structure Cgf where
 ip:Int
 mac:List Int
 omac:List Int
 nmac:List Int
 key:List Int
 drain:Int
 ten:List Ten
structure CLen (c:Cgf):Prop where
 mac:c.mac.length=6
 omac:c.omac.length=6
 nmac:c.nmac.length=6
 key:c.key.length=8
structure CIn (c:Cgf):Prop where
 len:CLen c
 mac:IsBytes c.mac
 omac:IsBytes c.omac
 nmac:IsBytes c.nmac
 key:IsBytes c.key
def cc (c:Cgf) (v:Value):List Value:=.int .u32 c.ip::(c.mac.map (Value.int .u8)++(c.omac.map (Value.int .u8)++(c.nmac.map (Value.int .u8)++(c.key.map (Value.int .u8)++[.int .u32 c.drain,v]))))
theorem cc_len {c:Cgf} (h:CLen c) (v:Value):(cc c v).length=29:=by simp [cc,h.mac,h.omac,h.nmac,h.key]
def cfg0:Cgf:=⟨0,[0,0,0,0,0,0],[0,0,0,0,0,0],[0,0,0,0,0,0],[0,0,0,0,0,0,0,0],0,[]⟩
theorem cfg0_len:CLen cfg0:=⟨rfl,rfl,rfl,rfl⟩
abbrev cz:Array Value:=(cc cfg0 nilV).toArray
theorem cset {t t':Cgf} {p p':Value} {o:Nat} {v:Value} (h:CLen t) (e:∀ ip a b c d f g a1 b1 c1 d1 f1 g1 a2 b2 c2 d2 f2 g2 k1 k2 k3 k4 k5 k6 k7 k8 dr te,
  t=⟨ip,[a,b,c,d,f,g],[a1,b1,c1,d1,f1,g1],[a2,b2,c2,d2,f2,g2],[k1,k2,k3,k4,k5,k6,k7,k8],dr,te⟩→(cc t p).set o v=cc t' p'):(cc t p).set o v=cc t' p':=by
 obtain ⟨ip,mac,om,nm,key,dr,te⟩:=t
 obtain ⟨h1,h2,h3,h4⟩:=h
 obtain ⟨a,b,c,d,f,g,rfl⟩:=six6 h1
 obtain ⟨a1,b1,c1,d1,f1,g1,rfl⟩:=six6 h2
 obtain ⟨a2,b2,c2,d2,f2,g2,rfl⟩:=six6 h3
 obtain ⟨k1,k2,k3,k4,k5,k6,k7,k8,rfl⟩:=eight8 h4
 exact e ip a b c d f g a1 b1 c1 d1 f1 g1 a2 b2 c2 d2 f2 g2 k1 k2 k3 k4 k5 k6 k7 k8 dr te rfl
theorem cget {t:Cgf} {p:Value} {o:Nat} {v:Value} (h:CLen t) (e:∀ ip a b c d f g a1 b1 c1 d1 f1 g1 a2 b2 c2 d2 f2 g2 k1 k2 k3 k4 k5 k6 k7 k8 dr te,
  t=⟨ip,[a,b,c,d,f,g],[a1,b1,c1,d1,f1,g1],[a2,b2,c2,d2,f2,g2],[k1,k2,k3,k4,k5,k6,k7,k8],dr,te⟩→(cc t p)[o]? = some v):(cc t p)[o]? = some v:=by
 obtain ⟨ip,mac,om,nm,key,dr,te⟩:=t
 obtain ⟨h1,h2,h3,h4⟩:=h
 obtain ⟨a,b,c,d,f,g,rfl⟩:=six6 h1
 obtain ⟨a1,b1,c1,d1,f1,g1,rfl⟩:=six6 h2
 obtain ⟨a2,b2,c2,d2,f2,g2,rfl⟩:=six6 h3
 obtain ⟨k1,k2,k3,k4,k5,k6,k7,k8,rfl⟩:=eight8 h4
 exact e ip a b c d f g a1 b1 c1 d1 f1 g1 a2 b2 c2 d2 f2 g2 k1 k2 k3 k4 k5 k6 k7 k8 dr te rfl
abbrev Tz:=Ten×Nat×Nat×Nat
def tcs (z:Tz):List Value:=tc z.1 (lv z.2.1 (ux z.1.pool)) (lv z.2.2.1 (px z.1.stat)) (lv z.2.2.2 (px z.1.twi))
def tbs (z:Tz):List (Nat×Obj):=lb z.2.1 33 (ux z.1.pool)++(lb z.2.2.1 122 (px z.1.stat)++lb z.2.2.2 122 (px z.1.twi))
def tok (z:Tz):Prop:=TLen z.1∧(z.1.pool.length≤255∧z.1.stat.length≤255∧z.1.twi.length≤255)
def tbk (h:Nat):List Tz→List (Nat×Obj)
 | []=>[]
 | z::zs=>(h,.cells ((z::zs).flatMap tcs).toArray 46)::(z::zs).flatMap tbs
theorem tbk_ne {h:Nat} {zs:List Tz} (e:zs≠[]):tbk h zs=(h,.cells (zs.flatMap tcs).toArray 46)::zs.flatMap tbs:=by
 cases zs with
 | nil=>exact absurd rfl e
 | cons z zs=>rfl
theorem tcs_len {zs:List Tz} (h:∀ z∈zs,tok z):(zs.flatMap tcs).length=zs.length * 33:=by
 induction zs with
 | nil=>rfl
 | cons z zs ih =>
  rw [List.flatMap_cons,List.length_append,ih (fun z hz=>h z (List.mem_cons_of_mem _ hz)),List.length_cons,Nat.succ_mul]
  have:(tcs z).length=33:=tc_len (h z (List.mem_cons_self ..)).1 _ _ _
  omega
def JC:St' Cgf:=fun w c g T pre post V K=>CLen c∧c.ten.length≤255∧∃ h zs,zs.map Prod.fst=c.ten∧(∀ z∈zs,tok z) ∧
 Mem w V ((g,.cells (pre++(cc c (lv h (zs.map tcs))++post)).toArray T (0,0))::(tbk h zs++K))
theorem lens_C {β:Type} {w:World} (o:Nat) (ho:o < 29) (old:Cgf→Value) (nv:β→Value) (fs:Cgf→β→Cgf) (hget:∀ t p,CLen t→(cc t p)[o]? = some (old t)) (hset:∀ t y p,CLen t→(cc t p).set o (nv y)=cc (fs t y) p)
  (hk:∀ t y,CLen t→CLen (fs t y)) (hp:∀ t y,(fs t y).ten=t.ten) :
  ∀ t g T pre post V K,JC w t g T pre post V K→∃ A M,Lens w JC o t g T pre post V K M A∧A[pre.length+o]? = some (old t) ∧
   ∀ y V',Mem w V' ((g,.cells (A.setIfInBounds (pre.length+o) (nv y)) T (0,0))::M)→JC w (fs t y) g T pre post V' K:=by
 rintro t g T pre post V K ⟨hl,hb,h,zs,hz,hok,hM⟩
 refine ⟨_,_,⟨hM,fun q hq=>List.mem_append_right _ hq,fun V' h=>h.dropA⟩,get_mid _ _ _ o _ (hget _ _ hl),fun y V' hV=>?_⟩
 rw [set_mid _ _ _ o _ (by rw [cc_len hl];exact ho),hset _ _ _ hl] at hV
 exact ⟨hk t y hl,by rw [hp];exact hb,h,zs,by rw [hp];exact hz,hok,hV⟩
theorem lens_CO {w:World} (o n:Nat) (fs:Cgf→List Int→Cgf) (hcut:∀ t p,CLen t→∃ a b c,a.length=o∧b.length=n∧cc t p=a++(b++c)∧∀ y,cc (fs t y) p=a++(y.map (Value.int .u8)++c))
  (hk:∀ t y,y.length=n→CLen t→CLen (fs t y)) (hp:∀ t y,(fs t y).ten=t.ten) :
  ∀ t g T pre post V K,JC w t g T pre post V K→∃ A M,Lens w JC o t g T pre post V K M A∧pre.length+o+n≤A.size ∧
   ∀ y V',y.length=n→IsBytes y→Mem w V' ((g,.cells (spl A (pre.length+o) y) T (0,0))::M)→JC w (fs t y) g T pre post V' K:=by
 rintro t g T pre post V K ⟨hl,hb,h,zs,hz,hok,hM⟩
 obtain ⟨a,b,c,ha,hbn,e,hfs⟩:=hcut t (lv h (zs.map tcs)) hl
 refine ⟨_,_,⟨hM,fun q hq=>List.mem_append_right _ hq,fun V' h=>h.dropA⟩,?_,fun y V' hy _ hV=>?_⟩
 ·rw [e];simp [ha,hbn];omega
 ·rw [e,← ha,spl_mid pre a b c post y (by omega),← hfs y] at hV
  exact ⟨hk t y hy hl,by rw [hp];exact hb,h,zs,by rw [hp];exact hz,hok,hV⟩
def tz0:Tz:=(ten0,0,0,0)
theorem tz0_ok:tok tz0:=⟨ten0_len,by decide,by decide,by decide⟩
theorem tbs_rep (m:Nat):(List.replicate m tz0).flatMap tbs=[]:=by
 induction m with
 | zero=>rfl
 | succ m ih=>rw [List.replicate_succ,List.flatMap_cons,ih];rfl
theorem made_T (m:Nat):madeCells (Value.agg (tc ten0 nilV nilV nilV).toArray).cells (m * 33)=((List.replicate m tz0).flatMap tcs).toArray:=by
 apply Array.toList_inj.mp
 have:=madeCells_flat (Value.agg (tc ten0 nilV nilV nilV).toArray).cells m (by decide)
 rw [show (Value.agg (tc ten0 nilV nilV nilV).toArray).cells.size=33 from rfl] at this
 rw [this]
 induction m with
 | zero=>rfl
 | succ m ih =>
  have hm:=madeCells_flat (Value.agg (tc ten0 nilV nilV nilV).toArray).cells m (by decide)
  rw [show (Value.agg (tc ten0 nilV nilV nilV).toArray).cells.size=33 from rfl] at hm
  rw [List.replicate_succ,List.flatten_cons,ih hm,List.replicate_succ]
  rfl
def set_ten (c:Cgf) (m:Nat):Cgf:=if m=0 then c else { c with ten:=List.replicate m ten0 }
theorem lens_Cten {w:World}:∀ t g T pre post V K,JC w t g T pre post V K→∃ A M y,Lens w JC 28 t g T pre post V K M A∧A[pre.length+28]? = some y ∧
   ∀ m V',m≤255→CMade_CT w V' g A T (pre.length+28) M m→JC w (set_ten t m) g T pre post V' K:=by
 rintro t g T pre post V K ⟨hl,hb,h,zs,hz,hok,hM⟩
 refine ⟨_,_,_,⟨hM,fun q hq=>List.mem_append_right _ hq,fun V' h=>h.dropA⟩,get_mid _ _ _ 28 _ (cget (v:=lv h (zs.map tcs)) hl (by rintro ip a b c d f g a1 b1 c1 d1 f1 g1 a2 b2 c2 d2 f2 g2 k1 k2 k3 k4 k5 k6 k7 k8 dr te rfl;rfl)),fun m V' hm hV=>?_⟩
 rcases hV with ⟨rfl,hV⟩ | ⟨h0,h',hV⟩
 ·exact ⟨hl,hb,h,zs,hz,hok,hV⟩
 ·rw [set_mid _ _ _ 28 _ (by rw [cc_len hl];omega),made_T] at hV
  unfold set_ten
  rw [if_neg (by omega)]
  have hne:List.replicate m tz0≠[]:=by
   cases m with
   | zero=>omega
   | succ m=>simp [List.replicate_succ]
  refine ⟨⟨hl.mac,hl.omac,hl.nmac,hl.key⟩,by simpa using hm,h',List.replicate m tz0,by simp [tz0],fun z hz=>by rw [(List.mem_replicate.mp hz).2];exact tz0_ok,?_⟩
  have e:(cc t (lv h (zs.map tcs))).set 28 (.slice (some ⟨h',0,none⟩) m m)=cc { t with ten:=List.replicate m ten0 } (lv h' ((List.replicate m tz0).map tcs)):=by
   rw [lv_one (h:=h') (xs:=(List.replicate m tz0).map tcs) (fun e=>hne (List.map_eq_nil_iff.mp e)),List.length_map,List.length_replicate]
   exact cset hl (by rintro ip a b c d f g a1 b1 c1 d1 f1 g1 a2 b2 c2 d2 f2 g2 k1 k2 k3 k4 k5 k6 k7 k8 dr te rfl;rfl)
  rw [e] at hV
  rw [tbk_ne hne,tbs_rep]
  exact hV.subl ((List.sublist_append_right _ _).cons_cons _ |>.cons_cons _)
def IMT (w:World) (h:Nat) (M:List (Nat×Obj)) (V:World) (ys:List Ten):Prop:=∃ zs:List Tz,zs.map Prod.fst=ys∧(∀ z∈zs,tok z)∧Mem w V (tbk h zs++M)
theorem lens_Iten {w:World}:∀ t g T pre post V K,JC w t g T pre post V K→t.ten.length≤255∧∃ hb M sa sc,(0 < t.ten.length→sa=some ⟨hb,0,none⟩)∧Sub K M∧(∀ V',Mem w V' M→Mem w V' K)∧V.cell? ⟨g,pre.length+28,none⟩=some (.slice sa t.ten.length sc) ∧
   IMT w hb M V t.ten∧∀ ys V',ys.length=t.ten.length→IMT w hb M V' ys→JC w { t with ten:=ys } g T pre post V' K:=by
 rintro t g T pre post V K ⟨hl,hb,h,zs,hz,hok,hM⟩
 have hcell:V.cell? ⟨g,pre.length+28,none⟩=some (lv h (zs.map tcs)):=by
  rw [hM.cell 0 rfl]
  exact get_mid _ _ _ 28 _ (cget hl (by rintro ip a b c d f g a1 b1 c1 d1 f1 g1 a2 b2 c2 d2 f2 g2 k1 k2 k3 k4 k5 k6 k7 k8 dr te rfl;rfl))
 have hlen:zs.length=t.ten.length:=by rw [←hz,List.length_map]
 obtain ⟨sa,sc,hs,hsa⟩:∃ sa sc,lv h (zs.map tcs)=.slice sa t.ten.length sc∧(0 < t.ten.length→sa=some ⟨h,0,none⟩):=by
  rw [←hlen]
  cases zs with
  | nil=>exact ⟨none,0,rfl,fun h=>by simp at h⟩
  | cons z zs=>exact ⟨some ⟨h,0,none⟩,(z::zs).length,by rw [lv_one (by simp),List.length_map],fun _=>rfl⟩
 rw [hs] at hcell
 obtain ⟨G,hG⟩:∃ G:Nat×Obj,G=(g,.cells (pre++(cc t (lv h (zs.map tcs))++post)).toArray T (0,0)):=⟨_,rfl⟩
 rw [←hG] at hM
 refine ⟨hb,h,G::K,sa,sc,hsa,fun q hq=>List.mem_cons_of_mem _ hq,fun V' hV=>hV.sub,hcell,⟨zs,hz,hok,hM.perm (List.perm_middle (l₁:=_)).symm⟩,?_⟩
 rintro ys V' hy ⟨us,hu,huk,hV⟩
 refine ⟨⟨hl.mac,hl.omac,hl.nmac,hl.key⟩,by simp only [hy];exact hb,h,us,hu,huk,?_⟩
 have e:lv h (us.map tcs)=lv h (zs.map tcs):=lv_len (by rw [List.length_map,List.length_map,hlen,← hy,← hu,List.length_map])
 have e2:cc { t with ten:=ys } (lv h (us.map tcs))=cc t (lv h (zs.map tcs)):=by rw [e];rfl
 rw [e2,← hG]
 exact hV.perm (List.perm_middle (l₁:=_))
abbrev Tv:=Ten×Value×Value×Value
def zc (z:Tv):List Value:=tc z.1 z.2.1 z.2.2.1 z.2.2.2
def Rws (V:World) (z:Tv):Prop:=Rw V 1 z.2.1 (ux z.1.pool)∧Rw V 2 z.2.2.1 (px z.1.stat)∧Rw V 2 z.2.2.2 (px z.1.twi)
def IC:Rp Cgf (Value×List Tv):=fun c r V g off=>CIn c∧V.rangeAt g off (cc c r.1)∧r.2.map Prod.fst=c.ten∧Rw V 33 r.1 (r.2.map zc)∧∀ z∈r.2,TIn z.1∧Rws V z
theorem IC.cell {t:Cgf} {r:Value×List Tv} {V:World} {g off:Nat} (h:IC t r V g off) (o:Nat) {v:Value} (hv:(cc t r.1)[o]? = some v):V.cell? ⟨g,off+o,none⟩=some v:=h.2.1 o v hv
theorem IC.row {t:Cgf} {r:Value×List Tv} {V:World} {g off:Nat} (h:IC t r V g off) (o:Nat) (x:List Int) (hb:IsBytes x) (hx:x.length≤1000) (a c:List Value) (ha:a.length=o) (e:cc t r.1=a++(x.map (Value.int .u8)++c)) :
  Row V (some ⟨g,off+o,none⟩) x:=by
 refine ⟨hb,by omega,Or.inr ⟨g,off+o,rfl,fun i hi=>?_⟩⟩
 have:=h.2.1 (o+i) (.int .u8 (x.getD i 0)) (by
  rw [e,List.getElem?_append_right (by omega),List.getElem?_append_left (by simp;omega),ha,Nat.add_sub_cancel_left]
  simp [hi])
 rw [Nat.add_assoc];exact this
theorem rw_slice {V:World} {sz:Nat} {v:Value} {xs:List (List Value)} (h:Rw V sz v xs):v.oneCell'=true:=by
 obtain ⟨a,c,rfl,-⟩:=h;rfl
theorem zc_one {V:World} {z:Tv} (h:Rws V z):(zc z).toArray.all (·.oneCell')=true:=by
 apply all_oneCell_toArray
 intro v hv
 simp only [zc,tc,List.mem_cons,List.mem_append,List.mem_map,List.not_mem_nil,or_false] at hv
 rcases hv with rfl | rfl | ⟨x,_,rfl⟩ | rfl | ⟨x,_,rfl⟩ | ⟨x,_,rfl⟩ | rfl | rfl | rfl | rfl | rfl | rfl | rfl | rfl | rfl | rfl <;> first | rfl | exact rw_slice h.1 | exact rw_slice h.2.1 | exact rw_slice h.2.2
structure Fw {α ρ:Type} (w:World) (L:List (Nat×Obj)) (I:Rp α ρ) (J:St' α) (f:Fv) (s:Sp α):Prop where
 ew:Ent f.kw
 er:Ent f.kr
 wr:∀ K,Sub L K→∀ x r g off,(∀ V,Mem w V K→I x r V g off)→∀ v l V,Out w V v l K→l.length+(s.enc x).length≤1000000000 →
  Calls Tryz.prog f.kw (#[v,.pointer (some ⟨g,off,none⟩)]++f.cw) V fun e V'=>∃ v',e=.returned v'∧Out w V' v' (l++s.enc x) K
 rd:∀ K,Sub L K→∀ x g T pre post a l c V,J w x g T pre post V K→Sl w a l c →
  Calls Tryz.prog f.kr (#[.slice a l.length c,.pointer (some ⟨g,pre.length,none⟩)]++f.cr) V (RPost w K (fun y V'=>J w y g T pre post V' K) (s.dec l x))
theorem Fd.fw {α ρ:Type} {w:World} {L:List (Nat×Obj)} {I:Rp α ρ} {J:St' α} {f:Fv} {s:Sp α} (h:Fd w L I J f s):Fw w L I J f s:=⟨h.ew,h.er,h.wr,h.rd⟩
theorem Fw.more {α ρ:Type} {w:World} {L K:List (Nat×Obj)} {I:Rp α ρ} {J:St' α} {f:Fv} {s:Sp α} (h:Fw w L I J f s) (hs:Sub L K):Fw w K I J f s :=
 ⟨h.ew,h.er,fun M hM=>h.wr M (hs.trans hM),fun M hM=>h.rd M (hs.trans hM)⟩
inductive FwAll {α ρ:Type} (w:World) (L:List (Nat×Obj)) (I:Rp α ρ) (J:St' α):List Fv→List (Sp α)→Prop
 | nil:FwAll w L I J [] []
 | cons {f:Fv} {s:Sp α} {fs:List Fv} {ss:List (Sp α)}:Fw w L I J f s→FwAll w L I J fs ss→FwAll w L I J (f::fs) (s::ss)
theorem FwAll.at_ {α ρ:Type} {w:World} {L:List (Nat×Obj)} {I:Rp α ρ} {J:St' α} {fs:List Fv} {ss:List (Sp α)} (h:FwAll w L I J fs ss):∀ i,i < fs.length→Fw w L I J (fs.getD i fv0) (ss.getD i sp0):=by
 induction h with
 | nil=>intro i hi;simp at hi
 | cons h1 h2 ih =>
  intro i hi
  cases i with
  | zero=>exact h1
  | succ i=>exact ih i (by simpa using hi)
theorem FwAll.len {α ρ:Type} {w:World} {L:List (Nat×Obj)} {I:Rp α ρ} {J:St' α} {fs:List Fv} {ss:List (Sp α)} (h:FwAll w L I J fs ss):fs.length=ss.length:=by
 induction h with
 | nil=>rfl
 | cons _ _ ih=>simp [ih]
theorem fw_all_C {α ρ:Type} {w:World} {L:List (Nat×Obj)} {I:Rp α ρ} {J:St' α} (cb lb n:Nat) (fs:List Fv) (ss:List (Sp α)) (hn:fs.length=n) (hn2:n≤1000)
  (mc:(cb,.cells #[.slice (some ⟨lb,0,none⟩) n n] 248)∈L) (ml:(lb,.cells (fs.flatMap Fv.cells).toArray 189)∈L)
  (hfs:FwAll w L I J fs ss) (hst:∀ x g T pre post V V' K,J w x g T pre post V K→Below V.heap.size V V'→J w x g T pre post V' K) (hJM:∀ x g T pre post V K,J w x g T pre post V K→Mem w V K) :
  Fw w L I J (fvAll_C cb) (spAll ss):=by
 have hss:ss.length=n:=by rw [←hfs.len];exact hn
 have hcell:∀ K,Sub L K→∀ V,Mem w V K→V.cell? ⟨cb,0,none⟩=some (.slice (some ⟨lb,0,none⟩) n n):=fun K hK V hV=>by rw [mem_box hV (hK _ mc)];rfl
 have hcells:∀ K,Sub L K→∀ V,Mem w V K→∀ i,i < n→V.cell? ⟨lb,i * 3,none⟩=some (.func (.func (fs.getD i fv0).kw) #[] (fs.getD i fv0).cw) ∧
   V.cell? ⟨lb,i * 3+1,none⟩=some (.func (.func (fs.getD i fv0).kr) #[] (fs.getD i fv0).cr)∧V.cell? ⟨lb,i * 3+2,none⟩=some (.func (.func (fs.getD i fv0).ks) #[] (fs.getD i fv0).cs):=by
  intro K hK V hV i hi
  obtain ⟨h1,h2,h3⟩:=flat_get fs i (by omega)
  refine ⟨?_,?_,?_⟩
  ·rw [mem_box hV (hK _ ml)];simpa using h1
  ·rw [mem_box hV (hK _ ml)];simpa using h2
  ·rw [mem_box hV (hK _ ml)];simpa using h3
 refine ⟨enters_of Tryz.func205 (by kernel_rfl) rfl,enters_of Tryz.func206 (by kernel_rfl) rfl,?_,?_⟩
 ·intro K hK x r g off hx v l V hO hb
  have:=awr_C (H:=fun v l V=>Out w V v l K) (fun v l V V' h hB=>h.after hB) ⟨g,off,none⟩ cb lb n hn2 (fun i=>(fs.getD i fv0).kw) (fun i=>(fs.getD i fv0).kr) (fun i=>(fs.getD i fv0).ks) (fun i=>(fs.getD i fv0).cw) (fun i=>(fs.getD i fv0).cr) (fun i=>(fs.getD i fv0).cs)
   (fun v l V h=>hcell K hK V h.mem) (fun v l V h=>hcells K hK V h.mem) (fun i=>(ss.getD i sp0).enc x) (fun i hi=>(hfs.at_ i (by omega)).ew) (fun i hi v l V h hb=>(hfs.at_ i (by omega)).wr K hK x r g off hx v l V h hb) v l V hO (by simp only [spAll,hss] at hb;exact hb)
  simp only [spAll,hss]
  exact this
 ·intro K hK x g T pre post a l c V hj hS
  have:=ard_C (w:=w) (L:=K) (J:=fun y V=>J w y g T pre post V K) (fun y V V' h hB=>hst y g T pre post V V' K h hB) ⟨g,pre.length,none⟩ cb lb n hn2 (fun i=>(fs.getD i fv0).kw) (fun i=>(fs.getD i fv0).kr) (fun i=>(fs.getD i fv0).ks) (fun i=>(fs.getD i fv0).cw) (fun i=>(fs.getD i fv0).cr) (fun i=>(fs.getD i fv0).cs)
   (fun y V h=>hcell K hK V (hJM _ _ _ _ _ _ _ h)) (fun y V h=>hcells K hK V (hJM _ _ _ _ _ _ _ h)) (fun i=>(ss.getD i sp0).dec) (fun i hi=>(hfs.at_ i (by omega)).er) (fun i hi y l a c V h hS=>(hfs.at_ i (by omega)).rd K hK y g T pre post a l c V h hS) x l a c V hj hS
  simp only [spAll,hss]
  exact this
def rnm (σ:Option (List Int)):ByteArray:=strOfNums (tk (num (tk 1 σ)).toNat (nx 1 σ))
def rnx (σ:Option (List Int)):Option (List Int):=nx (num (tk 1 σ)).toNat (nx 1 σ)
def RB {σ:Type} (dec:List Int→σ→Option (σ×List Int)) (e:List Int) (x x':σ):Prop:=(∀ r,dec (e++r) x=some (x',r))∧∀ l,l <+: e→l.length < e.length→dec l x=none
def catF (enc:Nat→List Int):Nat→Nat→List Int
 | _,0=>[]
 | i,m+1=>enc i++catF enc (i+1) m
theorem catF_snoc (enc:Nat→List Int):∀ m i,catF enc i (m+1)=catF enc i m++enc (i+m)
 | 0,i=>by simp [catF]
 | m+1,i=>by
  rw [catF,catF_snoc enc m (i+1),catF,List.append_assoc,show i+1+m=i+(m+1) by omega]
theorem cat_eq (enc:Nat→List Int):∀ n,cat enc n=catF enc 0 n
 | 0=>rfl
 | n+1=>by rw [cat,cat_eq enc n,catF_snoc,Nat.zero_add]
theorem sq_rb {σ:Type} {dec:Nat→List Int→σ→Option (σ×List Int)} {enc:Nat→List Int} {Inv:Nat→σ→Prop}:∀ m i x,(∀ k,i≤k→k < i+m→∀ x,Inv k x→∃ x',RB (dec k) (enc k) x x'∧Inv (k+1) x')→Inv i x →
  ∃ x',RB (sq dec i m) (catF enc i m) x x'∧Inv (i+m) x'
 | 0,i,x,_,h=>⟨x,⟨fun r=>rfl,fun l h1 h2=>by simp [catF] at h2⟩,h⟩
 | m+1,i,x,H,h=>by
  obtain ⟨x1,⟨h1,h2⟩,h3⟩:=H i (Nat.le_refl _) (by omega) x h
  obtain ⟨x2,⟨k1,k2⟩,k3⟩:=sq_rb m (i+1) x1 (fun k a b=>H k (by omega) (by omega)) h3
  refine ⟨x2,⟨fun r=>?_,fun l hl hs=>?_⟩,by rw [show i+(m+1)=i+1+m by omega];exact k3⟩
  ·rw [catF,List.append_assoc,sq,h1]
   exact k1 r
  ·rw [catF] at hl hs
   by_cases hc:l.length < (enc i).length
   ·have:l <+: enc i:=List.prefix_of_prefix_length_le hl (List.prefix_append _ _) (by omega)
    rw [sq,h2 l this hc]
   ·have hp:enc i <+: l:=List.prefix_of_prefix_length_le (List.prefix_append _ _) hl (by omega)
    obtain ⟨l2,rfl⟩:=hp
    rw [sq,h1]
    refine k2 l2 ((List.prefix_append_right_inj _).mp hl) ?_
    simp only [List.length_append] at hs
    omega
theorem rb_num {α:Type} (sz:Nat) (fg:α→Int) (fs:α→Int→α) (t x:α):RB (spNum sz fg fs).dec ((spNum sz fg fs).enc t) x (fs x (num (be sz (fg t)))):=by
 have hl:=be_len sz (fg t)
 refine ⟨fun r=>?_,fun l h1 h2=>?_⟩
 ·simp only [spNum]
  rw [if_neg (by rw [List.length_append,hl];omega),List.take_left' hl,List.drop_left' hl]
 ·simp only [spNum] at h2 ⊢
  rw [if_pos (by omega)]
theorem rb_oct {α:Type} (n:Nat) (fg:α→List Int) (fs:α→List Int→α) (t x:α) (hl:(fg t).length=n):RB (spOct n fg fs).dec ((spOct n fg fs).enc t) x (fs x (fg t)):=by
 refine ⟨fun r=>?_,fun l h1 h2=>?_⟩
 ·simp only [spOct]
  rw [if_neg (by rw [List.length_append,hl];omega),List.take_left' hl,List.drop_left' hl]
 ·simp only [spOct] at h2 ⊢
  rw [if_pos (by omega)]
theorem rb_cnt {α:Type} (fl:α→Nat) (fs:α→Nat→α) (t x:α):RB (spCnt fl fs).dec ((spCnt fl fs).enc t) x (fs x (min (fl t) 255)):=by
 refine ⟨fun r=>?_,fun l h1 h2=>?_⟩
 ·simp only [spCnt,List.cons_append,List.nil_append,Int.toNat_natCast]
 ·simp only [spCnt,List.length_cons,List.length_nil] at h2 ⊢
  have:l=[]:=List.eq_nil_of_length_eq_zero (by omega)
  subst this
  rfl
theorem rb_txt {α:Type} (fg:α→ByteArray) (fs:α→ByteArray→α) (t x:α) (hl:(sb (fg t)).length=(fg t).size):RB (spTxt fg fs).dec ((spTxt fg fs).enc t) x (fs x (strOfNums ((sb (fg t)).take 255))):=by
 have hn:((sb (fg t)).take 255).length=min (fg t).size 255:=by rw [List.length_take,hl,Nat.min_comm]
 refine ⟨fun r=>?_,fun l h1 h2=>?_⟩
 ·simp only [spTxt,nm,List.cons_append,dtxt,Int.toNat_natCast]
  rw [if_neg (by rw [List.length_append,hn];omega),List.take_left' hn,List.drop_left' hn]
  rfl
 ·simp only [spTxt,nm] at h1 h2 ⊢
  cases l with
  | nil=>rfl
  | cons b r =>
   obtain ⟨e,h3⟩:=List.cons_prefix_cons.mp h1
   subst e
   simp only [List.length_cons,hn] at h2
   simp only [dtxt,Int.toNat_natCast]
   rw [if_pos (by omega)]
   rfl
theorem rb_itm {α β:Type} [DecidableEq β] (d:β) (se:Sp β) (sv:β→β) (hse:∀ y z,RB se.dec (se.enc y) z (sv y)) (fl:α→List β) (fs:α→List β→α) (t x:α) (hx:(fl x).length=min (fl t).length 255) :
  RB (spItm d se fl fs).dec ((spItm d se fl fs).enc t) x (fs x (((fl t).take 255).map sv)):=by
 obtain ⟨ys,⟨h1,h2⟩,h3,h4⟩:=sq_rb (dec:=itd d se) (enc:=fun i=>se.enc ((fl t).getD i d)) (Inv:=fun k ys=>ys.length=min (fl t).length 255∧∀ i,i < k→ys[i]? = some (sv ((fl t).getD i d))) (min (fl t).length 255) 0 (fl x)
  (fun k _ hk xs ⟨g1,g2⟩=>by
   obtain ⟨e1,e2⟩:=hse ((fl t).getD k d) (xs.getD k d)
   refine ⟨xs.set k (sv ((fl t).getD k d)),⟨fun r=>by simp only [itd,e1,Option.map_some],fun l a b=>by simp only [itd,e2 l a b,Option.map_none]⟩,by rw [List.length_set];exact g1,fun i hi=>?_⟩
   rw [List.getElem?_set]
   by_cases e:k=i
   ·subst e
    rw [if_pos rfl,if_pos (by omega)]
   ·rw [if_neg e]
    exact g2 i (by omega)) ⟨hx,fun i hi=>by omega⟩
 have hys:ys=((fl t).take 255).map sv:=by
  apply List.ext_getElem?
  intro i
  rw [List.getElem?_map,List.getElem?_take]
  by_cases hi:i < min (fl t).length 255
  ·rw [h4 i (by omega),if_pos (by omega),List.getD,List.getElem?_eq_getElem (by omega)]
   rfl
  ·rw [List.getElem?_eq_none (by omega)]
   split
   ·rw [List.getElem?_eq_none (by omega)];rfl
   ·rfl
 subst hys
 refine ⟨fun r=>?_,fun l a b=>?_⟩
 ·simp only [spItm]
  rw [hx,cat_eq,h1]
  rfl
 ·simp only [spItm] at a b ⊢
  rw [cat_eq] at a b
  rw [hx,h2 l a b]
  rfl
structure Chg where
 put:Bool
 name:ByteArray
 t:Ten
def hc (h:Chg) (p s q:Value):List Value:=.bool h.put::.string h.name::tc h.t p s q
def HV (V:World) (v:Value) (h:Chg):Prop:=TLen h.t∧∃ p s q,v=.agg (hc h p s q).toArray∧Rw V 1 p (ux h.t.pool)∧Rw V 2 s (px h.t.stat)∧Rw V 2 q (px h.t.twi)
abbrev hz0:Array Value:=(hc ⟨false,ByteArray.empty,ten0⟩ nilV nilV nilV).toArray
theorem Out.none {w V:World} {u:Value} {l:List Int}:∀ K,Out w V u l K→Out w V u l []:=by
 intro K
 induction K with
 | nil=>exact id
 | cons p K ih=>exact fun h=>ih h.drop
end Go.Proofs.YtdigofgjhaakmaaGreatDoor
