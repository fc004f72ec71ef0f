/-
  The statements' seat of settings: its tenants, told whole.
  What is changed: the document's Apply.
  The document's store: its box; Begin, Abort, Gateway, Check, Take.
  Settings as text: the program's reader: a tenant's other lines: twice.
  Settings as text: the program's reader: a tenant's other lines: pool.
-/
import Derived.Test.YtdigofgjhaakmaaGreatDoorW33
import Derived.Test.YtdigofgjhaakmaaGreatDoorW23
import Derived.Deep.DeepCutAuto
import Derived.Test.YtdigofgjhaakmaaGreatDoorW01
import Derived.Test.YtdigofgjhaakmaaGreatDoorW31
set_option linter.unusedVariables false
set_option linter.unusedSimpArgs false
set_option maxRecDepth 20000
set_option maxHeartbeats 40000000
namespace Go.Proofs.YtdigofgjhaakmaaGreatDoor
open Go.RowKit
open La
open Ad
open Sm (IsBytes)
namespace Va
def mkQ (i:Nat) (p2 st tw:Bool) (lo hi fi se qu ra bu:Int):Ten :=
 ⟨⟨#[UInt8.ofNat (97+i % 8)]⟩,100+(i:Int),[(i:Int)+1,0,0,0,0,0,0,0],adr 10 9 0 ((i:Int)+1),[2,9,(i:Int),0,0,0],[2,7,(i:Int),0,0,0],
  if p2 then [adr 5 5 i 1,adr 5 5 i 2] else [adr 5 5 i 1],lo,hi,fi,if st then [(adr 10 0 0 9,adr 5 6 i 9)] else [],if tw then [(adr 192 168 0 5,adr 8 8 8 8),(adr 192 168 0 6,adr 5 5 i 1)] else [],se,qu,ra,bu⟩
def qlo (k:Int):Int:=if (bits .and .u16 k 64 != 0)=true then 1020 else 1024
def qhi (k:Int):Int:=if (bits .and .u16 k 64 != 0)=true then 1030 else 1024+bits .and .u16 (k / 8) 7
structure SRq (k lo hi fi se qu ra bu:Int):Prop where
 is:lo=qlo k∧hi=qhi k∧fi=Int.tmod k 3∧se=1+bits .and .i64 (k / 512) 7∧qu=1+bits .and .i64 (k / 4096) 3∧ra=bits .and .u32 (k / 16384) 3∧bu=3+bits .and .u32 (k / 8192) 7
 lo:1≤lo∧lo≤hi
 hi:0≤hi∧hi≤9999
 fi:0≤fi∧fi≤2
 se:1≤se∧se≤8
 qu:1≤qu∧qu≤4
 ra:0≤ra∧ra≤3
 bu:3≤bu∧bu≤10
def SeatQ (i:Nat) (k:Int) (t:Ten):Prop:=∃ lo hi fi se qu ra bu,t=mkQ i (bits .and .u16 k 4 != 0) (bits .and .u16 k 128 != 0) (bits .and .u16 k 256 != 0) lo hi fi se qu ra bu∧SRq k lo hi fi se qu ra bu
end Va
open Va
def ZX (z:Tv) (L:List (Nat×Obj)):Prop:=TLen z.1∧∃ B1 B2 B3,L=B1++(B2++B3)∧OwB 33 1 z.2.1 z.1.pool.length (ux z.1.pool).flatten B1∧OwB 122 2 z.2.2.1 z.1.stat.length (px z.1.stat).flatten B2∧OwB 122 2 z.2.2.2 z.1.twi.length (px z.1.twi).flatten B3
theorem ZX.zb {z:Tv} {L C:List (Nat×Obj)} (h:ZX z L) (hs:∀ x∈L,x∈C):ZB z C:=by
 obtain ⟨h1,B1,B2,B3,rfl,h2,h3,h4⟩:=h
 refine ⟨h1,B1,B2,B3,fun x hx=>hs x ?_,h2,h3,h4⟩
 simp only [List.mem_append] at hx ⊢
 rcases hx with h | h | h
 ·exact Or.inr (Or.inr h)
 ·exact Or.inr (Or.inl h)
 ·exact Or.inl h
def StQ (i:Nat) (k:Int) (w:World) (e:Ending) (V:World):Prop:=∃ t p s q C,e=.returned (.agg (tc t p s q).toArray)∧SeatQ i k t∧ZX (t,p,s,q) C∧Mem w V C
theorem sname14_any (w:World) (i:Nat) (h:i < 17):Calls Tryz.prog 36 #[.int .i64 (i:Int)] w fun e w'=>e=.returned (.string ⟨#[UInt8.ofNat (97+i % 8)]⟩)∧w=w':=by
 obtain ⟨m,hm⟩:∃ m,i % 8=m:=⟨_,rfl⟩
 have hm8:m < 8:=by omega
 rw [hm]
 have hsl:∀ W,(Instr.slice 9 (.string ⟨#[97,98,99,100,101,102,103,104]⟩) (some (.int .i64 (m:Int))) (some (.int .i64 ((m:Int)+1))) none).run Tryz.prog W=.ok (.string ⟨#[UInt8.ofNat (97+m)]⟩) W:=by
  intro W
  rw [run_slice_string W 9 _ .i64 .i64 (m:Int) ((m:Int)+1) Tryz.underlying9 (by omega) (by omega) (by show ((m:Int)+1)≤((8:Nat):Int);omega)]
  have e:(⟨#[97,98,99,100,101,102,103,104]⟩:ByteArray).extract (m:Int).toNat ((m:Int)+1).toNat=⟨#[UInt8.ofNat (97+m)]⟩:=by
   have:m=0∨m=1∨m=2∨m=3∨m=4∨m=5∨m=6∨m=7:=by omega
   rcases this with rfl | rfl | rfl | rfl | rfl | rfl | rfl | rfl <;> rfl
  rw [e]
 have e1:(i:Int) % 8=m:=by omega
 have e2:IntKind.i64.wrap ((m:Int)+1)=(m:Int)+1:=wrap64 (by omega) (by omega)
 have e3:Int.tmod (i:Int) 8=m:=by rw [Int.tmod_eq_emod_of_nonneg (by omega)];exact e1
 generalize (⟨#[UInt8.ofNat (97+m)]⟩:ByteArray)=T at hsl ⊢
 clear h hm
 go_enter Tryz.func36,Tryz.ntmps36
 go_wp2
 go_ret
 exact ⟨rfl,rfl⟩
theorem sten14_any (w:World) (i:Nat) (hi:i < 17) (k:Int) (hk0:0≤k) (hk1:k≤65535):Calls Tryz.prog 35 #[.int .i64 (i:Int),.int .u16 k] w (StQ i k w):=by
 obtain ⟨g4,hg4⟩:∃ g4,w.heap.size=g4:=⟨_,rfl⟩
 obtain ⟨s0,hs0⟩:∃ s:ByteArray,(⟨#[UInt8.ofNat (97+i % 8)]⟩:ByteArray)=s:=⟨_,rfl⟩
 obtain ⟨n1,hn1⟩:∃ n:Int,100+(i:Int)=n:=⟨_,rfl⟩
 obtain ⟨n2,hn2⟩:∃ n:Int,(i:Int)+1=n:=⟨_,rfl⟩
 obtain ⟨f,hf⟩:∃ n:Int,Int.tmod k 3=n:=⟨_,rfl⟩
 have hf2:0≤f∧f≤2:=by rw [←hf,Int.tmod_eq_emod_of_nonneg hk0];omega
 obtain ⟨a1,ha1⟩:∃ n:Int,adr 10 9 0 n2=n:=⟨_,rfl⟩
 have CN0:∀ X,Calls Tryz.prog 36 #[.int .i64 (i:Int)] X fun e w'=>e=.returned (.string s0)∧X=w':=fun X=>by rw [←hs0];exact sname14_any X i hi
 have A1:∀ X,Calls Tryz.prog 66 #[.int .u8 10,.int .u8 9,.int .u8 0,.int .u8 n2] X fun e w'=>e=.returned (.int .u32 a1)∧X=w':=fun X=>by rw [←ha1];exact addr_any X 10 9 0 _ (by omega) (by omega) (by omega) (by omega)
 have A2:∀ X,Calls Tryz.prog 66 #[.int .u8 5,.int .u8 5,.int .u8 (i:Int),.int .u8 1] X fun e w'=>e=.returned (.int .u32 (adr 5 5 i 1))∧X=w':=fun X=>addr_any X 5 5 _ 1 (by omega) (by omega) (by omega) (by omega)
 have A3:∀ X,Calls Tryz.prog 66 #[.int .u8 5,.int .u8 5,.int .u8 (i:Int),.int .u8 2] X fun e w'=>e=.returned (.int .u32 (adr 5 5 i 2))∧X=w':=fun X=>addr_any X 5 5 _ 2 (by omega) (by omega) (by omega) (by omega)
 have A4:∀ X,Calls Tryz.prog 66 #[.int .u8 10,.int .u8 0,.int .u8 0,.int .u8 9] X fun e w'=>e=.returned (.int .u32 (adr 10 0 0 9))∧X=w':=fun X=>addr_any X 10 0 0 9 (by omega) (by omega) (by omega) (by omega)
 have A5:∀ X,Calls Tryz.prog 66 #[.int .u8 5,.int .u8 6,.int .u8 (i:Int),.int .u8 9] X fun e w'=>e=.returned (.int .u32 (adr 5 6 i 9))∧X=w':=fun X=>addr_any X 5 6 _ 9 (by omega) (by omega) (by omega) (by omega)
 have A6:∀ X,Calls Tryz.prog 66 #[.int .u8 192,.int .u8 168,.int .u8 0,.int .u8 5] X fun e w'=>e=.returned (.int .u32 (adr 192 168 0 5))∧X=w':=fun X=>addr_any X 192 168 0 5 (by omega) (by omega) (by omega) (by omega)
 have A7:∀ X,Calls Tryz.prog 66 #[.int .u8 8,.int .u8 8,.int .u8 8,.int .u8 8] X fun e w'=>e=.returned (.int .u32 (adr 8 8 8 8))∧X=w':=fun X=>addr_any X 8 8 8 8 (by omega) (by omega) (by omega) (by omega)
 have A8:∀ X,Calls Tryz.prog 66 #[.int .u8 192,.int .u8 168,.int .u8 0,.int .u8 6] X fun e w'=>e=.returned (.int .u32 (adr 192 168 0 6))∧X=w':=fun X=>addr_any X 192 168 0 6 (by omega) (by omega) (by omega) (by omega)
 have e1:IntKind.u8.wrap (i:Int)=i:=wrap8_small _ (by omega) (by omega)
 have e2:IntKind.u32.wrap (i:Int)=i:=wrap32_small _ (by omega) (by omega)
 have e3:IntKind.u32.wrap (100+(i:Int))=n1:=by rw [←hn1];exact wrap32_small _ (by omega) (by omega)
 have e4:IntKind.u8.wrap ((i:Int)+1)=n2:=by rw [←hn2];exact wrap8_small _ (by omega) (by omega)
 have e5:IntKind.i64.wrap f=f:=wrap64 (by omega) (by omega)
 obtain ⟨T0,hT0⟩:∃ T0:Ten,({ ten0 with name:=s0,vni:=n1,key:=[n2,0,0,0,0,0,0,0],vtep:=a1,vmac:=[2,9,(i:Int),0,0,0],host:=[2,7,(i:Int),0,0,0],filter:=f }:Ten)=T0:=⟨_,rfl⟩
 obtain ⟨B0,hB0⟩:∃ B0,(tc { ten0 with name:=s0,vni:=n1,key:=[n2,0,0,0,0,0,0,0],vtep:=a1,vmac:=[2,9,(i:Int),0,0,0],host:=[2,7,(i:Int),0,0,0],filter:=f } nilV nilV nilV).toArray=B0:=⟨_,rfl⟩
 have hB1:(tc T0 nilV nilV nilV).toArray=B0:=by rw [←hT0];exact hB0
 have hl0:TLen T0:=by rw [←hT0];exact ⟨rfl,rfl,rfl⟩
 have hsz:B0.size=33:=by rw [←hB1,List.size_toArray];exact tc_len hl0 _ _ _
 have hone:B0.all (·.oneCell')=true:=by rw [←hB1];exact tc_one3 _ rfl rfl rfl
 have i33:(Tryz.prog.info? 46).map (·.size)=some B0.size:=by rw [hsz];kernel_rfl
 have HT0:Hid (({ ten0 with name:=s0,vni:=n1,key:=[n2,0,0,0,0,0,0,0],vtep:=a1,vmac:=[2,9,(i:Int),0,0,0],host:=[2,7,(i:Int),0,0,0],filter:=f }:Ten)=T0∧TLen T0∧(tc T0 nilV nilV nilV).toArray=B0):=⟨hT0,hl0,hB1⟩
 have hM0:Mem w (w.alloc (.cells tz 46)) [(g4,.cells tz 46)]:=(Mem.nil w).push1 hg4.symm
 have HI:Hid (i < 17∧0≤k∧k≤65535):=⟨hi,hk0,hk1⟩
 have HB0:Hid ((tc { ten0 with name:=s0,vni:=n1,key:=[n2,0,0,0,0,0,0,0],vtep:=a1,vmac:=[2,9,(i:Int),0,0,0],host:=[2,7,(i:Int),0,0,0],filter:=f } nilV nilV nilV).toArray=B0):=hB0
 have HV:Hid ((⟨#[UInt8.ofNat (97+i % 8)]⟩:ByteArray)=s0∧100+(i:Int)=n1∧(i:Int)+1=n2∧adr 10 9 0 n2=a1∧0≤f∧f≤2):=⟨hs0,hn1,hn2,ha1,hf2⟩
 have HF:Hid (f=Int.tmod k 3):=hf.symm
 clear hT0 hB1 hl0 hi hk0 hk1 hs0 hn1 hn2 ha1 hf2 hB0
 go_enter Tryz.func35,Tryz.ntmps35
 go_upto_region 1 with fail
 refine wp_letter (fun X=>Mem w X [(g4,Obj.cells tz 46)]) (by exact hM0) ?_
 intro V0 hM
 try simp only [hg4]
 clear hM0 hg4
 have CN:=CN0 V0
 obtain ⟨gb,hgb⟩:∃ gb,V0.heap.size=gb:=⟨_,rfl⟩
 have hk1:(V0.alloc (.cells tz 46)).heap[gb]? = some (.cells tz 46):=by rw [←hgb];exact heap_alloc_new _ _
 have e9:(V0.alloc (.cells tz 46)).setRow gb B0=V0.alloc (.cells B0 46):=by
  rw [←hgb];exact World.setRow_alloc_new V0 tz B0 46
 have HP:Hid (Tb w ((V0.alloc (.cells tz 46)).setRow gb B0) gb g4 T0):=by
  rw [e9]
  refine ⟨[(gb,.cells ([]++(tc T0 nilV nilV nilV++[])).toArray 46)],⟨HT0.out.2.1,nilV,nilV,nilV,[],[],[],?_,?_,?_,rfl⟩,?_⟩
  ·rw [←HT0.out.1];exact OwB.nil _ _
  ·rw [←HT0.out.1];exact OwB.nil _ _
  ·rw [←HT0.out.1];exact OwB.nil _ _
  ·simp only [List.nil_append,List.append_nil]
   rw [HT0.out.2.2]
   exact hM.front _ hgb.symm
 clear e9 hM CN0
 go_wp2_with fail
 refine CN.mono ?_
 rintro e _ ⟨rfl,rfl⟩
 clear CN
 go_wp2_with fail
 refine (A1 _).mono ?_
 rintro e _ ⟨rfl,rfl⟩
 clear A1
 go_upto_region 3 with (refine wpList_store_row rfl 46 (.tmp 6) (.tmp 27) (by with_reducible rfl) gb B0 (by simp [Act.eval];try exact hgb) (by rw [←HB0.out];rfl) 46 tz hk1 i33 (by rw [hsz];rfl) hone ?_)
 refine wp_letter (fun X=>Tb w X gb g4 T0) (by exact HP.out) ?_
 intro V1 hR
 try simp only [hgb]
 clear HP hgb hk1 hsz hone i33 HB0
 obtain ⟨⟨v1,c23⟩,f23,hT1⟩:=tb_pool hR (adr 5 5 i 1) (gs:=V1.heap.size) rfl
 have HT1:Hid (Tb w ((V1.alloc (.cells #[.int .u32 (adr 5 5 i 1)] 33)).setCell ⟨gb,23,none⟩ (.slice (some ⟨V1.heap.size,0,none⟩) 1 1)) gb g4 { T0 with pool:=[adr 5 5 i 1] }):=hT1
 clear hT1 hR
 go_wp2_with fail
 refine (A2 _).mono ?_
 rintro e _ ⟨rfl,rfl⟩
 go_upto_region 4 with fail
 refine wp_letter (fun X=>Tb w X gb g4 { T0 with pool:=[adr 5 5 i 1] }) (by exact HT1.out) ?_
 intro V2 hR
 have HR:Hid (Tb w V2 gb g4 { T0 with pool:=[adr 5 5 i 1] }):=hR
 clear HT1 hR c23 f23
 obtain ⟨b4,hb4⟩:∃ b,bits .and .u16 k 4=b:=⟨_,rfl⟩
 go_upto_if 34 with fail
 go_cut [] from 7 (fun w'=>∃ p2:Bool,p2=(b4 != 0)∧Hid (Tb w w' gb g4 { T0 with pool:=if p2 then [adr 5 5 i 1,adr 5 5 i 2] else [adr 5 5 i 1] }))
 case first =>
  by_cases hz:b4=0
  ·have hz2:(b4 != 0)=false:=by simp [hz]
   go_wp2_with fail
   go_meet
   case rel=>exact ⟨false,hz2.symm,HR⟩
  ·have hz2:(b4 != 0)=true:=by simp [hz]
   have hd:=HR.out.after ((Below.refl _ _).drew)
   obtain ⟨pa,pm,pc,p0,p2,v4,V4,hrun,⟨qa,qm,qc,rfl⟩,⟨v0,cv0⟩,fr4,hH⟩:=tb_more hd (by show ([adr 5 5 i 1]:List Int).length≤_;simp) (adr 5 5 i 2)
   have HH:Hid (Tb w (V4.setCell ⟨gb,23,none⟩ (.slice qa qm qc)) gb g4 { T0 with pool:=[adr 5 5 i 1,adr 5 5 i 2] }):=hH qa qm qc rfl
   have p3:(V2.alloc (.cells #[.int .u32 (adr 5 5 i 2)] 33)).cell? ⟨gb,23,none⟩=some (.slice pa pm pc):=p2
   clear hH hd HR
   go_upto_region 5 with fail
   refine wp_region_held_drew (S:=fun _=>True) (by kernel_rfl) trivial (fun hHeld=>?_)
   refine tkq 0 rfl (v:=?_) (Or.inl ⟨by rfl,?qay0⟩) ?_
   case qay0=>intro w hSw;(try dsimp only at hSw);go_simp;all_goals with_reducible rfl
   try simp only [sqa,sqb,sqc,Act.put,sqd,sqe,sqf]
   refine tkq 2 rfl (v:=?_) (Or.inl ⟨by rfl,?qay2⟩) ?_
   case qay2=>intro w hSw;(try dsimp only at hSw);go_simp;all_goals with_reducible rfl
   try simp only [sqa,sqb,sqc,Act.put,sqd,sqe,sqf]
   refine wpAnyH_ready (rs:=[1,3]) (by kernel_rfl) (by simp) ?_
   refine AllReadyH.cons rfl (fun KK hK=>?_) (AllReadyH.cons rfl (fun KK hK=>?_) AllReadyH.nil)
   ·go_simp
    refine hK.out _ _ trivial (fun hHeld=>?_)
    clear hK KK
    try simp only [sqa,sqb,sqc,Act.put,sqd,sqe,sqf]
    refine wpAnyH_ready (rs:=[3]) (by kernel_rfl) (by simp) ?_
    refine AllReadyH.cons rfl (fun KK hK=>?_) AllReadyH.nil
    go_simp
    with_reducible refine (A3 _).mono ?_
    rintro e _ ⟨rfl,rfl⟩
    try go_wp2_with fail
    refine hK.out _ _ trivial (fun hHeld=>?_)
    clear hK KK
    try simp only [sqa,sqb,sqc,Act.put,sqd,sqe,sqf]
    refine wpAnyH_ready (rs:=[4]) (by kernel_rfl) (by simp) ?_
    refine AllReadyH.cons rfl (fun KK hK=>?_) AllReadyH.nil
    go_simp
    refine hK.out _ _ trivial (fun hHeld=>?_)
    clear hK KK
    try simp only [sqa,sqb,sqc,Act.put,sqd,sqe,sqf]
    refine wpAnyH_ready (rs:=[5]) (by kernel_rfl) (by simp) ?_
    refine AllReadyH.cons rfl (fun KK hK=>?_) AllReadyH.nil
    refine step_append_run rfl (.tmp 36) (.tmp 39) 43 43 rfl (by simp [Act.eval]) (by simp [Act.eval]) hrun ?_
    refine hK.out _ _ trivial (fun hHeld=>?_)
    clear hK KK
    try simp only [sqa,sqb,sqc,Act.put,sqd,sqe,sqf]
    refine tkq 6 rfl (v:=?_) (Or.inl ⟨by rfl,?qbzy6⟩) ?_
    case qbzy6=>intro w hSw;(try dsimp only at hSw);go_simp;all_goals with_reducible rfl
    try simp only [sqa,sqb,sqc,Act.put,sqd,sqe,sqf]
    refine wpAnyH_ready (rs:=[7]) (by kernel_rfl) (by simp) ?_
    refine AllReadyH.cons rfl (fun KK hK=>?_) AllReadyH.nil
    go_simp
    refine hK.out _ _ trivial (fun hHeld=>?_)
    clear hK KK
    try simp only [sqa,sqb,sqc,Act.put,sqd,sqe,sqf]
    refine wpAnyH_done (by kernel_rfl) ?_ _
    go_wp2_with fail
    go_meet
    case rel=>exact ⟨true,hz2.symm,HH⟩
   ·go_simp
    with_reducible refine (A3 _).mono ?_
    rintro e _ ⟨rfl,rfl⟩
    try go_wp2_with fail
    refine hK.out _ _ trivial (fun hHeld=>?_)
    clear hK KK
    try simp only [sqa,sqb,sqc,Act.put,sqd,sqe,sqf]
    refine wpAnyH_ready (rs:=[1,4]) (by kernel_rfl) (by simp) ?_
    refine AllReadyH.cons rfl (fun KK hK=>?_) (AllReadyH.cons rfl (fun KK hK=>?_) AllReadyH.nil)
    ·go_simp
     refine hK.out _ _ trivial (fun hHeld=>?_)
     clear hK KK
     try simp only [sqa,sqb,sqc,Act.put,sqd,sqe,sqf]
     refine wpAnyH_ready (rs:=[4]) (by kernel_rfl) (by simp) ?_
     refine AllReadyH.cons rfl (fun KK hK=>?_) AllReadyH.nil
     go_simp
     refine hK.out _ _ trivial (fun hHeld=>?_)
     clear hK KK
     try simp only [sqa,sqb,sqc,Act.put,sqd,sqe,sqf]
     refine wpAnyH_ready (rs:=[5]) (by kernel_rfl) (by simp) ?_
     refine AllReadyH.cons rfl (fun KK hK=>?_) AllReadyH.nil
     refine step_append_run rfl (.tmp 36) (.tmp 39) 43 43 rfl (by simp [Act.eval]) (by simp [Act.eval]) hrun ?_
     refine hK.out _ _ trivial (fun hHeld=>?_)
     clear hK KK
     try simp only [sqa,sqb,sqc,Act.put,sqd,sqe,sqf]
     refine tkq 6 rfl (v:=?_) (Or.inl ⟨by rfl,?qczy6⟩) ?_
     case qczy6=>intro w hSw;(try dsimp only at hSw);go_simp;all_goals with_reducible rfl
     try simp only [sqa,sqb,sqc,Act.put,sqd,sqe,sqf]
     refine wpAnyH_ready (rs:=[7]) (by kernel_rfl) (by simp) ?_
     refine AllReadyH.cons rfl (fun KK hK=>?_) AllReadyH.nil
     go_simp
     refine hK.out _ _ trivial (fun hHeld=>?_)
     clear hK KK
     try simp only [sqa,sqb,sqc,Act.put,sqd,sqe,sqf]
     refine wpAnyH_done (by kernel_rfl) ?_ _
     go_wp2_with fail
     go_meet
     case rel=>exact ⟨true,hz2.symm,HH⟩
    ·go_simp
     refine hK.out _ _ trivial (fun hHeld=>?_)
     clear hK KK
     try simp only [sqa,sqb,sqc,Act.put,sqd,sqe,sqf]
     refine wpAnyH_ready (rs:=[1]) (by kernel_rfl) (by simp) ?_
     refine AllReadyH.cons rfl (fun KK hK=>?_) AllReadyH.nil
     go_simp
     refine hK.out _ _ trivial (fun hHeld=>?_)
     clear hK KK
     try simp only [sqa,sqb,sqc,Act.put,sqd,sqe,sqf]
     refine wpAnyH_ready (rs:=[5]) (by kernel_rfl) (by simp) ?_
     refine AllReadyH.cons rfl (fun KK hK=>?_) AllReadyH.nil
     refine step_append_run rfl (.tmp 36) (.tmp 39) 43 43 rfl (by simp [Act.eval]) (by simp [Act.eval]) hrun ?_
     refine hK.out _ _ trivial (fun hHeld=>?_)
     clear hK KK
     try simp only [sqa,sqb,sqc,Act.put,sqd,sqe,sqf]
     refine tkq 6 rfl (v:=?_) (Or.inl ⟨by rfl,?qdzy6⟩) ?_
     case qdzy6=>intro w hSw;(try dsimp only at hSw);go_simp;all_goals with_reducible rfl
     try simp only [sqa,sqb,sqc,Act.put,sqd,sqe,sqf]
     refine wpAnyH_ready (rs:=[7]) (by kernel_rfl) (by simp) ?_
     refine AllReadyH.cons rfl (fun KK hK=>?_) AllReadyH.nil
     go_simp
     refine hK.out _ _ trivial (fun hHeld=>?_)
     clear hK KK
     try simp only [sqa,sqb,sqc,Act.put,sqd,sqe,sqf]
     refine wpAnyH_done (by kernel_rfl) ?_ _
     go_wp2_with fail
     go_meet
     case rel=>exact ⟨true,hz2.symm,HH⟩
 case rest =>
  obtain ⟨p2,hp2,HR3⟩:=hcut
  have HP2:Hid (p2=(bits .and .u16 k 4 != 0)):=by rw [hb4];exact hp2
  clear HR hb4 hp2
  obtain ⟨T2,hT2⟩:∃ T2:Ten,{ T0 with pool:=if p2 then [adr 5 5 i 1,adr 5 5 i 2] else [adr 5 5 i 1] }=T2:=⟨_,rfl⟩
  rw [hT2] at HR3
  have HX2:Hid ({ T0 with pool:=if p2 then [adr 5 5 i 1,adr 5 5 i 2] else [adr 5 5 i 1] }=T2):=hT2
  obtain ⟨r1,hr1⟩:∃ r,bits .and .u16 (k / 8) 7=r:=⟨_,rfl⟩
  have hr1b:=and_low (k:=.u16) 16 (by decide) (fun n h0 h1=>wrap16_small n h0 (by omega)) 3 (by decide) 7 (k / 8) (by decide) (by have:=HI.out;omega) (by have:=HI.out;omega)
  rw [hr1] at hr1b
  obtain ⟨h1,hh1⟩:∃ h,1024+r1=h:=⟨_,rfl⟩
  have e6:IntKind.u16.wrap (1024+r1)=h1:=by rw [←hh1];exact wrap16_small _ (by omega) (by omega)
  obtain ⟨⟨v24,c24⟩,f24,hQ⟩:=tb_set HR3.out (fun L hL=>tat_lo hL 1024)
  obtain ⟨⟨v25,c25⟩,f25,hQ2⟩:=tb_set hQ (fun L hL=>tat_hi hL h1)
  have HQ:Hid (Tb w ((wc.setCell ⟨gb,24,none⟩ (.int .u16 1024)).setCell ⟨gb,25,none⟩ (.int .u16 h1)) gb g4 { T2 with lo:=1024,hi:=h1 }):=hQ2
  have HH1:Hid (1024≤h1∧h1≤9999):=by rw [←hh1];exact ⟨by omega,by omega⟩
  have HH2:Hid (h1=1024+bits .and .u16 (k / 8) 7):=by rw [hr1];exact hh1.symm
  clear hQ hQ2 HR3 hT2 hh1 hr1b
  go_upto_region 7 with fail
  refine wp_letter (fun X=>Tb w X gb g4 { T2 with lo:=1024,hi:=h1 }) (by exact HQ.out) ?_
  intro V3 hR
  have HR:Hid (Tb w V3 gb g4 { T2 with lo:=1024,hi:=h1 }):=hR
  clear HQ hR c24 c25 f24 f25 e6 hr1
  obtain ⟨b6,hb6⟩:∃ b,bits .and .u16 k 64=b:=⟨_,rfl⟩
  go_upto_if 50 with fail
  go_cut [] from 7 (fun w'=>∃ lo hi:Int,(1≤lo∧lo≤hi)∧(0≤hi∧hi≤9999)∧(lo=qlo k∧hi=qhi k)∧Hid (Tb w w' gb g4 { T2 with lo:=lo,hi:=hi }))
  case first =>
   by_cases hz:b6=0
   ·have hz2:(b6 != 0)=false:=by simp [hz]
    go_wp2_with fail
    go_meet
    case rel=>exact ⟨1024,h1,⟨by omega,HH1.out.1⟩,⟨by have:=HH1.out;omega,HH1.out.2⟩,⟨by rw [qlo,hb6,hz2];rfl,by rw [qhi,hb6,hz2];exact HH2.out⟩,HR⟩
   ·have hz2:(b6 != 0)=true:=by simp [hz]
    obtain ⟨⟨v24,c24⟩,f24,hQ⟩:=tb_set HR.out (fun L hL=>tat_lo hL 1020)
    obtain ⟨⟨v25,c25⟩,f25,hQ2⟩:=tb_set hQ (fun L hL=>tat_hi hL 1030)
    have HQ:Hid (Tb w ((V3.setCell ⟨gb,24,none⟩ (.int .u16 1020)).setCell ⟨gb,25,none⟩ (.int .u16 1030)) gb g4 { T2 with lo:=1020,hi:=1030 }):=hQ2
    clear hQ hQ2 HR
    go_wp2_with fail
    go_meet
    case rel=>exact ⟨1020,1030,by omega,by omega,⟨by rw [qlo,hb6,hz2];rfl,by rw [qhi,hb6,hz2];rfl⟩,HQ⟩
  case rest =>
   obtain ⟨lo,hi,rlo,rhi,rq,HR4⟩:=hcut
   have HRQ:Hid (lo=qlo k∧hi=qhi k):=rq
   clear HR hb6
   have HLH:Hid ((1≤lo∧lo≤hi)∧(0≤hi∧hi≤9999)):=⟨rlo,rhi⟩
   obtain ⟨T3,hT3⟩:∃ T3:Ten,{ T2 with lo:=lo,hi:=hi }=T3:=⟨_,rfl⟩
   rw [hT3] at HR4
   have HX3:Hid ({ T2 with lo:=lo,hi:=hi }=T3):=hT3
   clear hT3 rlo rhi rq
   obtain ⟨b7,hb7⟩:∃ b,bits .and .u16 k 128=b:=⟨_,rfl⟩
   go_upto_if 55 with fail
   go_cut [] from 7 (fun w'=>∃ st:Bool,st=(b7 != 0)∧Hid (Tb w w' gb g4 { T3 with stat:=if st then [(adr 10 0 0 9,adr 5 6 i 9)] else T3.stat }))
   case first =>
    by_cases hz:b7=0
    ·have hz2:(b7 != 0)=false:=by simp [hz]
     go_wp2_with fail
     go_meet
     case rel=>exact ⟨false,hz2.symm,HR4⟩
    ·have hz2:(b7 != 0)=true:=by simp [hz]
     obtain ⟨⟨v27,c27⟩,f27,hQ⟩:=tb_stat HR4.out (adr 10 0 0 9) (adr 5 6 i 9) (gs:=wc.heap.size) rfl
     have HQ:Hid (Tb w ((wc.alloc (.cells #[.int .u32 (adr 10 0 0 9),.int .u32 (adr 5 6 i 9)] 122)).setCell ⟨gb,27,none⟩ (.slice (some ⟨wc.heap.size,0,none⟩) 1 1)) gb g4 { T3 with stat:=[(adr 10 0 0 9,adr 5 6 i 9)] }):=hQ
     clear hQ HR4
     go_wp2_with fail
     refine (A4 _).mono ?_
     rintro e _ ⟨rfl,rfl⟩
     go_wp2_with fail
     refine (A5 _).mono ?_
     rintro e _ ⟨rfl,rfl⟩
     go_wp2_with fail
     go_meet
     case rel=>exact ⟨true,hz2.symm,HQ⟩
   case rest =>
    obtain ⟨st,hst,HR5⟩:=hcut
    have HST:Hid (st=(bits .and .u16 k 128 != 0)):=by rw [hb7];exact hst
    clear HR4 hb7 hst
    obtain ⟨T4,hT4⟩:∃ T4:Ten,{ T3 with stat:=if st then [(adr 10 0 0 9,adr 5 6 i 9)] else T3.stat }=T4:=⟨_,rfl⟩
    rw [hT4] at HR5
    have HX4:Hid ({ T3 with stat:=if st then [(adr 10 0 0 9,adr 5 6 i 9)] else T3.stat }=T4):=hT4
    clear hT4
    obtain ⟨b8,hb8⟩:∃ b,bits .and .u16 k 256=b:=⟨_,rfl⟩
    go_upto_if 64 with fail
    go_cut [] from 7 (fun w'=>∃ tw:Bool,tw=(b8 != 0)∧Hid (Tb w w' gb g4 { T4 with twi:=if tw then [(adr 192 168 0 5,adr 8 8 8 8),(adr 192 168 0 6,adr 5 5 i 1)] else T4.twi }))
    case first =>
     by_cases hz:b8=0
     ·have hz2:(b8 != 0)=false:=by simp [hz]
      go_wp2_with fail
      go_meet
      case rel=>exact ⟨false,hz2.symm,HR5⟩
     ·have hz2:(b8 != 0)=true:=by simp [hz]
      obtain ⟨⟨v28,c28⟩,f28,hQ⟩:=tb_twi HR5.out (adr 192 168 0 5) (adr 8 8 8 8) (adr 192 168 0 6) (adr 5 5 i 1) (gs:=wc.heap.size) rfl
      have HQ:Hid (Tb w ((wc.alloc (.cells #[.int .u32 (adr 192 168 0 5),.int .u32 (adr 8 8 8 8),.int .u32 (adr 192 168 0 6),.int .u32 (adr 5 5 i 1)] 122)).setCell ⟨gb,28,none⟩ (.slice (some ⟨wc.heap.size,0,none⟩) 2 2)) gb g4 { T4 with twi:=[(adr 192 168 0 5,adr 8 8 8 8),(adr 192 168 0 6,adr 5 5 i 1)] }):=hQ
      clear hQ HR5
      go_wp2_with fail
      refine (A6 _).mono ?_
      rintro e _ ⟨rfl,rfl⟩
      go_wp2_with fail
      refine (A7 _).mono ?_
      rintro e _ ⟨rfl,rfl⟩
      go_wp2_with fail
      refine (A8 _).mono ?_
      rintro e _ ⟨rfl,rfl⟩
      go_wp2_with fail
      refine (A2 _).mono ?_
      rintro e _ ⟨rfl,rfl⟩
      go_wp2_with fail
      go_meet
      case rel=>exact ⟨true,hz2.symm,HQ⟩
    case rest =>
     obtain ⟨tw,htw,HR6⟩:=hcut
     have HTW:Hid (tw=(bits .and .u16 k 256 != 0)):=by rw [hb8];exact htw
     clear HR5 hb8 htw
     obtain ⟨T5,hT5⟩:∃ T5:Ten,{ T4 with twi:=if tw then [(adr 192 168 0 5,adr 8 8 8 8),(adr 192 168 0 6,adr 5 5 i 1)] else T4.twi }=T5:=⟨_,rfl⟩
     rw [hT5] at HR6
     have HX5:Hid ({ T4 with twi:=if tw then [(adr 192 168 0 5,adr 8 8 8 8),(adr 192 168 0 6,adr 5 5 i 1)] else T4.twi }=T5):=hT5
     clear hT5
     obtain ⟨q1,hq1⟩:∃ r,bits .and .i64 (k / 512) 7=r:=⟨_,rfl⟩
     have bq1:=and_low (k:=.i64) 63 (by decide) (fun n h0 h1=>wrap64 (by omega) (by omega)) 3 (by decide) 7 (k / 512) (by decide) (by have:=HI.out;omega) (by have:=HI.out;omega)
     rw [hq1] at bq1
     obtain ⟨q2,hq2⟩:∃ r,bits .and .i64 (k / 4096) 3=r:=⟨_,rfl⟩
     have bq2:=and_low (k:=.i64) 63 (by decide) (fun n h0 h1=>wrap64 (by omega) (by omega)) 2 (by decide) 3 (k / 4096) (by decide) (by have:=HI.out;omega) (by have:=HI.out;omega)
     rw [hq2] at bq2
     obtain ⟨q3,hq3⟩:∃ r,bits .and .u32 (k / 16384) 3=r:=⟨_,rfl⟩
     have bq3:=and_low (k:=.u32) 32 (by decide) (fun n h0 h1=>wrap32_small n h0 (by omega)) 2 (by decide) 3 (k / 16384) (by decide) (by have:=HI.out;omega) (by have:=HI.out;omega)
     rw [hq3] at bq3
     obtain ⟨q4,hq4⟩:∃ r,bits .and .u32 (k / 8192) 7=r:=⟨_,rfl⟩
     have bq4:=and_low (k:=.u32) 32 (by decide) (fun n h0 h1=>wrap32_small n h0 (by omega)) 3 (by decide) 7 (k / 8192) (by decide) (by have:=HI.out;omega) (by have:=HI.out;omega)
     rw [hq4] at bq4
     have w1:IntKind.i64.wrap (k / 512)=k / 512:=wrap64 (by have:=HI.out;omega) (by have:=HI.out;omega)
     have w2:IntKind.i64.wrap (k / 4096)=k / 4096:=wrap64 (by have:=HI.out;omega) (by have:=HI.out;omega)
     have w3:IntKind.u32.wrap (k / 16384)=k / 16384:=wrap32_small _ (by have:=HI.out;omega) (by have:=HI.out;omega)
     have w4:IntKind.u32.wrap (k / 8192)=k / 8192:=wrap32_small _ (by have:=HI.out;omega) (by have:=HI.out;omega)
     obtain ⟨s1,hs1⟩:∃ r,1+q1=r:=⟨_,rfl⟩
     obtain ⟨s2,hs2⟩:∃ r,1+q2=r:=⟨_,rfl⟩
     obtain ⟨s4,hs4⟩:∃ r,3+q4=r:=⟨_,rfl⟩
     have x1:IntKind.i64.wrap (1+q1)=s1:=by rw [←hs1];exact wrap64 (by omega) (by omega)
     have x2:IntKind.i64.wrap (1+q2)=s2:=by rw [←hs2];exact wrap64 (by omega) (by omega)
     have x4:IntKind.u32.wrap (3+q4)=s4:=by rw [←hs4];exact wrap32_small _ (by omega) (by omega)
     have HRG:Hid (SRq k lo hi f s1 s2 q3 s4):=⟨⟨HRQ.out.1,HRQ.out.2,HF.out,by rw [hq1];exact hs1.symm,by rw [hq2];exact hs2.symm,hq3.symm,by rw [hq4];exact hs4.symm⟩,HLH.out.1,HLH.out.2,HV.out.2.2.2.2,by omega,by omega,by omega,by omega⟩
     clear hs1 hs2 hs4 bq1 bq2 bq3 bq4
     obtain ⟨⟨v29,c29⟩,f29,hQ⟩:=tb_set HR6.out (fun L hL=>tat_sess hL s1)
     have HQ:Hid (Tb w (wc.setCell ⟨gb,29,none⟩ (.int .i64 s1)) gb g4 { T5 with sess:=s1 }):=hQ
     clear hQ HR6
     go_upto_region 14 with fail
     refine wp_letter (fun X=>Tb w X gb g4 { T5 with sess:=s1 }) (by exact HQ.out) ?_
     intro V4 hR
     clear HQ c29 f29
     obtain ⟨⟨v30,c30⟩,f30,hQ⟩:=tb_set hR (fun L hL=>tat_queue hL s2)
     have HQ:Hid (Tb w (V4.setCell ⟨gb,30,none⟩ (.int .i64 s2)) gb g4 { T5 with sess:=s1,queue:=s2 }):=hQ
     clear hQ hR
     go_upto_region 15 with fail
     refine wp_letter (fun X=>Tb w X gb g4 { T5 with sess:=s1,queue:=s2 }) (by exact HQ.out) ?_
     intro V5 hR
     clear HQ c30 f30
     obtain ⟨⟨v31,c31⟩,f31,hQ⟩:=tb_set hR (fun L hL=>tat_rate hL q3)
     have HQ:Hid (Tb w (V5.setCell ⟨gb,31,none⟩ (.int .u32 q3)) gb g4 { T5 with sess:=s1,queue:=s2,rate:=q3 }):=hQ
     clear hQ hR
     go_upto_region 16 with fail
     refine wp_letter (fun X=>Tb w X gb g4 { T5 with sess:=s1,queue:=s2,rate:=q3 }) (by exact HQ.out) ?_
     intro V6 hR
     clear HQ c31 f31
     obtain ⟨⟨v32,c32⟩,f32,hQ⟩:=tb_set hR (fun L hL=>tat_burst hL s4)
     have HQ:Hid (Tb w (V6.setCell ⟨gb,32,none⟩ (.int .u32 s4)) gb g4 { T5 with sess:=s1,queue:=s2,rate:=q3,burst:=s4 }):=hQ
     clear hQ hR
     go_upto_region 17 with fail
     refine wp_letter (fun X=>Tb w X gb g4 { T5 with sess:=s1,queue:=s2,rate:=q3,burst:=s4 }) (by exact HQ.out) ?_
     intro V7 hR
     clear HQ c32 f32 hq1 hq2 hq3 hq4 w1 w2 w3 w4 x1 x2 x4
     obtain ⟨T6,hT6⟩:∃ T6:Ten,{ T5 with sess:=s1,queue:=s2,rate:=q3,burst:=s4 }=T6:=⟨_,rfl⟩
     rw [hT6] at hR
     have hS:SeatQ i k T6:=by
      refine ⟨lo,hi,f,s1,s2,q3,s4,?_,HRG.out⟩
      rw [←HP2.out,← HST.out,← HTW.out]
      obtain ⟨z1,z2,z3,z4,-⟩:=HV.out
      rw [←hT6,← HX5.out,← HX4.out,← HX3.out,← HX2.out,← HT0.out.1,← z1,← z2,← z4,← z3]
      rfl
     obtain ⟨L,⟨hlen,p,s,q,B1,B2,B3,k1,k2,k3,rfl⟩,hM⟩:=hR
     simp only [List.nil_append,List.append_nil] at hM
     have hsz:(tc T6 p s q).toArray.size=33:=by rw [List.size_toArray];exact tc_len hlen _ _ _
     have hone:(tc T6 p s q).toArray.all (·.oneCell')=true:=tc_one3 _ (owb_one k1) (owb_one k2) (owb_one k3)
     obtain ⟨A,hA⟩:∃ A,(tc T6 p s q).toArray=A:=⟨_,rfl⟩
     rw [hA] at hsz hone hM
     have i33:(Tryz.prog.info? 46).map (·.size)=some A.size:=by rw [hsz];kernel_rfl
     have hM2:Mem w V7 ((gb,.cells A 46)::(g4,.cells tz 46)::(B1++(B2++B3))):=hM.perm (by
  classical
  rw [List.perm_iff_count]
  intro z
  simp only [List.count_append,List.count_cons,List.count_nil]
  omega)
     have k4:=hM2.get 0 rfl
     have k5:=hM2.get 1 rfl
     have hM3:=hM2.wrote 1 rfl (wrote_setRow V7 g4 _ A _ k5)
     have HQ:Hid ((V7.setRow g4 A).heap[g4]? = some (.cells A 46)∧StQ i k w (.returned (.agg A)) (V7.setRow g4 A)):=by
      refine ⟨hM3.get 1 rfl,T6,p,s,q,B1++(B2++B3),by rw [hA],hS,⟨hlen,B1,B2,B3,rfl,k1,k2,k3⟩,hM3.sub.sub⟩
     clear hM hM2 hM3 hS k1 k2 k3 hA hT6 HX2 HX3 HX4 HX5 HT0 HV HRG HLH HP2 HST HTW HF HRQ HH1 HH2
     go_wp2_with (first | (refine wpList_load_row rfl 46 (.tmp 6) (by with_reducible rfl) gb (by first | rfl | simp [Act.eval]) 46 A (0,0) _ k4 Tryz.underlying46 rfl i33 ?_) | (refine wpList_store_row rfl 46 (.tmp 4) (.tmp 97) (by with_reducible rfl) g4 A (by first | rfl | simp [Act.eval]) (by first | rfl | simp [Act.eval]) 46 tz k5 i33 (by rw [hsz];rfl) hone ?_))
     refine bodyPost_ret (v:=.agg A) ?_ rfl HQ.out.2
     exact results_cell_row (p:=4) (ty:=46) rfl _ _ g4 46 _ (0,0) _ rfl HQ.out.1 Tryz.underlying46 rfl i33
end Go.Proofs.YtdigofgjhaakmaaGreatDoor
namespace Go.Proofs.YtdigofgjhaakmaaGreatDoor
open Go.RowKit
open Sm
open Cf
open Df
namespace Df
end Df
end Go.Proofs.YtdigofgjhaakmaaGreatDoor
namespace Go.Proofs.YtdigofgjhaakmaaGreatDoor
open Go.RowKit
open Sm
open Cf
open Df
open Va
abbrev mT:TypeId:=41
def mA (ver:Int) (c:Cgf) (u:Value) (t:Cgf) (ut:Value) (op:Bool):List Value:=.int .u64 ver::(cc c u++(cc t ut++[.bool op]))
abbrev bxM (pm:Nat) (ver:Int) (c:Cgf) (u:Value) (t:Cgf) (ut:Value) (op:Bool):Nat×Obj:=(pm,.cells (mA ver c u t ut op).toArray mT (0,0))
section
variable {ver:Int} {c t:Cgf} {u ut:Value} {op:Bool}
variable {w W:World} {pm:Nat} {L:List (Nat×Obj)}
theorem ccA {c:Cgf} (hl:CLen c) {u:Value} (hu:u.oneCell'=true):∃ A,Hid ((cc c u).toArray=A)∧A.size=29∧A.all (·.oneCell')=true∧(Tryz.prog.info? 39).map (·.size)=some A.size∧(Tryz.prog.info? 39).map (·.size)=some (cc c u).length:=by
 refine ⟨_,rfl,?_,cc_one c hu,?_,?_⟩
 ·rw [List.size_toArray];exact cc_len hl _
 ·rw [List.size_toArray,cc_len hl];kernel_rfl
 ·rw [cc_len hl];kernel_rfl
end
end Go.Proofs.YtdigofgjhaakmaaGreatDoor
namespace Go.Proofs.YtdigofgjhaakmaaGreatDoor
open Go.RowKit
open La
open Ad
theorem LnS.len {w V:World} {g:Nat} {lp:List Value} {lt:TypeId} {σ:Sg} {W K:List (Nat×Obj)} (h:LnS w V g lp lt σ W K):∃ a c,V.cell? ⟨g,0,none⟩=some (.slice a σ.ws.length c):=by
 obtain ⟨-,-,v,⟨a,c,rfl,-⟩,hM⟩:=h
 exact ⟨a,c,hM.cell 0 rfl 0⟩
end Go.Proofs.YtdigofgjhaakmaaGreatDoor
