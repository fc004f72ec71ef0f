/-
  A store's Commit.
-/
import Derived.Test.YtdigofgjhaakmaaGreatDoorW38
import Derived.Test.YtdigofgjhaakmaaGreatDoorW21
import Derived.Test.YtdigofgjhaakmaaGreatDoorW31
import Derived.Test.YtdigofgjhaakmaaGreatDoorW32
import Derived.Test.YtdigofgjhaakmaaGreatDoorW01
set_option linter.unusedVariables false
set_option linter.unusedSimpArgs false
set_option maxRecDepth 20000
set_option maxHeartbeats 40000000
namespace Go.Proofs.YtdigofgjhaakmaaGreatDoor
open Go.RowKit
open Sm
open Cf
open Df
open Va
theorem s0A_lit:s0A=#[.int .u64 0,.int .u32 0,.int .u8 0,.int .u8 0,.int .u8 0,.int .u8 0,.int .u8 0,.int .u8 0,.int .u8 0,.int .u8 0,.int .u8 0,.int .u8 0,.int .u8 0,.int .u8 0,.int .u8 0,.int .u8 0,.int .u8 0,.int .u8 0,.int .u8 0,.int .u8 0,.int .u8 0,.int .u8 0,.int .u8 0,.int .u8 0,.int .u8 0,.int .u8 0,.int .u8 0,.int .u8 0,.int .u32 0,.slice none 0 0]:=by kernel_rfl
theorem fold_s {c:Cgf} (hl:CLen c) (u:Value) (x:Int):Array.foldl (fun cs (y:Value×Nat)=>cs.setIfInBounds (1+y.snd) y.fst) #[.int .u64 x,.int .u32 0,.int .u8 0,.int .u8 0,.int .u8 0,.int .u8 0,.int .u8 0,.int .u8 0,.int .u8 0,.int .u8 0,.int .u8 0,.int .u8 0,.int .u8 0,.int .u8 0,.int .u8 0,.int .u8 0,.int .u8 0,.int .u8 0,.int .u8 0,.int .u8 0,.int .u8 0,.int .u8 0,.int .u8 0,.int .u8 0,.int .u8 0,.int .u8 0,.int .u8 0,.int .u8 0,.int .u32 0,.slice none 0 0] (cc c u).toArray.zipIdx 0 29=(Value.int .u64 x::cc c u).toArray:=by
 obtain ⟨ip,m1,m2,m3,ky,dr,te⟩:=c
 obtain ⟨h1,h2,h3,h4⟩:=hl
 obtain ⟨a,b,c,d,f,g,x,y,rfl⟩:=eight8 h4
 obtain ⟨a1,b1,c1,d1,f1,g1,rfl⟩:=six6 h1
 obtain ⟨a2,b2,c2,d2,f2,g2,rfl⟩:=six6 h2
 obtain ⟨a3,b3,c3,d3,f3,g3,rfl⟩:=six6 h3
 kernel_rfl
section
variable {w W:World} {ps pl:Nat} {ver:Int} {c:Cgf} {u:Value} {sp:Option Addr} {dn:Bool} {L:List (Nat×Obj)}
theorem fnz_in {l:List Int} (h:∀ x∈l,x=0∨(90≤x∧x≤96)):fnz l=0∨(90≤fnz l∧fnz l≤96):=by
 induction l with
 | nil=>exact Or.inl rfl
 | cons x r ih =>
  rw [fnz_cons]
  by_cases h0:x=0
  ·rw [if_pos h0];exact ih fun y hy=>h y (List.mem_cons_of_mem _ hy)
  ·rw [if_neg h0];rcases h x (by simp) with e | e
   ·exact absurd e h0
   ·exact Or.inr e
theorem ul_in (e:Int) (h:90≤e∧e≤96) (b:Bool):ul e b=0∨(90≤ul e b∧ul e b≤96):=by cases b <;> simp [ul] <;> omega
theorem wn_in (e:Int) (h:90≤e∧e≤96) (b:Bool):wn e b=0∨(90≤wn e b∧wn e b≤96):=ul_in e h _
theorem tchk_in (t:Ten):tchk t=0∨(90≤tchk t∧tchk t≤96):=by
 apply fnz_in
 intro x hx
 simp only [Va.trs,List.mem_cons,List.not_mem_nil,or_false] at hx
 rcases hx with rfl | rfl | rfl | rfl | rfl | rfl | rfl | rfl | rfl | rfl | rfl | rfl | rfl | rfl | rfl | rfl | rfl <;> first | exact ul_in _ (by decide) _ | exact wn_in _ (by decide) _
theorem chk_in (c:Cgf):chk c=0∨(90≤chk c∧chk c≤96):=by
 unfold chk
 by_cases h0:fnz (grs c)=0
 ·rw [if_pos h0]
  unfold pfrom
  apply fnz_in
  intro x hx
  obtain ⟨i,-,rfl⟩:=List.mem_map.1 hx
  apply fnz_in
  intro y hy
  simp only [Va.prs,List.mem_cons,List.not_mem_nil,or_false] at hy
  rcases hy with rfl | rfl | rfl | rfl <;> first | exact tchk_in _ | exact ul_in _ (by decide) _ | exact wn_in _ (by decide) _
 ·rw [if_neg h0]
  apply fnz_in
  intro x hx
  simp only [grs,List.mem_cons,List.not_mem_nil,or_false] at hx
  rcases hx with rfl | rfl | rfl <;> exact ul_in _ (by decide) _
theorem TSm_lig {c:Cgf} (h:Lig c):∀ t∈c.ten,TSm t:=fun t ht=>by
 obtain ⟨a,b,c,d⟩:=(h.ten t ht).2.2
 exact ⟨by omega,by omega,by omega,by omega⟩
def CmQ (w W:World) (p h m N:Nat) (D:Dk) (B:Int) (all:List (List Int)) (ps pl:Nat) (ver:Int) (c:Cgf) (u:Value) (c1:Cgf) (u1:Value) (L:List (Nat×Obj)) (n er:Int) (W':World):Prop :=
 (n=0∧er≠0∧er≠42∧er=(if chk c1=0 then if room N m < (rcd16 (ver+1) c1).length then 51 else 0 else chk c1)∧Below W.heap.size W W') ∨
 (chk c1=0∧(rcd16 (ver+1) c1).length≤room N m∧n=ver+1∧er=0∧∃ D',D'.dead=false∧(D.set=false→D'=D)∧Sy w W' p h m N D' pl (B+1) (all++[rcd16 (ver+1) c1]) (bxS ps pl (ver+1) c1 u1 none false::L)) ∨
 (chk c1=0∧(rcd16 (ver+1) c1).length≤room N m∧n=0∧er=42∧D.set=true∧So w W' p h m N gone pl (bxS ps pl ver c u none true::L)∧(Sd w W' p h m N gone (B+1) all (bxS ps pl ver c u none true::L)∨Sd w W' p h m N gone (B+1) (all++[rcd16 (ver+1) c1]) (bxS ps pl ver c u none true::L)))
theorem Lig.tlen {c:Cgf} (h:Lig c):∀ t∈c.ten,TLen t:=fun t ht=>(h.ten t ht).1.len
section
variable {p h m N:Nat} {D:Dk} {B:Int} {all:List (List Int)}
theorem So.mem (H:So w W p h m N D pl L):Mem w W L:=by
 obtain ⟨R,hM,-⟩:=H.frame
 exact ⟨hM.below,fun x hx=>hM.low x (List.mem_append_left _ hx),fun x hx=>hM.at_ x (List.mem_append_left _ hx),(List.nodup_append.mp (by rw [←List.map_append];exact hM.apart)).1⟩
theorem mem0 {V:World} (h:Below W.heap.size W V):Mem W V []:=⟨h,by simp,by simp,by simp⟩
theorem commit_any (hv:Vs W) {ga:Addr} (hG:Gl w ga) {g:Nat} {c1:Cgf} {u1:Value} (H:Sy w W p h m N D pl B all (bxS ps pl ver c u (some ⟨g,0,none⟩) false::L)) (hg:bxC g c1 u1∈L) (hl:CLen c) (hlg:Lig c1) (hT:TSV W u1 c1.ten) (hlen:c1.ten.length≤900)
 (hd:D.dead=false) (hn:4≤N) (hm:256≤m) (hB:B≤800000) (hB0:0≤B) (hal:all.length≤800000) (hv0:0≤ver) (hv1:ver < 900000) :
 Calls Tryz.prog 31 #[.pointer (some ⟨ps,0,none⟩)] W fun e W'=>∃ n er,e=.returned (.tuple #[.int .u64 n,.int .i64 er])∧CmQ w W p h m N D B all ps pl ver c u c1 u1 L n er W':=by
 have hMW:=H.mem
 have hl1:=hlg.cin.len
 have hcv:CV W (.agg (cc c1 u1).toArray) c1:=⟨hl1,u1,rfl,hT⟩
 have C1:=begun_any (bx31 hMW hl) (bx32 hMW hl)
 have C2:=failed_any 0 W
 have CK:=check_any hv hcv (by omega) (TSm_lig hlg)
 have hz0:((0:Int) != 0)=false:=rfl
 have h31:=bx31 hMW hl
 have kg:W.heap[g]? = some (.cells (cc c1 u1).toArray 39):=hMW.at_ _ (List.mem_cons_of_mem _ hg)
 obtain ⟨A29,hA29⟩:∃ A,(cc c1 u1).toArray=A:=⟨_,rfl⟩
 have hsz29:A29.size=29:=by rw [←hA29,List.size_toArray];exact cc_len hl1 _
 have i29a:(Tryz.prog.info? 39).map (·.size)=some A29.size:=by rw [hsz29];kernel_rfl
 have i29:(Tryz.prog.info? 39).map (·.size)=some (cc c1 u1).length:=by rw [cc_len hl1];kernel_rfl
 have HH:Hid (∀ V,Below W.heap.size W V→Sy w V p h m N D pl B all (bxS ps pl ver c u (some ⟨g,0,none⟩) false::L)∧CV V (.agg (cc c1 u1).toArray) c1):=fun V hV=>⟨H.join (mem0 hV),hcv.at_ hV (Nat.le_refl _)⟩
 have HN:Hid (Vs W∧Gl w ga∧CLen c∧Lig c1∧bxC g c1 u1∈L∧c1.ten.length≤900∧D.dead=false∧4≤N∧256≤m∧B≤800000∧0≤B∧all.length≤800000∧0≤ver∧ver < 900000∧u1.oneCell'=true):=⟨hv,hG,hl,hlg,hg,hlen,hd,hn,hm,hB,hB0,hal,hv0,hv1,hT.one⟩
 have hck42:chk c1≠42:=by rcases chk_in c1 with h | h <;> omega
 obtain ⟨kk,hkk⟩:∃ k,chk c1=k:=⟨_,rfl⟩
 rw [hkk] at CK
 rw [hA29] at kg CK
 clear H hMW hcv hg hlg hT hlen hd hn hm hB hal hG hv
 go_enter Tryz.func31,Tryz.ntmps31
 go_wp2_with fail
 refine C1.mono ?_
 rintro e _ ⟨rfl,rfl⟩
 go_wp2_with fail
 refine C2.mono ?_
 rintro e _ ⟨rfl,rfl⟩
 go_wp2_with (refine wpList_load_row rfl 39 (.tmp 18) (by with_reducible rfl) g (by first | rfl | simp [Act.eval]) 39 A29 (0,0) _ kg Tryz.underlying39 rfl i29a ?_)
 refine CK.mono ?_
 rintro e V1 ⟨rfl,hb1⟩
 have C3:=failed_any kk V1
 have HB1:Hid (Below W.heap.size W V1):=hb1
 clear CK C1 C2 h31 kg hb1
 by_cases h0:kk=0
 ·subst h0
  go_wp2_with fail
  refine C3.mono ?_
  rintro e _ ⟨rfl,rfl⟩
  clear C3
  obtain ⟨hSy,hcv1⟩:=HH.out V1 HB1.out
  have hM1:=hSy.mem
  obtain ⟨r,hr⟩:∃ r,rcd16 (ver+1) c1=r:=⟨_,rfl⟩
  have e1:IntKind.u64.wrap (ver+1)=ver+1:=by rw [wrapu64];have:=HN.out;omega
  have e2:(ver+1) % 18446744073709551616=ver+1:=by have:=HN.out;omega
  obtain ⟨A30,hA30⟩:∃ A,(Value.int .u64 (ver+1)::cc c1 u1).toArray=A:=⟨_,rfl⟩
  have hbS:∀ V,(Instr.build stS #[(0,.int .u64 (ver+1)),(1,.agg A29)]).run Tryz.prog V=.ok (.agg A30) V:=fun V=>by rw [←hA29,← hA30];exact build_s hl1 u1 _ V
  have hfold:=fold_s hl1 u1 (ver+1)
  rw [hA29,hA30] at hfold
  have hs30:A30.size=30:=by rw [←hA30];simp [cc_len hl1]
  have o30:A30.all (·.oneCell')=true:=by rw [←hA30];exact st_one _ HN.out.2.2.2.2.2.2.2.2.2.2.2.2.2.2
  have j30:(Tryz.prog.info? stS).map (·.size)=some (Value.int .u64 (ver+1)::cc c1 u1).length:=by simp only [List.length_cons,cc_len hl1];kernel_rfl
  have i30:(Tryz.prog.info? stS).map (·.size)=some A30.size:=by rw [hs30];kernel_rfl
  have HS:Hid (∀ X,Below V1.heap.size V1 X→X.cell? ⟨ps,1,none⟩=some (.int .u64 ver)∧X.cell? ⟨ps,31,none⟩=some (.pointer (some ⟨g,0,none⟩))∧X.rangeAt g 0 (cc c1 u1)):=by
   intro X hX
   have hM:=hM1.after hX
   refine ⟨bx1 hM,bx31 hM HN.out.2.2.1,fun j x hj=>?_⟩
   rw [cell_of (hM.at_ _ (List.mem_cons_of_mem _ HN.out.2.2.2.2.1)),List.getElem?_toArray,Nat.zero_add];exact hj
  obtain ⟨g6,hg6⟩:∃ g,V1.heap.size=g:=⟨_,rfl⟩
  have hk6:((V1.alloc (.cells s0A stS)).drew).heap[g6]? = some (.cells s0A stS (0,0)):=by rw [←hg6];exact heap_alloc_new V1 _
  have hst:=storeCells_row ((V1.alloc (.cells s0A stS)).drew) g6 s0A A30 stS hk6 (by rw [hs30];rfl) o30
  have hba:Below V1.heap.size V1 ((V1.alloc (.cells s0A stS)).drew):=((Below.refl V1.heap.size V1).alloc (Nat.le_refl _) _).drew
  have hbb:Below V1.heap.size V1 (((V1.alloc (.cells s0A stS)).drew).setRow g6 A30):=below_setRow hba (by omega) _
  have hM6:Mem V1 (((V1.alloc (.cells s0A stS)).drew).setRow g6 A30) [(g6,.cells A30 stS (0,0))]:=by
   have h1:Mem V1 ((V1.alloc (.cells s0A stS)).drew) [(g6,.cells s0A stS (0,0))]:=((Mem.nil V1).push1 hg6.symm).drew
   exact h1.wrote 0 rfl (wrote_setRow _ g6 _ A30 _ hk6)
  have HL6:Hid (Sy w (((V1.alloc (.cells s0A stS)).drew).setRow g6 A30) p h m N D pl B all ((g6,.cells A30 stS (0,0))::bxS ps pl ver c u (some ⟨g,0,none⟩) false::L)∧CV (((V1.alloc (.cells s0A stS)).drew).setRow g6 A30) (.agg (cc c1 u1).toArray) c1∧Below W.heap.size W (((V1.alloc (.cells s0A stS)).drew).setRow g6 A30)) :=
   ⟨hSy.push hM6,hcv1.at_ hbb (Nat.le_refl _),HB1.out.trans (hbb.mono HB1.out.size)⟩
  have HBA:Hid (Below V1.heap.size V1 ((V1.alloc (.cells s0A stS)).drew)∧Below V1.heap.size V1 (((V1.alloc (.cells s0A stS)).drew).setRow g6 A30)):=⟨hba,hbb⟩
  rw [s0A_lit] at hst HBA HL6
  skip
  clear hSy hcv1 hM1 hk6 hba hbb hM6 HH
  go_upto_region 7 with fail
  refine wp_region_held_drew (S:=fun X=>X.cell? ⟨ps,1,none⟩=some (.int .u64 ver)∧X.cell? ⟨ps,31,none⟩=some (.pointer (some ⟨g,0,none⟩))∧X.rangeAt g 0 (cc c1 u1)) (by kernel_rfl) (HS.out _ (Below.refl _ _).drew) (fun hHeld=>?_)
  refine tkq 0 rfl (v:=?_) (Or.inl ⟨by rfl,?qy0⟩) ?_
  case qy0=>intro w hSw;(try dsimp only at hSw);go_simp;all_goals with_reducible rfl
  try simp only [sqa,sqb,sqc,Act.put,sqd,sqe,sqf]
  refine tkq 1 rfl (v:=?_) (Or.inl ⟨by rfl,?qy1⟩) ?_
  case qy1=>intro w hSw;(try dsimp only at hSw);go_simp;all_goals with_reducible rfl
  try simp only [sqa,sqb,sqc,Act.put,sqd,sqe,sqf]
  refine tkq 2 rfl (v:=?_) (Or.inl ⟨by rfl,?qy2⟩) ?_
  case qy2=>intro w hSw;(try dsimp only at hSw);go_simp;all_goals with_reducible rfl
  try simp only [sqa,sqb,sqc,Act.put,sqd,sqe,sqf]
  refine tkq 3 rfl (v:=?_) (Or.inl ⟨by rfl,?qy3⟩) ?_
  case qy3=>intro w hSw;(try dsimp only at hSw);go_simp;all_goals with_reducible rfl
  try simp only [sqa,sqb,sqc,Act.put,sqd,sqe,sqf]
  refine tkq 4 rfl (v:=?_) (Or.inl ⟨by rfl,?qy4⟩) ?_
  case qy4=>intro w hSw;(try dsimp only at hSw);go_simp;all_goals with_reducible rfl
  try simp only [sqa,sqb,sqc,Act.put,sqd,sqe,sqf]
  refine tkq 5 rfl (v:=?_) (Or.inl ⟨by rfl,?qy5⟩) ?_
  case qy5=>intro w hSw;(try dsimp only at hSw);go_simp;all_goals with_reducible rfl
  try simp only [sqa,sqb,sqc,Act.put,sqd,sqe,sqf]
  refine tkq 6 rfl (v:=?_) (Or.inl ⟨by rfl,?qy6⟩) ?_
  case qy6=>intro w hSw;(try dsimp only at hSw);go_simp;all_goals with_reducible rfl
  try simp only [sqa,sqb,sqc,Act.put,sqd,sqe,sqf]
  refine tkq 7 rfl (v:=?_) (Or.inl ⟨by rfl,?qy7⟩) ?_
  case qy7=>intro w hSw;(try dsimp only at hSw);go_simp;all_goals with_reducible rfl
  try simp only [sqa,sqb,sqc,Act.put,sqd,sqe,sqf]
  refine tkq 8 rfl (v:=?_) (Or.inl ⟨by rfl,?qy8⟩) ?_
  case qy8=>intro w hSw;(try dsimp only at hSw);go_simp;all_goals with_reducible rfl
  try simp only [sqa,sqb,sqc,Act.put,sqd,sqe,sqf]
  refine tkq 9 rfl (v:=?_) (Or.inl ⟨by rfl,?qy9⟩) ?_
  case qy9=>intro w hSw;(try dsimp only at hSw);go_simp;all_goals with_reducible rfl
  try simp only [sqa,sqb,sqc,Act.put,sqd,sqe,sqf]
  refine tkq 10 rfl (v:=?_) (Or.inl ⟨by rfl,?qy10⟩) ?_
  case qy10=>intro w hSw;(try dsimp only at hSw);go_simp;all_goals with_reducible rfl
  try simp only [sqa,sqb,sqc,Act.put,sqd,sqe,sqf]
  refine tkq 11 rfl (v:=_) (yieldsIf_load_mid (by rfl) _ _ rfl _ _ rfl _ _ ?qs11 Tryz.underlying39 rfl i29) ?_
  case qs11 =>
   intro w hSw
   (try dsimp only at hSw)
   go_split_ands
   assumption
  try simp only [sqa,sqb,sqc,Act.put,sqd,sqe,sqf]
  refine tkq 12 rfl (v:=.agg A30) (Or.inl ⟨by rfl,?qy12⟩) ?_
  case qy12 =>
   intro w hSw
   (try dsimp only at hSw)
   go_simp
   all_goals first | with_reducible rfl | exact hfold
  try simp only [sqa,sqb,sqc,Act.put,sqd,sqe,sqf]
  refine wpAnyH_ready (rs:=[13]) (by kernel_rfl) (by simp) ?_
  refine AllReadyH.cons rfl (fun K hK=>?_) AllReadyH.nil
  go_simp
  refine hK.out _ _ (HS.out _ HBA.out.1) (fun hHeld=>?_)
  clear hK K
  try simp only [sqa,sqb,sqc,Act.put,sqd,sqe,sqf]
  refine wpAnyH_ready (rs:=[14]) (by kernel_rfl) (by simp) ?_
  refine AllReadyH.cons rfl (fun K hK=>?_) AllReadyH.nil
  go_simp
  refine hK.out _ _ (HS.out _ HBA.out.2) (fun hHeld=>?_)
  clear hK K
  try simp only [sqa,sqb,sqc,Act.put,sqd,sqe,sqf]
  refine wpAnyH_done (by kernel_rfl) ?_ _
  go_upto_region 8 with fail
  refine wp_letter (fun X=>Sy w X p h m N D pl B all ((g6,.cells A30 stS (0,0))::bxS ps pl ver c u (some ⟨g,0,none⟩) false::L)∧CV X (.agg (cc c1 u1).toArray) c1∧Below W.heap.size W X) (by exact HL6.out) ?_
  rintro V2 ⟨hSy,hcv,hb2⟩
  try simp only [hg6]
  clear HL6 HBA HS hst hg6 hfold hbS HB1
  have hM2:=hSy.mem
  have HS8:Hid (∀ X,Below V2.heap.size V2 X→X.cell? ⟨ps,0,none⟩=some (.pointer (some ⟨pl,0,none⟩))∧X.rangeAt g6 0 (Value.int .u64 (ver+1)::cc c1 u1)):=by
   intro X hX
   have hM:=hM2.after hX
   refine ⟨bx0 hM.sub,fun j x hj=>?_⟩
   rw [hM.cell 0 rfl,← hA30,List.getElem?_toArray,Nat.zero_add];exact hj
  obtain ⟨hvV,hGG,-,hlg,hgL,hlen,hdd,hnn,hmm,hBB,-,hall,-,-,hu1⟩:=HN.out
  have HBY:Hid (∀ X,Below V2.heap.size V2 X→Calls Tryz.prog 61 #[.agg A30] X fun e w'=>∃ v,e=.returned v∧Out X w' v r []):=by
   intro X hX
   rw [←hA30,← hr]
   exact sbytes_any (hcv.at_ hX (Nat.le_refl _)) hlg.cin (fun t ht=>(hlg.ten t ht).1) (by omega) (by have:=cenc_le16 c1 hl1 hlg.tlen;omega)
  have hrl:r.length=8+(cenc c1).length:=by rw [←hr];exact rcd_len _ _
  have hcl:=cenc_le16 c1 hl1 hlg.tlen
  have HAP:Hid (∀ X v,Out V2.drew X v r []→Calls Tryz.prog 60 #[.pointer (some ⟨pl,0,none⟩),v] X fun e X'=>∃ err,e=.returned (.int .i64 err)∧(X'.cell? ⟨ps,0,none⟩=some (.pointer (some ⟨pl,0,none⟩))∧X'.rangeAt g6 0 (Value.int .u64 (ver+1)::cc c1 u1)) ∧
   ((err=51∧room N m < r.length∧Below W.heap.size W X')∨(err=0∧r.length≤room N m∧∃ D',D'.dead=false∧(D.set=false→D'=D)∧Sy w X' p h m N D' pl (B+1) (all++[r]) ((g6,.cells A30 stS (0,0))::bxS ps pl ver c u (some ⟨g,0,none⟩) false::L)) ∨
    (err=42∧r.length≤room N m∧D.set=true∧So w X' p h m N gone pl ((g6,.cells A30 stS (0,0))::bxS ps pl ver c u (some ⟨g,0,none⟩) false::L)∧(Sd w X' p h m N gone (B+1) all ((g6,.cells A30 stS (0,0))::bxS ps pl ver c u (some ⟨g,0,none⟩) false::L)∨Sd w X' p h m N gone (B+1) (all++[r]) ((g6,.cells A30 stS (0,0))::bxS ps pl ver c u (some ⟨g,0,none⟩) false::L))))):=by
   intro X v hO
   have hS0:∀ X',Mem w X' ((g6,.cells A30 stS (0,0))::bxS ps pl ver c u (some ⟨g,0,none⟩) false::L)→X'.cell? ⟨ps,0,none⟩=some (.pointer (some ⟨pl,0,none⟩))∧X'.rangeAt g6 0 (Value.int .u64 (ver+1)::cc c1 u1):=by
    intro X' hM
    refine ⟨bx0 hM.sub,fun j x hj=>?_⟩
    rw [hM.cell 0 rfl,← hA30,List.getElem?_toArray,Nat.zero_add];exact hj
   have hbX:Below V2.heap.size V2 X:=below_dr hO.mem.below
   obtain ⟨hby,hle,hcase⟩:=hO
   rcases hcase with ⟨rfl,e0,-⟩ | ⟨gr,cap,cur,rfl,hMr,hnc,hcm,hcs,htake⟩
   ·omega
   ·have hMr2:Mem V2 X [(gr,.cells cur 5)]:=⟨hbX,hMr.low,hMr.at_,hMr.apart⟩
    have hSX:=hSy.push hMr2
    by_cases hroom:r.length≤room N m
    ·have hk:cur.toList.take r.length=r.map (Value.int .u8):=by rw [Nat.mul_one] at htake;exact htake
     refine (sy_appC hSX hGG hdd hnn hmm (by omega) hB0 (by omega) rfl hnc hroom (beside_cur (cap:=cap) (by simp) hk hby (by omega)) hby).mono ?_
     rintro e X' ⟨err,rfl,D',hc⟩
     rcases hc with ⟨rfl,a1,a2,a3⟩ | ⟨rfl,rfl,a2,a3,a4⟩
     ·have a4:Sy w X' p h m N D' pl (B+1) (all++[r]) ((g6,.cells A30 stS (0,0))::bxS ps pl ver c u (some ⟨g,0,none⟩) false::L):=a3.sub (Y:=[(gr,.cells cur 5)])
      exact ⟨0,rfl,hS0 _ a4.mem,Or.inr (Or.inl ⟨rfl,hroom,D',a1,a2,a4⟩)⟩
     ·have a5:So w X' p h m N gone pl ((g6,.cells A30 stS (0,0))::bxS ps pl ver c u (some ⟨g,0,none⟩) false::L):=by
       obtain ⟨R,hM,hb⟩:=a3.frame
       obtain ⟨hc,ks,t,c',v',K,h1,h2⟩:=a3.at_
       refine ⟨hc,ks,t,c',v',K++[(gr,.cells cur 5)],h1.on (h1.st.perm ?_),h2⟩
       refine List.Perm.cons _ ?_
       rw [List.cons_append,List.nil_append,← List.append_assoc]
       exact (List.perm_append_comm (l₁:=[(gr,Obj.cells cur 5)]))
      refine ⟨42,rfl,hS0 _ a5.mem,Or.inr (Or.inr ⟨rfl,hroom,a2,a5,?_⟩)⟩
      rcases a4 with a | a
      ·exact Or.inl (a.sub (Y:=[(gr,.cells cur 5)]))
      ·exact Or.inr (a.sub (Y:=[(gr,.cells cur 5)]))
    ·refine (sy_big hSX _ _ _ (by omega)).mono ?_
     rintro e X' ⟨rfl,rfl⟩
     exact ⟨51,rfl,hS0 _ (hSX.sub (Y:=[(gr,.cells cur 5)])).mem,Or.inl ⟨rfl,by omega,hb2.trans (hbX.mono hb2.size)⟩⟩
  clear hSy hcv hb2 hM2
  refine wp_region_held_drew (S:=fun X=>X.cell? ⟨ps,0,none⟩=some (.pointer (some ⟨pl,0,none⟩))∧X.rangeAt g6 0 (Value.int .u64 (ver+1)::cc c1 u1)) (by kernel_rfl) (HS8.out _ (Below.refl _ _).drew) (fun hHeld=>?_)
  refine tkq 0 rfl (v:=?_) (Or.inl ⟨by rfl,?ry0⟩) ?_
  case ry0=>intro w hSw;(try dsimp only at hSw);go_simp;all_goals with_reducible rfl
  try simp only [sqa,sqb,sqc,Act.put,sqd,sqe,sqf]
  refine tkq 1 rfl (v:=?_) (Or.inl ⟨by rfl,?ry1⟩) ?_
  case ry1=>intro w hSw;(try dsimp only at hSw);go_simp;all_goals with_reducible rfl
  try simp only [sqa,sqb,sqc,Act.put,sqd,sqe,sqf]
  refine tkq 2 rfl (v:=?_) (Or.inl ⟨by rfl,?ry2⟩) ?_
  case ry2=>intro w hSw;(try dsimp only at hSw);go_simp;all_goals with_reducible rfl
  try simp only [sqa,sqb,sqc,Act.put,sqd,sqe,sqf]
  refine tkq 3 rfl (v:=?_) (Or.inl ⟨by rfl,?ry3⟩) ?_
  case ry3=>intro w hSw;(try dsimp only at hSw);go_simp;all_goals with_reducible rfl
  try simp only [sqa,sqb,sqc,Act.put,sqd,sqe,sqf]
  refine tkq 4 rfl (v:=_) (yieldsIf_load_mid (by rfl) _ _ rfl _ _ rfl _ _ ?rs4 Tryz.underlying96 rfl j30) ?_
  case rs4 =>
   intro w hSw
   (try dsimp only at hSw)
   go_split_ands
   assumption
  try simp only [sqa,sqb,sqc,Act.put,sqd,sqe,sqf]
  refine wpAnyH_ready (rs:=[5]) (by kernel_rfl) (by simp) ?_
  refine AllReadyH.cons rfl (fun K hK=>?_) AllReadyH.nil
  go_simp
  with_reducible refine (HBY.out _ (Below.refl _ _).drew).mono ?_
  rintro e V3 ⟨v3,rfl,hO3⟩
  try go_wp2_with fail
  refine hK.out _ _ (HS8.out _ (below_dr hO3.mem.below)) (fun hHeld=>?_)
  clear hK K
  try simp only [sqa,sqb,sqc,Act.put,sqd,sqe,sqf]
  refine wpAnyH_ready (rs:=[6]) (by kernel_rfl) (by simp) ?_
  refine AllReadyH.cons rfl (fun K hK=>?_) AllReadyH.nil
  go_simp
  with_reducible refine (HAP.out _ _ hO3).mono ?_
  rintro e V4 ⟨err,rfl,hS4,hQ4⟩
  try go_wp2_with fail
  refine hK.out _ _ hS4 (fun hHeld=>?_)
  clear hK K
  try simp only [sqa,sqb,sqc,Act.put,sqd,sqe,sqf]
  refine tkq 7 rfl (v:=?_) (Or.inl ⟨by rfl,?ry7⟩) ?_
  case ry7=>intro w hSw;(try dsimp only at hSw);go_simp;all_goals with_reducible rfl
  try simp only [sqa,sqb,sqc,Act.put,sqd,sqe,sqf]
  refine wpAnyH_done (by kernel_rfl) ?_ _
  clear HS8 HBY HAP
  rcases hQ4 with ⟨rfl,hrm,hbW⟩ | ⟨rfl,hrm,D',hD1,hD2,hSy⟩ | ⟨rfl,hrm,hset,hSo,hSd⟩
  ·have C9:=isn_any 51 42 V4
   have C11:=failed_any 51 V4
   have e51:((51:Int) == 42)=false:=rfl
   have f51:((51:Int) != 0)=true:=rfl
   rw [e51] at C9
   rw [f51] at C11
   have HF:Hid (CmQ w W p h m N D B all ps pl ver c u c1 u1 L 0 51 V4):=Or.inl ⟨rfl,by decide,by decide,by rw [hkk,if_pos rfl,hr,if_pos hrm],hbW⟩
   clear hbW hS4 hHeld hO3
   go_wp2_with fail
   refine C9.mono ?_
   rintro e _ ⟨rfl,rfl⟩
   go_wp2_with fail
   refine C11.mono ?_
   rintro e _ ⟨rfl,rfl⟩
   go_wp2_with fail
   go_ret2
   exact ⟨_,_,rfl,HF.out⟩
  ·have C9:=isn_any 0 42 V4
   have C11:=failed_any 0 V4
   have e51:((0:Int) == 42)=false:=rfl
   have f51:((0:Int) != 0)=false:=rfl
   rw [e51] at C9
   rw [f51] at C11
   obtain ⟨R,hMR,hback⟩:=hSy.frame
   have k6:V4.heap[g6]? = some (.cells A30 stS (0,0)):=hMR.get 0 rfl
   have hMp:Mem w V4 ((ps,.cells ([Value.pointer (some ⟨pl,0,none⟩)]++((Value.int .u64 ver::cc c u)++[Value.pointer (some ⟨g,0,none⟩),Value.bool false])).toArray stT (0,0))::(g6,.cells A30 stS (0,0))::(L++R)):=hMR.perm (List.Perm.swap _ _ _)
   have hth:V4.there ps 1 A30.size:=mem_there hMp (by rw [hs30,List.size_toArray];simp [cc_len hl])
   have hMq:=mem_mid (Value.int .u64 (ver+1)::cc c1 u1) (Value.int .u64 ver::cc c u) [Value.pointer (some ⟨pl,0,none⟩)] V4 (by simp [cc_len hl,cc_len hl1]) hMp
   have eL:A30.toList=Value.int .u64 (ver+1)::cc c1 u1:=by rw [←hA30]
   rw [←eL,List.length_singleton,eL] at hMq
   have hMq2:Mem w (V4.setCells ps 1 A30.toList) (bxS ps pl (ver+1) c1 u1 (some ⟨g,0,none⟩) false::(g6,.cells A30 stS (0,0))::(L++R)):=by rw [eL];exact hMq
   have c31:=bx31 hMq2 hl1
   have f31:=hMq2.free 0 rfl 31
   have hMs:=hMq2.set 0 rfl 31 (.pointer none)
   simp only [List.set_cons_zero] at hMs
   rw [xA_set31 hl1] at hMs
   have HMs:Hid (Mem w ((V4.setCells ps 1 A30.toList).setCell ⟨ps,31,none⟩ (.pointer none)) (bxS ps pl (ver+1) c1 u1 none false::(g6,.cells A30 stS (0,0))::(L++R))):=hMs
   have HBK:Hid (∀ X,Mem w X (bxS ps pl (ver+1) c1 u1 none false::(g6,.cells A30 stS (0,0))::(L++R))→X.cell? ⟨g6,0,none⟩=some (.int .u64 (ver+1))∧CmQ w W p h m N D B all ps pl ver c u c1 u1 L (ver+1) 0 X):=by
    intro X hX
    refine ⟨by rw [hX.cell 1 rfl,← hA30];rfl,Or.inr (Or.inl ⟨hkk,by rw [hr];exact hrm,rfl,rfl,D',hD1,hD2,?_⟩)⟩
    rw [hr]
    have h1:=hback X (bxS ps pl (ver+1) c1 u1 none false::(g6,.cells A30 stS (0,0))::L) hX
    obtain ⟨R2,hM2,hb2⟩:=h1.frame
    have h2:=(hback X ((g6,.cells A30 stS (0,0))::bxS ps pl (ver+1) c1 u1 none false::L) (hX.perm (List.Perm.swap _ _ _)))
    exact h2.sub (Y:=[(g6,.cells A30 stS (0,0))])
   clear hSy hMR hback hMp hMq hMq2 hMs hS4 hHeld hO3 eL
   go_wp2_with fail
   refine C9.mono ?_
   rintro e _ ⟨rfl,rfl⟩
   go_wp2_with fail
   refine C11.mono ?_
   rintro e _ ⟨rfl,rfl⟩
   go_upto_region 14 with (first | (refine wpList_load_row rfl stS (.tmp 6) (by with_reducible rfl) g6 (by first | rfl | simp [Act.eval]) stS A30 (0,0) _ k6 Tryz.underlying96 rfl i30 ?_) | (refine wpList_store_mid rfl stS (.tmp 63) (.tmp 61) (by with_reducible rfl) ps 1 A30 (by first | rfl | simp [Act.eval]) (by first | rfl | simp [Act.eval]) hth i30 o30 ?_) | fail)
   refine wp_letter (fun X=>Mem w X (bxS ps pl (ver+1) c1 u1 none false::(g6,.cells A30 stS (0,0))::(L++R))) (by exact HMs.out) ?_
   intro X hX
   obtain ⟨cz0,hq⟩:=HBK.out X hX
   have HQ:Hid (CmQ w W p h m N D B all ps pl ver c u c1 u1 L (ver+1) 0 X):=hq
   clear HMs HBK hX hq hth k6 c31 f31
   go_wp2_with fail
   go_ret2
   exact ⟨_,_,rfl,HQ.out⟩
  ·have C9:=isn_any 42 42 V4
   have e42:((42:Int) == 42)=true:=rfl
   have f42:((42:Int) != 0)=true:=rfl
   rw [e42] at C9
   have hMo:=hSo.mem.sub
   have c31:=bx31 hMo hl
   have c32:=bx32 hMo hl
   have f31:=hMo.free 0 rfl 31
   have f32:=hMo.free 0 rfl 32
   have key:∀ R,Mem w V4 (((g6,.cells A30 stS (0,0))::bxS ps pl ver c u (some ⟨g,0,none⟩) false::L)++R)→Mem w ((V4.setCell ⟨ps,32,none⟩ (.bool true)).setCell ⟨ps,31,none⟩ (.pointer none)) (([(g6,Obj.cells A30 stS (0,0))]++(bxS ps pl ver c u none true::L))++R):=by
    intro R hR
    have h1:=hR.set 1 rfl 32 (.bool true)
    simp only [List.cons_append,List.set_cons_succ,List.set_cons_zero] at h1
    rw [xA_set32 hl] at h1
    have h2:=h1.set 1 rfl 31 (.pointer none)
    simp only [List.set_cons_succ,List.set_cons_zero] at h2
    rw [xA_set31 hl] at h2
    exact h2
   have d31:(V4.setCell ⟨ps,32,none⟩ (.bool true)).cell? ⟨ps,31,none⟩=some (.pointer (some ⟨g,0,none⟩)):=by
    have h1:=hMo.set 0 rfl 32 (.bool true)
    simp only [List.set_cons_zero] at h1
    rw [xA_set32 hl] at h1
    exact bx31 h1 hl
   have hfin:CmQ w W p h m N D B all ps pl ver c u c1 u1 L 0 42 ((V4.setCell ⟨ps,32,none⟩ (.bool true)).setCell ⟨ps,31,none⟩ (.pointer none)):=by
    refine Or.inr (Or.inr ⟨hkk,by rw [hr];exact hrm,rfl,rfl,hset,?_,?_⟩)
    ·obtain ⟨R,hM,hb⟩:=hSo.frame
     have:=hb _ _ (key R hM)
     obtain ⟨hc,ks,t,c',v',K,h1,h2⟩:=this.at_
     refine ⟨hc,ks,t,c',v',K++[(g6,.cells A30 stS (0,0))],h1.on (h1.st.perm ?_),h2⟩
     refine List.Perm.cons _ ?_
     rw [List.append_assoc,← List.append_assoc _ K]
     exact List.perm_append_comm
    ·rw [hr]
     rcases hSd with hs | hs
     ·obtain ⟨R,hM,hb⟩:=hs.frame
      exact Or.inl ((hb _ _ (key R hM)).sub)
     ·obtain ⟨R,hM,hb⟩:=hs.frame
      exact Or.inr ((hb _ _ (key R hM)).sub)
   have HF:Hid (CmQ w W p h m N D B all ps pl ver c u c1 u1 L 0 42 ((V4.setCell ⟨ps,32,none⟩ (.bool true)).setCell ⟨ps,31,none⟩ (.pointer none))):=hfin
   clear hSo hSd hMo key hfin hS4 hHeld hO3
   go_wp2_with fail
   refine C9.mono ?_
   rintro e _ ⟨rfl,rfl⟩
   go_upto_region 11 with fail
   refine wp_letter (fun X=>CmQ w W p h m N D B all ps pl ver c u c1 u1 L 0 42 X) (by exact HF.out) ?_
   intro X hX
   have HX:Hid (CmQ w W p h m N D B all ps pl ver c u c1 u1 L 0 42 X):=hX
   have C11:=failed_any 42 X
   rw [f42] at C11
   clear HF hX c31 c32 f31 f32 d31
   go_wp2_with fail
   refine C11.mono ?_
   rintro e _ ⟨rfl,rfl⟩
   go_wp2_with fail
   go_ret2
   exact ⟨_,_,rfl,HX.out⟩
 ·have h1:(kk != 0)=true:=by simp [h0]
  rw [h1] at C3
  go_wp2_with fail
  refine C3.mono ?_
  rintro e _ ⟨rfl,rfl⟩
  go_wp2_with fail
  go_ret2
  exact ⟨_,_,rfl,Or.inl ⟨rfl,h0,by rw [←hkk];exact hck42,by rw [hkk,if_neg h0],HB1.out⟩⟩
end
end
end Go.Proofs.YtdigofgjhaakmaaGreatDoor
