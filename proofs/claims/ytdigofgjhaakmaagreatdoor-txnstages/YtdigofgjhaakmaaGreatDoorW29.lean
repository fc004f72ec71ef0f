/-
  A record read (txn.read): the version and the settings that its bytes are.
  Which settings may be: the document's own list of what a tenant owns.
  Which settings may be: a tenant's error.
  The statements' seat of settings: addresses, names; what its tenants and settings are, in plain numbers.
  Settings as text: the program's reader: an address, a number, a key, a name, a filter.
  What is changed: which tenants and changes the statements speak of (lychlaw15's light).
-/
import Derived.Test.YtdigofgjhaakmaaGreatDoorW28
import Derived.Test.YtdigofgjhaakmaaGreatDoorW13
import Derived.Test.YtdigofgjhaakmaaGreatDoorW19
import Derived.Test.YtdigofgjhaakmaaGreatDoorW05
import Derived.Test.YtdigofgjhaakmaaGreatDoorW27
import Derived.Test.YtdigofgjhaakmaaGreatDoorW20
set_option linter.unusedVariables false
set_option linter.unusedSimpArgs false
set_option maxRecDepth 20000
set_option maxHeartbeats 40000000
namespace Go.Proofs.YtdigofgjhaakmaaGreatDoor
open Go.RowKit
open Sm
open Cf
def s0A:Array Value:=(.int .u64 0::cz.toList).toArray
theorem s0A_one:s0A.all (·.oneCell')=true:=by kernel_rfl
theorem st_one {c:Cgf} {u:Value} (ver:Int) (hu:u.oneCell'=true):(Value.int .u64 ver::cc c u).toArray.all (·.oneCell')=true:=by
 have:=cc_one c hu
 rw [Array.all_eq_true_iff_forall_mem] at this ⊢
 intro x hx
 simp only [List.mem_toArray,List.mem_cons] at hx
 rcases hx with rfl | hx
 ·rfl
 ·exact this x (by simpa using hx)
theorem cv_u {V:World} {c:Cgf} {v:Value} (h:CV V v c):∃ u,v=.agg (cc c u).toArray∧u.oneCell'=true:=by
 obtain ⟨-,u,e,h⟩:=h
 exact ⟨u,e,h.one⟩
theorem set0_eq {cl:List Value} (ver x:Int):(Value.int .u64 ver::cl).toArray.setIfInBounds 0 (.int .u64 x)=(Value.int .u64 x::cl).toArray:=by simp
def RdP (w:World) (ver:Int) (c:Cgf) (e:Ending) (V:World):Prop:=∃ u K,e=.returned (.tuple #[.agg (.int .u64 ver::cc c u).toArray,.int .i64 0])∧Mem w V K∧∀ w1:World,w1.heap.size≤w.heap.size→On w1 K (fun X=>CV X (.agg (cc c u).toArray) c)
theorem rd_any {w:World} {a:Option Addr} {l:List Int} {cp n:Nat} (hS:Sl w a l cp) (hn:l.length=n) (h8:8≤n) {c:Cgf} (hd:cdec (l.drop 8)=some c) :
 Calls Tryz.prog 71 #[.slice a n cp] w (RdP w (num (l.take 8)) c):=by
 obtain ⟨ad,rfl⟩:∃ ad,a=some ad:=by
  cases a with
  | none=>have:=hS.nil rfl;have:=hS.le;omega
  | some ad=>exact ⟨ad,rfl⟩
 rcases hS.row.cells with e | ⟨b,off,e,hc⟩
 ·rw [e] at hn;simp at hn;omega
 simp only [Option.some.injEq] at e
 subst e
 have hcap:=hS.le
 have hbig:=hS.big
 obtain ⟨g2,hg2⟩:∃ g,w.heap.size=g:=⟨_,rfl⟩
 have HCL:Hid (∀ V,Below w.heap.size w V→∀ i,i < 8→V.cell? ⟨b,off+i,none⟩=some (.int .u8 (l.getD i 0))):=fun V hV i hi=>by
  have h:=hc i (by omega)
  rw [hV.cell (p:=⟨b,off+i,none⟩) (cell_lt h)];exact h
 have HB:Hid (IsBytes l):=hS.row.bytes
 have HOC:Hid (∀ V,Below w.heap.size w V→Calls Tryz.prog 98 #[.slice (if cp=8 then some ⟨b,off,none⟩ else some ⟨b,off+8,none⟩) (n - 8) (cp - 8)] V (OPC V (some c))):=by
  intro V hV
  have hs:Sl V (if cp=8 then some ⟨b,off,none⟩ else some ⟨b,off+8,none⟩) (l.drop 8) (cp - 8):=by
   have hl:(l.drop 8).length=n - 8:=by rw [List.length_drop,hn]
   refine ⟨⟨fun i=>?_,by have:=hS.row.len;omega,?_⟩,by omega,by omega,fun e=>by split at e <;> cases e⟩
   ·have:(l.drop 8).getD i 0=l.getD (8+i) 0:=by simp [List.getD]
    rw [this];exact hS.row.bytes _
   ·by_cases h0:n=8
    ·left;exact List.eq_nil_of_length_eq_zero (by omega)
    ·right
     refine ⟨b,off+8,by rw [if_neg (by omega)],fun i hi=>?_⟩
     have h:=hc (8+i) (by omega)
     have e2:(l.drop 8).getD i 0=l.getD (8+i) 0:=by simp [List.getD]
     rw [e2,hV.cell (p:=⟨b,off+8+i,none⟩) (by rw [Nat.add_assoc];exact cell_lt h),Nat.add_assoc]
     exact h
  have:=openConfig_any hs
  rw [hd,List.length_drop,hn] at this
  exact this
 obtain ⟨N,hN⟩:∃ N,num (l.take 8)=N:=⟨_,rfl⟩
 rw [hN]
 have HN:Hid (∀ i,i < 8→num (l.take (i+1))=num (l.take i) * 256+l.getD i 0∧0≤num (l.take i)∧num (l.take i) < 72057594037927936):=by
  intro i hi
  refine ⟨num_take l i (by omega),?_⟩
  have hr:=num_range (bytes_tk HB.out i)
  rw [List.length_take,Nat.min_eq_left (by omega)] at hr
  have hp:(256:Int) ^ i≤256 ^ 7:=by
   match i,hi with
   | 0,_=>decide
   | 1,_=>decide
   | 2,_=>decide
   | 3,_=>decide
   | 4,_=>decide
   | 5,_=>decide
   | 6,_=>decide
   | 7,_=>decide
  have e6:(256:Int) ^ 7=72057594037927936:=by decide
  omega
 have HNN:Hid (num (l.take 8)=N):=hN
 clear hc hS hd hN
 have h8n:(8:Int)≤n:=by omega
 have h8c:(8:Int)≤cp:=by omega
 have hnc:(n:Int)≤cp:=by omega
 have h8l:¬ ((n:Int) < 8):=by omega
 have hi30:(Tryz.prog.info? stS).map (·.size)=some s0A.size:=by kernel_rfl
 have h30:s0A.size=s0A.size:=rfl
 have hM0:Mem w (w.alloc (.cells s0A stS)) [(g2,.cells s0A stS (0,0))]:=(Mem.nil w).push1 hg2.symm
 go_enter Tryz.func71,Tryz.ntmps71
 go_upto_region 1 with fail
 refine wp_letter (fun X=>Mem w X [(g2,.cells s0A stS (0,0))]) (by exact hM0) ?_
 intro V0 hM
 try simp only [hg2]
 clear hM0 hg2
 obtain ⟨g4,hg4⟩:∃ g,V0.heap.size=g:=⟨_,rfl⟩
 have hk1:(V0.alloc (.cells s0A stS)).heap[g4]? = some (.cells s0A stS (0,0)):=by rw [←hg4];exact heap_alloc_new _ _
 have HM1:Hid (Mem w ((V0.alloc (.cells s0A stS)).setRow g4 s0A) [(g4,.cells s0A stS (0,0)),(g2,.cells s0A stS (0,0))]):=by
  rw [←hg4,World.setRow_alloc_new];exact hM.front _ rfl
 clear hM
 go_upto_region 4 with (refine wpList_store_row rfl stS (.tmp 4) (.tmp 13) (by with_reducible rfl) g4 s0A (by simp [Act.eval];try exact hg4) (by first | rfl | simp [Act.eval]) stS s0A hk1 hi30 rfl s0A_one ?_)
 refine wp_letter (fun X=>Mem w X [(g4,.cells s0A stS (0,0)),(g2,.cells s0A stS (0,0))]) (by exact HM1.out) ?_
 intro V1 hM
 try simp only [hg4]
 clear HM1 hg4 hk1
 have HM:Hid (Mem w V1 [(g4,.cells (Value.int .u64 (num (l.take 0))::cz.toList).toArray stS (0,0)),(g2,.cells s0A stS (0,0))]):=hM
 clear hM
 go_wp2_with fail
 go_loopw [17] (fun u17 w'=>∃ i:Nat,i≤8∧u17=.int .i64 i∧Hid (Mem w w' [(g4,.cells (Value.int .u64 (num (l.take i))::cz.toList).toArray stS (0,0)),(g2,.cells s0A stS (0,0))])) (fun u17 w'=>8 - (intOf u17).toNat)
 case atStart=>exact ⟨0,Nat.zero_le _,rfl,HM⟩
 case round =>
  obtain ⟨i,hi,rfl,HR⟩:=hrel
  clear HM
  by_cases hlt:i < 8
  ·have h1:(i:Int) < 8:=by omega
   have hcell:=HCL.out _ HR.out.below i hlt
   have hb:=HB.out i
   obtain ⟨hnt,hx0,hx1⟩:=HN.out i hlt
   have c0:wr.cell? ⟨g4,0,none⟩=some (.int .u64 (num (l.take i))):=by rw [HR.out.cell 0 rfl];rfl
   have f0:=HR.out.free 0 rfl 0
   have hS2:=HR.out.set 0 rfl 0 (.int .u64 (num (l.take (i+1))))
   simp only [List.set_cons_zero] at hS2
   rw [set0_eq,hnt] at hS2
   have HT:Hid (num (l.take (i+1))=num (l.take i) * 256+l.getD i 0):=hnt
   clear hnt
   generalize num (l.take i)=x at *
   generalize l.getD i 0=y at *
   have e1:IntKind.u64.wrap (x * 256)=x * 256:=by rw [wrapu64];omega
   have e2:IntKind.u64.wrap y=y:=by rw [wrapu64];omega
   have e3:=join_byte x y ⟨hx0,hx1⟩ hb
   have e4:x * 256 % 18446744073709551616=x * 256:=by omega
   have e5:y % 18446744073709551616=y:=by omega
   have HS2:Hid (Mem w (wr.setCell ⟨g4,0,none⟩ (.int .u64 (x * 256+y))) [(g4,.cells (Value.int .u64 (x * 256+y)::cz.toList).toArray stS (0,0)),(g2,.cells s0A stS (0,0))]):=hS2
   clear hS2 HCL HOC HN HR
   go_wp2_with fail
   go_roundw
   case rel=>exact ⟨i+1,by omega,by go_num,by rw [HT.out];exact HS2⟩
   case measure=>simp [intOf];omega
  ·have h1:¬ ((i:Int) < 8):=by omega
   obtain rfl:i=8:=by omega
   have hM:=HR.out
   rw [HNN.out] at hM
   clear HR HN HCL HNN
   have C:=HOC.out wr hM.below
   have HM:Hid (Mem w wr [(g4,.cells (Value.int .u64 N::cz.toList).toArray stS (0,0)),(g2,.cells s0A stS (0,0))]):=hM
   clear hM HOC
   obtain ⟨ta,hta⟩:∃ ta,(if cp=8 then some (⟨b,off,none⟩:Addr) else some ⟨b,off+8,none⟩)=ta:=⟨_,rfl⟩
   rw [hta] at C
   go_wp2_with fail
   refine C.mono ?_
   rintro e V2 hO
   obtain ⟨hb2,v,rfl,hcv⟩:=hO
   have hon0:=HM.out.below.size
   have hon:∀ w1:World,w1.heap.size≤w.heap.size→On w1 (nws wr.heap.size V2) (fun X=>CV X v c):=fun w1 h1=>hcv.on (Nat.le_trans h1 hon0)
   have hM2:=HM.out.more (nws_mem hb2)
   have hcv2:=hon w (Nat.le_refl _) V2 hM2.below (fun x hx=>(nws_out hx).2)
   obtain ⟨u,rfl,hu⟩:=cv_u hcv2
   have hcl:=hcv2.1
   obtain ⟨A,hA⟩:∃ A,(cc c u).toArray=A:=⟨_,rfl⟩
   have hsz:A.size=29:=by rw [←hA,List.size_toArray];exact cc_len hcl _
   have hone:A.all (·.oneCell')=true:=by rw [←hA];exact cc_one c hu
   have i29:(Tryz.prog.info? 39).map (·.size)=some A.size:=by rw [hsz];kernel_rfl
   obtain ⟨K,hK⟩:∃ K,nws wr.heap.size V2=K:=⟨_,rfl⟩
   rw [hK] at hon hM2
   have HON:Hid ((∀ w1:World,w1.heap.size≤w.heap.size→On w1 K (fun X=>CV X (.agg (cc c u).toArray) c))∧(cc c u).toArray=A∧(st_one (c:=c) (u:=u) N hu=st_one (c:=c) (u:=u) N hu)):=⟨hon,hA,rfl⟩
   obtain ⟨g7,hg7⟩:∃ g,V2.heap.size=g:=⟨_,rfl⟩
   have hk7:(V2.alloc (.cells cz 39)).heap[g7]? = some (.cells cz 39):=by rw [←hg7];exact heap_alloc_new _ _
   have HM3:Hid (Mem w ((V2.alloc (.cells cz 39)).setRow g7 A) ((g7,.cells A 39)::(K++[(g4,.cells (Value.int .u64 N::cz.toList).toArray stS (0,0)),(g2,.cells s0A stS (0,0))]))):=by
    rw [←hg7,World.setRow_alloc_new];exact hM2.front _ rfl
   rw [hA]
   have hz29:(cz:Array Value).size=A.size:=by rw [hsz];rfl
   have hAS:(Value.int .u64 N::A.toList).toArray.size=30:=by simp [hsz]
   have hAO:(Value.int .u64 N::A.toList).toArray.all (·.oneCell')=true:=by rw [←hA];exact st_one N hu
   clear hM2 hcv hcv2 hon C HM hA hK hb2
   go_upto_region 10 with (refine wpList_store_row rfl 39 (.tmp 7) (.tmp 33) (by with_reducible rfl) g7 A (by simp [Act.eval];try exact hg7) (by first | rfl | simp [Act.eval]) 39 cz hk7 i29 hz29 hone ?_)
   refine wp_letter (fun X=>Mem w X ((g7,.cells A 39)::(K++[(g4,.cells (Value.int .u64 N::cz.toList).toArray stS (0,0)),(g2,.cells s0A stS (0,0))]))) (by exact HM3.out) ?_
   intro V3 hM3
   try simp only [hg7]
   clear HM3 hk7 hg7 hz29
   have k7:=hM3.get 0 rfl
   have hM4:Mem w V3 ((g4,.cells (([Value.int .u64 N])++(cz.toList++[])).toArray stS (0,0))::(g2,.cells s0A stS (0,0))::(g7,.cells A 39)::K):=hM3.perm (by
    classical
    rw [List.perm_iff_count]
    intro z
    simp only [List.count_append,List.count_cons,List.count_nil,List.append_nil,List.singleton_append]
    omega)
   have hth:V3.there g4 1 A.size:=mem_there hM4 (by rw [hsz];exact Nat.le_refl 30)
   have hM5:=mem_mid A.toList cz.toList [Value.int .u64 N] V3 (by rw [Array.length_toList,Array.length_toList,hsz];rfl) hM4
   rw [List.append_nil,List.singleton_append,List.length_singleton] at hM5
   have HM5:Hid (Mem w (V3.setCells g4 1 A.toList) ((g4,.cells (Value.int .u64 N::A.toList).toArray stS (0,0))::(g2,.cells s0A stS (0,0))::(g7,.cells A 39)::K)):=hM5
   clear hM3 hM4 hM5
   have CF:=failed_any 0 V3
   go_wp2_with fail
   refine CF.mono ?_
   rintro e _ ⟨rfl,rfl⟩
   have hz0:((0:Int) != 0)=false:=rfl
   go_upto_region 13 with (first | (refine wpList_load_row rfl 39 (.tmp 7) (by with_reducible rfl) g7 (by first | rfl | simp [Act.eval]) 39 A (0,0) _ k7 Tryz.underlying39 rfl i29 ?_) | (refine wpList_store_mid rfl 39 (.tmp 41) (.tmp 40) (by with_reducible rfl) g4 1 A (by first | rfl | simp [Act.eval]) (by first | rfl | simp [Act.eval]) hth i29 hone ?_) | fail)
   refine wp_letter (fun X=>Mem w X ((g4,.cells (Value.int .u64 N::A.toList).toArray stS (0,0))::(g2,.cells s0A stS (0,0))::(g7,.cells A 39)::K)) (by exact HM5.out) ?_
   intro V4 hM
   clear HM5 hth k7
   have k4:=hM.get 0 rfl
   have k2:=hM.get 1 rfl
   have hM6:=hM.wrote 1 rfl (wrote_setRow V4 g2 _ (Value.int .u64 N::A.toList).toArray _ k2)
   have hR:RdP w N c (.returned (.tuple #[.agg (Value.int .u64 N::A.toList).toArray,.int .i64 0])) (V4.setRow g2 (Value.int .u64 N::A.toList).toArray):=by
    refine ⟨u,K,by rw [←HON.out.2.1],hM6.sub.sub.sub,HON.out.1⟩
   have k6:(V4.setRow g2 (Value.int .u64 N::A.toList).toArray).heap[g2]? = some (.cells (Value.int .u64 N::A.toList).toArray stS (0,0)):=hM6.get 1 rfl
   generalize hB:(Value.int .u64 N::A.toList).toArray=B at *
   have j30:(Tryz.prog.info? stS).map (·.size)=some B.size:=by rw [hAS];kernel_rfl
   have z30:s0A.size=B.size:=by rw [hAS];rfl
   have HRR:Hid (RdP w N c (.returned (.tuple #[.agg B,.int .i64 0])) (V4.setRow g2 B)):=hR
   clear hM hM6 HON hR hB
   go_wp2_with (first | (refine wpList_load_row rfl stS (.tmp 4) (by with_reducible rfl) g4 (by first | rfl | simp [Act.eval]) stS B (0,0) _ k4 Tryz.underlying96 rfl j30 ?_) | (refine wpList_store_row rfl stS (.tmp 2) (.tmp 42) (by with_reducible rfl) g2 B (by first | rfl | simp [Act.eval]) (by first | rfl | simp [Act.eval]) stS s0A k2 j30 z30 hAO ?_) | fail)
   refine bodyPost_ret (v:=.tuple #[.agg B,.int .i64 0]) ?_ rfl HRR.out
   exact results_two' (p:=2) (q:=3) (ty:=stS) rfl _ _ g2 _ rfl (run_loadVar_row _ _ stS stS _ (0,0) _ k6 Tryz.underlying96 rfl j30)
end Go.Proofs.YtdigofgjhaakmaaGreatDoor
namespace Go.Proofs.YtdigofgjhaakmaaGreatDoor
open Go.RowKit
open Va
end Go.Proofs.YtdigofgjhaakmaaGreatDoor
namespace Go.Proofs.YtdigofgjhaakmaaGreatDoor
open Go.RowKit
open Va
open Ad (nam)
theorem tenant14_any {W:World} {v:Value} {t:Ten} (hv:Vs W) (h:TV W v t) (hm:TSm t):Calls Tryz.prog 101 #[v] W fun e V=>e=.returned (.int .i64 (tchk t))∧Below W.heap.size W V:=by
 obtain ⟨tl,pa,sa,qa,pc,sc,qc,rfl,hx⟩:=h.tb
 obtain ⟨g,hg⟩:∃ g,W.heap.size=g:=⟨_,rfl⟩
 have hM0:Mem W (W.alloc (.cells tl.toArray 46)) [(g,.cells tl.toArray 46)]:=(Mem.nil W).push1 hg.symm
 have HM0:Hid (Mem W (W.alloc (.cells tl.toArray 46)) [(g,.cells tl.toArray 46)]):=hM0
 have HC:Hid (∀ X,Below W.heap.size W X→Calls Tryz.prog 134 #[.agg tl.toArray] X (Rls X (Va.trs t))):=fun X hX=>trules_any (hv.below hX) (hx.later hX).tv hm
 have i33:=i33_of hx.len
 have HL:Hid ((Va.trs t).length=17):=rfl
 unfold tchk
 clear hv h hm hx hM0
 generalize Va.trs t=ES at *
 generalize tl.toArray=A at *
 go_enter Tryz.func101,Tryz.ntmps101
 go_upto_region 1 with fail
 refine wp_letter (fun X=>Mem W X [(g,.cells A 46)]) (by exact HM0.out) ?_
 intro V hM
 try simp only [hg]
 clear HM0 hg
 have hk:=hM.get 0 rfl
 have C:=HC.out V hM.below
 have HB:Hid (Below W.heap.size W V):=hM.below
 clear HC hM
 go_wp2_with (refine wpList_load_row rfl 46 (.tmp 1) (by with_reducible rfl) g (by first | rfl | simp [Act.eval]) 46 A (0,0) _ hk Tryz.underlying46 rfl i33 ?_)
 refine C.mono ?_
 rintro _ X ⟨gl,rfl,h1,h2⟩
 have C2:=first_any rfl (by rw [HL.out];omega) h1
 have HB2:Hid (Below W.heap.size W X):=HB.out.trans (h2.mono HB.out.size)
 clear C h1 h2 HB
 go_wp2_with fail
 refine C2.mono ?_
 rintro _ X2 ⟨rfl,hb⟩
 go_wp2_with fail
 go_ret
 exact ⟨rfl,HB2.out.trans (hb.mono HB2.out.size)⟩
end Go.Proofs.YtdigofgjhaakmaaGreatDoor
namespace Go.Proofs.YtdigofgjhaakmaaGreatDoor
open Go.RowKit
open La
open Ad
open Sm (IsBytes)
namespace La
def adr (a b c d:Int):Int:=a * 16777216+b * 65536+c * 256+d
theorem adr_range {a b c d:Int} (ha:0≤a∧a≤255) (hb:0≤b∧b≤255) (hc:0≤c∧c≤255) (hd:0≤d∧d≤255):R32 (adr a b c d):=by unfold R32 adr;omega
def mkS (i:Nat) (p2 st tw:Bool) (lo hi fi se qu ra bu:Int):Ten :=
 ⟨⟨#[UInt8.ofNat (97+i)]⟩,100+(i:Int),[(i:Int)+1,0,0,0,0,0,0,0],adr 10 9 0 ((i:Int)+1),[2,9,(i:Int),0,0,0],[2,7,(i:Int),0,0,0],
  if p2 then [adr 5 5 i 1,adr 5 5 i 2] else [adr 5 5 i 1],lo,hi,fi,if st then [(adr 10 0 0 9,adr 5 6 i 9)] else [],if tw then [(adr 192 168 0 5,adr 8 8 8 8),(adr 192 168 0 6,adr 5 5 i 1)] else [],se,qu,ra,bu⟩
structure SRg (lo hi fi se qu ra bu:Int):Prop where
 lo:0≤lo∧lo≤9999
 hi:0≤hi∧hi≤9999
 fi:0≤fi∧fi≤2
 se:0≤se∧se≤99
 qu:0≤qu∧qu≤99
 ra:0≤ra∧ra≤99
 bu:0≤bu∧bu≤99
def SeatT (i:Nat) (t:Ten):Prop:=∃ p2 st tw lo hi fi se qu ra bu,t=mkS i p2 st tw lo hi fi se qu ra bu∧SRg lo hi fi se qu ra bu
def SeatC (n:Nat) (c:Cgf):Prop:=∃ (d:Int) (ts:List Ten),0≤d∧d≤7∧c=⟨adr 10 9 0 200,[2,1,0,0,0,0],[2,2,0,0,0,0],[2,3,0,0,0,0],[200,0,0,0,0,0,0,0],d,ts⟩∧ts.length=n∧n≤4∧∀ i t,ts[i]? = some t→SeatT i t
theorem dec_le {n:Int} (k:Nat) (h:n.toNat < 10 ^ (k+1)):(dec n).length≤k+1:=by
 have:∀ k n,n < 10 ^ (k+1)→(Lib.decDigits n).length≤k+1:=by
  intro k
  induction k with
  | zero=>intro n h;rw [dec_small (by omega)];simp
  | succ k ih =>
   intro n h
   by_cases h10:n < 10
   ·rw [dec_small h10];simp
   ·rw [dec_big h10,List.length_append]
    have:=ih (n / 10) (by rw [Nat.pow_succ] at h;omega)
    simp only [List.length_cons,List.length_nil];omega
 exact this k _ h
theorem ipx_le {n:Int} (h:R32 n):(ipx n).length≤15:=by
 unfold ipx ipt
 have d:∀ m:Nat,m < 1000→(Lib.decDigits m).length≤3:=fun m hm=>by
  have:=dec_le (n:=(m:Int)) 2 (by simpa using hm)
  simpa [dec] using this
 have h1:=d (n.toNat / 16777216) (by have:=h.2;omega)
 have h2:=d (n.toNat / 65536 % 256) (by omega)
 have h3:=d (n.toNat / 256 % 256) (by omega)
 have h4:=d (n.toNat % 256) (by omega)
 simp only [Lib.join_cons,Lib.joinTail,List.length_append,List.length_cons,List.length_nil]
 simp [Lib.joinTail]
 omega
theorem mact_six {l:List Int} (h:l.length=6):(mact l).length=17:=by
 obtain ⟨a,b,c,d,e,f,rfl⟩:=six h
 simp [mact,Lib.join_cons,Lib.joinTail,hex2]
theorem spc_le (b:List UInt8):∀ xs:List (List UInt8),(spc (b::xs)).length=b.length+(xs.map (fun x=>x.length+1)).sum+1:=by
 intro xs
 have:∀ (xs:List (List UInt8)) (b:List UInt8),(Lib.join (b::xs) [32]).length=b.length+(xs.map (fun x=>x.length+1)).sum:=by
  intro xs
  induction xs with
  | nil=>intro b;simp [Lib.join_one]
  | cons x xs ih =>
   intro b
   have e:Lib.join (b::x::xs) [32]=b++(32::Lib.join (x::xs) [32]):=by
    rw [Lib.join_cons,Lib.join_cons];simp [Lib.joinTail]
   rw [e,List.length_append,List.length_cons,ih x,List.map_cons,List.sum_cons]
   omega
 unfold spc
 rw [List.length_append,this xs b]
 rfl
theorem SeatT.len {i:Nat} {t:Ten} (h:SeatT i t) (hi:i < 4):((txtT t).flatMap spc).length≤340:=by
 obtain ⟨p2,st,tw,lo,hi2,fi,se,qu,ra,bu,rfl,r⟩:=h
 have A:∀ a b c d:Int,0≤a∧a≤255→0≤b∧b≤255→0≤c∧c≤255→0≤d∧d≤255→(ipx (adr a b c d)).length≤15:=fun a b c d h1 h2 h3 h4=>ipx_le (adr_range h1 h2 h3 h4)
 have a1:=A 10 9 0 ((i:Int)+1) (by omega) (by omega) (by omega) (by omega)
 have a2:=A 5 5 i 1 (by omega) (by omega) (by omega) (by omega)
 have a3:=A 5 5 i 2 (by omega) (by omega) (by omega) (by omega)
 have a4:=A 10 0 0 9 (by omega) (by omega) (by omega) (by omega)
 have a5:=A 5 6 i 9 (by omega) (by omega) (by omega) (by omega)
 have a6:=A 192 168 0 5 (by omega) (by omega) (by omega) (by omega)
 have a7:=A 8 8 8 8 (by omega) (by omega) (by omega) (by omega)
 have a8:=A 192 168 0 6 (by omega) (by omega) (by omega) (by omega)
 have d1:=dec_le (n:=100+(i:Int)) 2 (by omega)
 have d2:=dec_le (n:=lo) 3 (by have:=r.lo;omega)
 have d3:=dec_le (n:=hi2) 3 (by have:=r.hi;omega)
 have d4:=dec_le (n:=se) 1 (by have:=r.se;omega)
 have d5:=dec_le (n:=qu) 1 (by have:=r.qu;omega)
 have d6:=dec_le (n:=ra) 1 (by have:=r.ra;omega)
 have d7:=dec_le (n:=bu) 1 (by have:=r.bu;omega)
 have m1:(mact [2,9,(i:Int),0,0,0]).length=17:=mact_six rfl
 have m2:(mact [2,7,(i:Int),0,0,0]).length=17:=mact_six rfl
 have k1:(keyt [(i:Int)+1,0,0,0,0,0,0,0]).length=16:=by rw [keyt_len];rfl
 have f1:(fw fi).length≤7:=by
  have:=r.fi
  have:fi=0∨fi=1∨fi=2:=by omega
  rcases this with rfl | rfl | rfl <;> decide
 have hp:((txtP (mkS i p2 st tw lo hi2 fi se qu ra bu)).flatMap spc).length≤37:=by
  cases p2
  ·show ((if [adr 5 5 i 1]=[] then [] else [wPool::[adr 5 5 i 1].map ipx]).flatMap spc).length≤37
   rw [if_neg (by simp)]
   simp only [List.flatMap_cons,List.flatMap_nil,List.append_nil,spc_le,List.map_cons,List.map_nil,List.sum_cons,List.sum_nil]
   have:wPool.length=4:=rfl
   omega
  ·show ((if [adr 5 5 i 1,adr 5 5 i 2]=[] then [] else [wPool::[adr 5 5 i 1,adr 5 5 i 2].map ipx]).flatMap spc).length≤37
   rw [if_neg (by simp)]
   simp only [List.flatMap_cons,List.flatMap_nil,List.append_nil,spc_le,List.map_cons,List.map_nil,List.sum_cons,List.sum_nil]
   have:wPool.length=4:=rfl
   omega
 have hs:((txtS wStatic (mkS i p2 st tw lo hi2 fi se qu ra bu).stat).flatMap spc).length≤39:=by
  cases st
  ·show ((txtS wStatic []).flatMap spc).length≤39
   decide
  ·show ((txtS wStatic [(adr 10 0 0 9,adr 5 6 i 9)]).flatMap spc).length≤39
   simp only [txtS,List.flatMap_cons,List.flatMap_nil,List.append_nil,spc_le,List.map_cons,List.map_nil,List.sum_cons,List.sum_nil]
   have:wStatic.length=6:=rfl
   omega
 have ht:((txtS wTwice (mkS i p2 st tw lo hi2 fi se qu ra bu).twi).flatMap spc).length≤76:=by
  cases tw
  ·show ((txtS wTwice []).flatMap spc).length≤76
   decide
  ·show ((txtS wTwice [(adr 192 168 0 5,adr 8 8 8 8),(adr 192 168 0 6,adr 5 5 i 1)]).flatMap spc).length≤76
   simp only [txtS,List.flatMap_cons,List.flatMap_nil,List.append_nil,spc_le,List.map_cons,List.map_nil,List.sum_cons,List.sum_nil,List.length_append]
   have:wTwice.length=5:=rfl
   omega
 unfold txtT txtR
 rw [List.flatMap_cons,List.flatMap_append,List.flatMap_cons,List.flatMap_cons,List.flatMap_append,List.flatMap_append]
 simp only [List.length_append,List.flatMap_cons,List.flatMap_nil,List.append_nil,List.length_nil]
 have q1:(spc (txtH (mkS i p2 st tw lo hi2 fi se qu ra bu))).length≤108:=by
  show (spc [wTenant,[UInt8.ofNat (97+i)],wVni,dec (100+(i:Int)),wKey,keyt [(i:Int)+1,0,0,0,0,0,0,0],wVtep,ipx (adr 10 9 0 ((i:Int)+1)),mact [2,9,(i:Int),0,0,0],wHost,mact [2,7,(i:Int),0,0,0]]).length≤108
  rw [spc_le]
  simp only [List.map_cons,List.map_nil,List.sum_cons,List.sum_nil,List.length_cons,List.length_nil,wTenant,wVni,wKey,wVtep,wHost]
  omega
 have q2:(spc [wPorts,dec lo,dec hi2]).length≤16:=by
  rw [spc_le];simp only [List.map_cons,List.map_nil,List.sum_cons,List.sum_nil,wPorts,List.length_cons,List.length_nil];omega
 have q3:(spc [wFilter,fw fi]).length≤15:=by
  rw [spc_le];simp only [List.map_cons,List.map_nil,List.sum_cons,List.sum_nil,wFilter,List.length_cons,List.length_nil];omega
 have q4:(spc [wQuota,dec se,dec qu]).length≤12:=by
  rw [spc_le];simp only [List.map_cons,List.map_nil,List.sum_cons,List.sum_nil,wQuota,List.length_cons,List.length_nil];omega
 have q5:(spc [wRate,dec ra,dec bu]).length≤11:=by
  rw [spc_le];simp only [List.map_cons,List.map_nil,List.sum_cons,List.sum_nil,wRate,List.length_cons,List.length_nil];omega
 have e1:(mkS i p2 st tw lo hi2 fi se qu ra bu).lo=lo:=rfl
 have e2:(mkS i p2 st tw lo hi2 fi se qu ra bu).hi=hi2:=rfl
 have e3:(mkS i p2 st tw lo hi2 fi se qu ra bu).filter=fi:=rfl
 have e4:(mkS i p2 st tw lo hi2 fi se qu ra bu).sess=se:=rfl
 have e5:(mkS i p2 st tw lo hi2 fi se qu ra bu).queue=qu:=rfl
 have e6:(mkS i p2 st tw lo hi2 fi se qu ra bu).rate=ra:=rfl
 have e7:(mkS i p2 st tw lo hi2 fi se qu ra bu).burst=bu:=rfl
 rw [e1,e2,e3,e4,e5,e6,e7]
 omega
theorem SeatC.len {n:Nat} {c:Cgf} (h:SeatC n c):(txt c).length≤110+340 * n:=by
 obtain ⟨d,ts,h0,h1,rfl,hl,hn,ht⟩:=h
 unfold txt lnsOf
 rw [List.flatMap_cons,List.length_append]
 have q:(spc (txtG ⟨adr 10 9 0 200,[2,1,0,0,0,0],[2,2,0,0,0,0],[2,3,0,0,0,0],[200,0,0,0,0,0,0,0],d,ts⟩)).length≤110:=by
  show (spc [wGateway,ipx (adr 10 9 0 200),mact [2,1,0,0,0,0],mact [2,2,0,0,0,0],mact [2,3,0,0,0,0],keyt [200,0,0,0,0,0,0,0],wDrain,dec d]).length≤110
  have a1:(ipx (adr 10 9 0 200)).length≤15:=ipx_le (adr_range (by omega) (by omega) (by omega) (by omega))
  have m1:(mact [2,1,0,0,0,0]).length=17:=mact_six rfl
  have m2:(mact [2,2,0,0,0,0]).length=17:=mact_six rfl
  have m3:(mact [2,3,0,0,0,0]).length=17:=mact_six rfl
  have k1:(keyt [200,0,0,0,0,0,0,0]).length=16:=by rw [keyt_len];rfl
  have d1:=dec_le (n:=d) 0 (by omega)
  rw [spc_le]
  simp only [List.map_cons,List.map_nil,List.sum_cons,List.sum_nil,wGateway,wDrain,List.length_cons,List.length_nil]
  omega
 have key:∀ (k:Nat) (us:List Ten),(∀ i t,us[i]? = some t→SeatT (k+i) t)→k+us.length≤4→((us.flatMap txtT).flatMap spc).length≤340 * us.length:=by
  intro k us
  induction us generalizing k with
  | nil=>intro _ _;simp
  | cons t us ih =>
   intro hu hk
   rw [List.flatMap_cons,List.flatMap_append,List.length_append,List.length_cons]
   have h1:=(hu 0 t rfl).len (by simp at hk;omega)
   have h2:=ih (k+1) (fun i t ht=>by have:=hu (i+1) t ht;rw [show k+(i+1)=k+1+i by omega] at this;exact this) (by simp at hk;omega)
   omega
 have:=key 0 ts (fun i t hh=>by rw [Nat.zero_add];exact ht i t hh) (by omega)
 rw [hl] at this
 show (spc (txtG ⟨adr 10 9 0 200,[2,1,0,0,0,0],[2,2,0,0,0,0],[2,3,0,0,0,0],[200,0,0,0,0,0,0,0],d,ts⟩)).length+((ts.flatMap txtT).flatMap spc).length≤_
 omega
end La
theorem addr_any (w:World) (a b c d:Int) (ha:0≤a∧a≤255) (hb:0≤b∧b≤255) (hc:0≤c∧c≤255) (hd:0≤d∧d≤255) :
  Calls Tryz.prog 66 #[.int .u8 a,.int .u8 b,.int .u8 c,.int .u8 d] w fun e w'=>e=.returned (.int .u32 (adr a b c d))∧w=w':=by
 have o1:bits .or .u32 (a * 16777216) (b * 65536)=a * 16777216+b * 65536 :=
  bits_join .u32 32 (by decide) wraps_u32 24 (a * 16777216) (b * 65536) (by omega) (by omega) (by omega) (by omega) (by omega) (by omega)
 have o2:bits .or .u32 (a * 16777216+b * 65536) (c * 256)=a * 16777216+b * 65536+c * 256 :=
  bits_join .u32 32 (by decide) wraps_u32 16 (a * 16777216+b * 65536) (c * 256) (by omega) (by omega) (by omega) (by omega) (by omega) (by omega)
 have o3:bits .or .u32 (a * 16777216+b * 65536+c * 256) d=a * 16777216+b * 65536+c * 256+d :=
  bits_join .u32 32 (by decide) wraps_u32 8 (a * 16777216+b * 65536+c * 256) d (by omega) (by omega) (by omega) (by omega) (by omega) (by omega)
 have v1:=wrap32_small a ha.1 (by omega)
 have v2:=wrap32_small b hb.1 (by omega)
 have v3:=wrap32_small c hc.1 (by omega)
 have v4:=wrap32_small d hd.1 (by omega)
 have u1:=wrap32_small (a * 16777216) (by omega) (by omega)
 have u2:=wrap32_small (b * 65536) (by omega) (by omega)
 have u3:=wrap32_small (c * 256) (by omega) (by omega)
 clear ha hb hc hd
 go_enter Tryz.func66,Tryz.ntmps66
 go_wp2
 go_ret
 exact ⟨rfl,rfl⟩
end Go.Proofs.YtdigofgjhaakmaaGreatDoor
namespace Go.Proofs.YtdigofgjhaakmaaGreatDoor
open Go.RowKit
open La
open Ad
section
variable {w V:World} {g:Nat} {post:List Value} {T:TypeId} {σ:Sg} {W K:List (Nat×Obj)}
end
end Go.Proofs.YtdigofgjhaakmaaGreatDoor
namespace Go.Proofs.YtdigofgjhaakmaaGreatDoor
open Go.RowKit
open Sm
open Cf
open Df
namespace Df
def Lh (h:Chg):Prop:=Lgt h.t∧h.name.size≤300
instance (h:Chg):Decidable (Lh h):=by unfold Lh;infer_instance
def L15 (a b:List Ten) (c:List Chg):Prop:=c.length≤20∧(∀ h∈c,Lh h)∧Lgts a 20∧Lgts b 20
instance (a b:List Ten) (c:List Chg):Decidable (L15 a b c):=by unfold L15;infer_instance
end Df
end Go.Proofs.YtdigofgjhaakmaaGreatDoor
