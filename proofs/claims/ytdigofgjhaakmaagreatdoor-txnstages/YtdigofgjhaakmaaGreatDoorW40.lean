/-
  A store, its log and its disk as one: what each method does to them.
  A store opened, committed, down.
  The document's store among other blocks: what each of its methods does.
  The statements' seat: its tenants and settings as functions of their kinds.
  An act: its change, its settings; whether a script is light.
  What the statements hold to be known of a first commit.
  Both stores: what each method answers, whatever their state is.
  What an act does to both stores.
  does: what is staged.
-/
import Derived.Test.YtdigofgjhaakmaaGreatDoorW39
import Derived.Test.YtdigofgjhaakmaaGreatDoorW31
import Derived.Test.YtdigofgjhaakmaaGreatDoorW38
import Derived.Test.YtdigofgjhaakmaaGreatDoorW20
import Derived.Test.YtdigofgjhaakmaaGreatDoorW21
import Derived.Test.YtdigofgjhaakmaaGreatDoorW37
import Derived.Test.YtdigofgjhaakmaaGreatDoorW22
set_option linter.unusedVariables false
set_option linter.unusedSimpArgs false
set_option maxRecDepth 20000
set_option maxHeartbeats 40000000
namespace Go.Proofs.YtdigofgjhaakmaaGreatDoor
open Go.RowKit
open Sm
open Cf
open Df
open Va
def Trn (w:World) (K:List (Nat×Obj)) (n:Nat) (sp:Option Addr):Option Cgf→Prop
 | none=>sp=none
 | some c1=>∃ g u1,sp=some ⟨g,0,none⟩∧bxC g c1 u1∈K∧On w K (fun X=>TSV X u1 c1.ten)∧Lig c1∧c1.ten.length≤n
def TxA (w W:World) (p h m N:Nat) (D:Dk) (B:Int) (all:List (List Int)) (ps:Nat) (ver:Int) (c:Cgf) (st:Option Cgf) (n:Nat) (L:List (Nat×Obj)):Prop :=
 ∃ pl u sp K,Sy w W p h m N D pl B all (bxS ps pl ver c u sp false::(K++L))∧On w K (fun X=>TSV X u c.ten)∧Lig c∧c.ten.length≤n∧Trn w K n sp st
theorem Trn.more {w:World} {K K':List (Nat×Obj)} {n n':Nat} {sp:Option Addr} {st:Option Cgf} (h:Trn w K n sp st) (hs:∀ x∈K,x∈K') (hn:n≤n'):Trn w K' n' sp st:=by
 cases st with
 | none=>exact h
 | some c1 =>
  obtain ⟨g,u1,h1,h2,h3,h4,h5⟩:=h
  exact ⟨g,u1,h1,hs _ h2,h3.more hs,h4,by omega⟩
theorem lig_few {c:Cgf} (h:Lig c) {zs:List Tv} (e:zs.map Prod.fst=c.ten):∀ z∈zs,TFew z.1∧Nf z.1:=by
 intro z hz
 have hm:z.1∈c.ten:=by rw [←e];exact List.mem_map_of_mem hz
 obtain ⟨a,b,d,f⟩:=(h.ten _ hm).2.2
 exact ⟨⟨by omega,by omega,by omega⟩,by omega,by omega,by omega,by omega⟩
theorem lig_app {c1:Cgf} (h:Lig c1) {y:Chg} (hy:TIn y.t∧TRg y.t∧Lgt y.t):Lig { c1 with ten:=app c1.ten [y] } :=
 ⟨⟨⟨h.cin.len.mac,h.cin.len.omac,h.cin.len.nmac,h.cin.len.key⟩,h.cin.mac,h.cin.omac,h.cin.nmac,h.cin.key⟩,⟨h.crg.ip,h.crg.drain⟩,fun t ht=>by
  rcases mem_app ht with hx | ⟨h',hm,-,rfl⟩
  ·exact h.ten t hx
  ·rw [List.mem_singleton] at hm;subst hm;exact hy⟩
theorem lig_gate {c1 c2:Cgf} (h:Lig c1) (h2:CIn c2) (h3:CRg c2):Lig { c2 with ten:=c1.ten } :=
 ⟨⟨⟨h2.len.mac,h2.len.omac,h2.len.nmac,h2.len.key⟩,h2.mac,h2.omac,h2.nmac,h2.key⟩,⟨h3.ip,h3.drain⟩,h.ten⟩
theorem bytes_16 (l:List Int) (h:∀ x∈l,0≤x∧x≤255):IsBytes l:=by
 intro i
 by_cases hi:i < l.length
 ·have:=h _ (List.getElem_mem hi);simpa [List.getD,hi] using this
 ·simp [List.getD,hi]
theorem lig0:Lig cfg0:=⟨⟨cfg0_len,bytes_16 _ (by decide),bytes_16 _ (by decide),bytes_16 _ (by decide),bytes_16 _ (by decide)⟩,⟨by decide,by decide⟩,by simp [cfg0]⟩
section
variable {w W:World} {p h m N:Nat} {D:Dk} {B:Int} {all:List (List Int)} {ps:Nat} {ver:Int} {c:Cgf} {st:Option Cgf} {n:Nat} {L:List (Nat×Obj)}
theorem TxA.join (H:TxA w W p h m N D B all ps ver c st n L) {V:World} (hb:Below W.heap.size W V):TxA w V p h m N D B all ps ver c st n L:=by
 obtain ⟨pl,u,sp,K,h1,h2⟩:=H
 exact ⟨pl,u,sp,K,h1.join (mem0 hb),h2⟩
theorem TxA.push (H:TxA w W p h m N D B all ps ver c st n L) {V:World} {K':List (Nat×Obj)} (k:Mem W V K'):TxA w V p h m N D B all ps ver c st n (K'++L):=by
 obtain ⟨pl,u,sp,K,h1,h2⟩:=H
 refine ⟨pl,u,sp,K,?_,h2⟩
 obtain ⟨R,hM,hb⟩:=h1.frame
 refine hb _ _ ((hM.more k).perm ?_)
 classical
 rw [List.perm_iff_count]
 intro z
 simp only [List.count_append,List.count_cons]
 omega
theorem TxA.frame (H:TxA w W p h m N D B all ps ver c st n L):∃ R,Mem w W (L++R)∧∀ W' L',Mem w W' (L'++R)→TxA w W' p h m N D B all ps ver c st n L':=by
 obtain ⟨pl,u,sp,K,h1,h2⟩:=H
 obtain ⟨R,hM,hb⟩:=h1.frame
 have hp:∀ L,((bxS ps pl ver c u sp false::(K++L))++R).Perm (L++(bxS ps pl ver c u sp false::(K++R))):=by
  intro L
  classical
  rw [List.perm_iff_count]
  intro z
  simp only [List.count_append,List.count_cons]
  omega
 exact ⟨_,hM.perm (hp L),fun W' L' hM'=>⟨pl,u,sp,K,hb _ _ (hM'.perm (hp L').symm),h2⟩⟩
theorem TxA.mem (H:TxA w W p h m N D B all ps ver c st n L):Mem w W L:=by
 obtain ⟨R,hM,-⟩:=H.frame
 exact ⟨hM.below,fun x hx=>hM.low x (List.mem_append_left _ hx),fun x hx=>hM.at_ x (List.mem_append_left _ hx),(List.nodup_append.mp (by rw [←List.map_append];exact hM.apart)).1⟩
theorem TxA.lig (H:TxA w W p h m N D B all ps ver c st n L):Lig c∧c.ten.length≤n:=by
 obtain ⟨pl,u,sp,K,h1,h2,h3,h4,h5⟩:=H
 exact ⟨h3,h4⟩
theorem TxA.ligT {c1:Cgf} (H:TxA w W p h m N D B all ps ver c (some c1) n L):Lig c1∧c1.ten.length≤n:=by
 obtain ⟨pl,u,sp,K,h1,h2,h3,h4,g,u1,h5,h6,h7,h8,h9⟩:=H
 exact ⟨h8,h9⟩
theorem ta_version (H:TxA w W p h m N D B all ps ver c st n L):Calls Tryz.prog 15 #[.pointer (some ⟨ps,0,none⟩)] W fun e W'=>e=.returned (.int .u64 ver)∧W=W':=by
 obtain ⟨pl,u,sp,K,h1,h2⟩:=H
 exact version_any (bx1 h1.mem)
theorem ta_config (H:TxA w W p h m N D B all ps ver c st n L) (hn:n≤900):Calls Tryz.prog 17 #[.pointer (some ⟨ps,0,none⟩)] W fun e V=>∃ v,e=.returned v∧Cpd W c c.ten v V:=by
 obtain ⟨pl,u,sp,K,h1,h2,h3,h4,-⟩:=H
 have hM:=h1.mem
 have hT:=h2.mem hM (by intro x hx;simp [hx])
 obtain ⟨zs,e,hz⟩:=Df.TSV.zv hT
 have hl:zs.length=c.ten.length:=by rw [←e,List.length_map]
 have:=config_any16 (xA_range hM) h3.cin.len hz (fun z hz=>(lig_few h3 e z hz).1) (by omega)
 rw [e] at this;exact this
theorem ta_begin (H:TxA w W p h m N D B all ps ver c none n L):Calls Tryz.prog 22 #[.pointer (some ⟨ps,0,none⟩),.int .u64 ver] W fun e W'=>e=.returned (.int .i64 0)∧TxA w W' p h m N D B all ps ver c (some c) n L:=by
 obtain ⟨pl,u,sp,K,h1,h2,h3,h4,h5⟩:=H
 cases h5
 obtain ⟨R,hM,hb⟩:=h1.frame
 refine (begin_ok (L:=K++L++R) hM h3.cin.len).mono ?_
 rintro e W' ⟨g,rfl,hM'⟩
 refine ⟨rfl,pl,u,_,bxC g c u::K,hb _ _ ?_,h2.more (fun x hx=>by simp [hx]),h3,h4,g,u,rfl,by simp,h2.more (fun x hx=>by simp [hx]),h3,h4⟩
 exact hM'
theorem ta_begin_no (H:TxA w W p h m N D B all ps ver c st n L) {v k:Int} (hk:(st≠none∧k=110)∨(st=none∧v≠ver∧k=112)):Calls Tryz.prog 22 #[.pointer (some ⟨ps,0,none⟩),.int .u64 v] W fun e W'=>e=.returned (.int .i64 k)∧W=W':=by
 obtain ⟨pl,u,sp,K,h1,h2,h3,h4,h5⟩:=H
 have hM:=h1.mem
 have e:bgc false sp v ver=k:=by
  rcases hk with ⟨a,rfl⟩ | ⟨rfl,b,rfl⟩
  ·cases st with
   | none=>exact absurd rfl a
   | some c1=>obtain ⟨g,u1,rfl,-⟩:=h5;rfl
  ·cases h5;simp [bgc,b]
 have:=begin_no (v:=v) (bx1 hM) (bx31 hM h3.cin.len) (bx32 hM h3.cin.len) (by rw [e];rcases hk with ⟨-,rfl⟩ | ⟨-,-,rfl⟩ <;> decide)
 rw [e] at this;exact this
theorem ta_abort {c1:Cgf} (H:TxA w W p h m N D B all ps ver c (some c1) n L):Calls Tryz.prog 23 #[.pointer (some ⟨ps,0,none⟩)] W fun e W'=>e=.returned (.int .i64 0)∧TxA w W' p h m N D B all ps ver c none n L:=by
 obtain ⟨pl,u,sp,K,h1,h2,h3,h4,g,u1,rfl,h6⟩:=H
 obtain ⟨R,hM,hb⟩:=h1.frame
 refine (abort_ok (L:=K++L++R) hM h3.cin.len).mono ?_
 rintro e W' ⟨rfl,hM'⟩
 exact ⟨rfl,pl,u,_,K,hb _ _ hM',h2,h3,h4,rfl⟩
theorem ta_abort_no (H:TxA w W p h m N D B all ps ver c none n L):Calls Tryz.prog 23 #[.pointer (some ⟨ps,0,none⟩)] W fun e W'=>e=.returned (.int .i64 111)∧W=W':=by
 obtain ⟨pl,u,sp,K,h1,h2,h3,h4,h5⟩:=H
 cases h5
 have hM:=h1.mem
 exact abort_no (bx31 hM h3.cin.len) (bx32 hM h3.cin.len) (by decide)
theorem ta_gateway {c1 c2:Cgf} {v:Value} (H:TxA w W p h m N D B all ps ver c (some c1) n L) (h2c:CV W v c2) (hin:CIn c2) (hrg:CRg c2):Calls Tryz.prog 26 #[.pointer (some ⟨ps,0,none⟩),v] W fun e W'=>e=.returned (.int .i64 0)∧TxA w W' p h m N D B all ps ver c (some { c2 with ten:=c1.ten }) n L:=by
 obtain ⟨pl,u,sp,K,h1,h2,h3,h4,g,u1,rfl,h6,h7,h8,h9⟩:=H
 obtain ⟨hl2,u2,rfl,-⟩:=h2c
 obtain ⟨R,hM,hb⟩:=h1.frame
 have hsl:=(h7.mem hM (by intro x hx;simp [hx])).slice
 refine (gateway_ok (L:=K++L++R) hM (by simp [h6]) h3.cin.len h8.cin.len hl2 hsl).mono ?_
 rintro e W' ⟨g',rfl,hM'⟩
 exact ⟨rfl,pl,u,_,bxC g' { c2 with ten:=c1.ten } u1::K,hb _ _ hM',h2.more (fun x hx=>by simp [hx]),h3,h4,g',u1,rfl,by simp,h7.more (fun x hx=>by simp [hx]),lig_gate h8 hin hrg,h9⟩
theorem ta_stage_no (H:TxA w W p h m N D B all ps ver c none n L) (cl:Array Value):Calls Tryz.prog 29 #[.pointer (some ⟨ps,0,none⟩),.agg cl] W fun e W'=>e=.returned (.int .i64 111)∧Below W.heap.size W W':=by
 obtain ⟨pl,u,sp,K,h1,h2,h3,h4,h5⟩:=H
 cases h5
 exact stageS_no h1.mem h3.cin.len (by decide) _
def stg (c1:Cgf) (y:Chg):Cgf:=if ftsB c1.ten y=true then { c1 with ten:=app c1.ten [y] } else c1
theorem ta_stage (hv:Vs W) {c1:Cgf} (H:TxA w W p h m N D B all ps ver c (some c1) n L) (hn:n≤900) {y:Hv} (hyr:Rws W (yz y)) (hy:TIn y.1.t∧TRg y.1.t∧Lgt y.1.t) (hys:y.1.name.size≤1000000) :
 Calls Tryz.prog 29 #[.pointer (some ⟨ps,0,none⟩),.agg (yc y).toArray] W fun e W'=>e=.returned (.int .i64 (if ftsB c1.ten y.1=true then 0 else 90))∧TxA w W' p h m N D B all ps ver c (some (stg c1 y.1)) (n+1) L:=by
 obtain ⟨pl,u,sp,K,h1,h2,h3,h4,g,u1,rfl,h6,h7,h8,h9⟩:=H
 obtain ⟨R,hM,hb⟩:=h1.frame
 obtain ⟨zs,e,hz⟩:=Df.TSV.zv (h7.mem hM (by intro x hx;simp [hx]))
 have hl:zs.length=c1.ten.length:=by rw [←e,List.length_map]
 obtain ⟨a1,a2,a3,a4⟩:=hy.2.2
 refine (stageS_any hv (L:=K++L++R) hM (by simp [h6]) h3.cin.len h8.cin.len hz e (fun z hz=>(lig_few h8 e z hz).2) (by omega) hy.1.len hyr ⟨by omega,by omega,by omega,by omega⟩ hys).mono ?_
 rintro e' W' (⟨hf,rfl,hbl⟩ | ⟨hf,rfl,g',u',B',C',hT,hM'⟩)
 ·rw [if_neg (by rw [hf];decide),stg,if_neg (by rw [hf];decide)]
  exact ⟨rfl,pl,u,_,K,h1.join (mem0 hbl),h2,h3,by omega,g,u1,rfl,h6,h7,h8,by omega⟩
 ·rw [if_pos hf,stg,if_pos hf]
  have hK:On w (bxC g' { c1 with ten:=app c1.ten [y.1] } u'::(B'++C'++K)) (fun X=>TSV X u' (app c1.ten [y.1])):=tsb_on hT (by intro x hx;simp only [List.mem_cons,List.mem_append] at hx ⊢;exact Or.inr (Or.inl hx))
  have hal:=app_length c1.ten [y.1]
  simp only [List.length_singleton] at hal
  refine ⟨rfl,pl,u,_,bxC g' { c1 with ten:=app c1.ten [y.1] } u'::(B'++C'++K),hb _ _ ?_,h2.more (fun x hx=>by simp [hx]),h3,by omega,g',u',rfl,by simp,hK,lig_app h8 hy,by show (app c1.ten [y.1]).length≤n+1;omega⟩
  refine hM'.perm ?_
  simp only [List.cons_append,List.append_assoc]
  exact List.Perm.refl _
theorem ta_staged {c1:Cgf} (H:TxA w W p h m N D B all ps ver c (some c1) n L) (hn:n≤900):Calls Tryz.prog 32 #[.pointer (some ⟨ps,0,none⟩)] W fun e V=>∃ v,e=.returned (.tuple #[v,.int .i64 0])∧Cpd W c1 c1.ten v V:=by
 obtain ⟨pl,u,sp,K,h1,h2,h3,h4,g,u1,rfl,h6,h7,h8,h9⟩:=H
 have hM:=h1.mem
 obtain ⟨zs,e,hz⟩:=Df.TSV.zv (h7.mem hM (by intro x hx;simp [hx]))
 have hl:zs.length=c1.ten.length:=by rw [←e,List.length_map]
 have:=staged_ok hM (by simp [h6]) h3.cin.len h8.cin.len hz (fun z hz=>(lig_few h8 e z hz).1) (by omega)
 rw [e] at this;exact this
end
def TxD (w W:World) (p h m N:Nat) (B:Int) (all:List (List Int)) (ps:Nat) (ver:Int) (c:Cgf) (n:Nat) (L:List (Nat×Obj)):Prop :=
 ∃ pl u K,Sd w W p h m N gone B all (bxS ps pl ver c u none true::(K++L))∧On w K (fun X=>TSV X u c.ten)∧Lig c∧c.ten.length≤n
theorem Rst.lig {all:List (List Int)} {ver:Int} {c:Cgf} (h:Rst all ver c):Lig c∧c.ten.length≤16:=by
 rcases h with ⟨-,-,rfl⟩ | ⟨-,-,-,h,-⟩
 ·exact ⟨lig0,by decide⟩
 ·exact ⟨h.lig,h.len⟩
section
variable {w W:World} {p h m N:Nat} {D:Dk} {B:Int} {all:List (List Int)} {ps:Nat} {ver:Int} {c:Cgf} {st:Option Cgf} {n:Nat} {L:List (Nat×Obj)}
theorem ta_open (H:Sd w W p h m N D B all L) {ga:Addr} (hG:Gl w ga) (hd:D.dead=false) (hn:4≤N) (hm:256≤m) (hB:B≤1000000) (hB0:0≤B) (hal:all.length≤900) (hR:Rst all ver c) {n:Nat} (hn16:16≤n) :
 Calls Tryz.prog 11 #[.pointer (some ⟨p,0,none⟩)] W fun e W'=>∃ ps,e=.returned (.tuple #[.pointer (some ⟨ps,0,none⟩),.int .i64 0])∧TxA w W' p h m N D B all ps ver c none n L∧Below W.heap.size W W':=by
 refine (open16 H hG hd hn hm hB hB0 hal hR).mono ?_
 rintro e W' ⟨ps,rfl,pl,u,K,h1,h2,h3⟩
 exact ⟨ps,rfl,⟨pl,u,none,K,h1,h2,hR.lig.1,Nat.le_trans hR.lig.2 hn16,rfl⟩,h3⟩
def cmE (N m:Nat) (ver:Int) (c1:Cgf):Int:=if chk c1=0 then if room N m < (rcd16 (ver+1) c1).length then 51 else 0 else chk c1
def CmR (w:World) (p h m N:Nat) (D:Dk) (B:Int) (all:List (List Int)) (ps:Nat) (ver:Int) (c c1:Cgf) (n:Nat) (L:List (Nat×Obj)) (k er:Int) (W':World):Prop :=
 (k=0∧er=cmE N m ver c1∧er≠0∧TxA w W' p h m N D B all ps ver c (some c1) n L) ∨
 (k=ver+1∧er=0∧cmE N m ver c1=0∧∃ D',D'.dead=false∧(D.set=false→D'=D)∧Rst (all++[rcd16 (ver+1) c1]) (ver+1) c1∧TxA w W' p h m N D' (B+1) (all++[rcd16 (ver+1) c1]) ps (ver+1) c1 none n L) ∨
 (k=0∧er=42∧cmE N m ver c1=0∧D.set=true∧Rst (all++[rcd16 (ver+1) c1]) (ver+1) c1∧(TxD w W' p h m N (B+1) all ps ver c n L∨TxD w W' p h m N (B+1) (all++[rcd16 (ver+1) c1]) ps ver c n L))
theorem ta_commit (hv:Vs W) {ga:Addr} (hG:Gl w ga) {c1:Cgf} (H:TxA w W p h m N D B all ps ver c (some c1) n L) (hn9:n≤900) (hd:D.dead=false) (hn:4≤N) (hm:256≤m) (hB:B≤800000) (hB0:0≤B) (hal:all.length≤800000) (hv0:0≤ver) (hv1:ver < 900000) :
 Calls Tryz.prog 31 #[.pointer (some ⟨ps,0,none⟩)] W fun e W'=>∃ k er,e=.returned (.tuple #[.int .u64 k,.int .i64 er])∧CmR w p h m N D B all ps ver c c1 n L k er W':=by
 have HH:=H
 obtain ⟨pl,u,sp,K,h1,h2,h3,h4,g,u1,rfl,h6,h7,h8,h9⟩:=H
 have hT:=h7.mem h1.mem (by intro x hx;simp [hx])
 have hrm:=room_le N m
 have hrst:chk c1=0→(rcd16 (ver+1) c1).length≤room N m→Rst (all++[rcd16 (ver+1) c1]) (ver+1) c1:=fun e hl=>Or.inr ⟨by rw [List.getLast?_concat],by omega,by omega,chk_fine h8 e,by omega⟩
 have hcm:chk c1=0→(rcd16 (ver+1) c1).length≤room N m→cmE N m ver c1=0:=fun e hl=>by rw [cmE,if_pos e,if_neg (by omega)]
 refine (commit_any hv hG h1 (by simp [h6]) h3.cin.len h8 hT (by omega) hd hn hm hB hB0 hal hv0 hv1).mono ?_
 rintro e W' ⟨k,er,rfl,hc⟩
 refine ⟨k,er,rfl,?_⟩
 rcases hc with ⟨rfl,a1,a2,a3,a4⟩ | ⟨a1,a2,rfl,rfl,D',a3,a4,a5⟩ | ⟨a1,a2,rfl,rfl,a3,a4,a5⟩
 ·exact Or.inl ⟨rfl,a3,a1,HH.join a4⟩
 ·exact Or.inr (Or.inl ⟨rfl,rfl,hcm a1 a2,D',a3,a4,hrst a1 a2,pl,u1,none,K,a5,h7,h8,h9,rfl⟩)
 ·refine Or.inr (Or.inr ⟨rfl,rfl,hcm a1 a2,a3,hrst a1 a2,?_⟩)
  rcases a5 with a | a
  ·exact Or.inl ⟨pl,u,K,a,h2,h3,h4⟩
  ·exact Or.inr ⟨pl,u,K,a,h2,h3,h4⟩
theorem TxD.join (H:TxD w W p h m N B all ps ver c n L) {V:World} (hb:Below W.heap.size W V):TxD w V p h m N B all ps ver c n L:=by
 obtain ⟨pl,u,K,h1,h2⟩:=H
 exact ⟨pl,u,K,h1.join (mem0 hb),h2⟩
end
def RmS (w:World) (F:List (Nat×Obj)) (pm:Nat) (ver:Int) (c:Cgf) (sm:Option Cgf) (L:List (Nat×Obj)):Prop :=
 ∃ t u ut K zs,(∀ x∈F,x∈K)∧L.Perm (bxM pm ver c u t ut sm.isSome::K)∧CLen c∧CLen t∧ut.oneCell'=true∧On w K (fun X=>ZV X u zs)∧zs.map Prod.fst=c.ten ∧
  ∀ c1,sm=some c1→t=c1∧∃ zt,On w K (fun X=>ZV X ut zt)∧zt.map Prod.fst=c1.ten
theorem pcP (A B K R:List (Nat×Obj)) (x:Nat×Obj) (h:A.Perm (x::K)):(B++(A++R)).Perm (x::(K++(B++R))):=by
 have h1:(B++(A++R)).Perm (A++(B++R)):=by
  rw [←List.append_assoc,← List.append_assoc];exact List.perm_append_comm.append_right R
 exact h1.trans (h.append_right (B++R))
section
variable {w W:World} {pm:Nat} {ver:Int} {c c1:Cgf} {sm:Option Cgf} {F L R:List (Nat×Obj)}
theorem RmS.more (h:RmS w F pm ver c sm L) (C:List (Nat×Obj)):RmS w (C++F) pm ver c sm (C++L):=by
 obtain ⟨t,u,ut,K,zs,hf,hp,hl,ht,ho,hu,hz,hs⟩:=h
 refine ⟨t,u,ut,K++C,zs,fun x hx=>(List.mem_append.mp hx).elim (fun h=>by simp [h]) (fun h=>by simp [hf x h]),?_,hl,ht,ho,hu.left,hz,fun c1 h1=>?_⟩
 ·have:=pcP L C K [] _ hp
  simpa using this
 ·obtain ⟨e,zt,k1,k2⟩:=hs c1 h1
  exact ⟨e,zt,k1.left,k2⟩
theorem RmS.keeps (h:RmS w F pm ver c sm L):∀ x∈F,x∈L:=by
 obtain ⟨t,u,ut,K,zs,hf,hp,h⟩:=h
 exact fun x hx=>hp.symm.subset (List.mem_cons_of_mem _ (hf x hx))
end
end Go.Proofs.YtdigofgjhaakmaaGreatDoor
namespace Go.Proofs.YtdigofgjhaakmaaGreatDoor
open Go.RowKit
open Sm
open Cf
open Df
open Va
open La (adr adr_range R32)
def sQ (i:Nat) (k:Int):Ten:=mkQ i (bits .and .u16 k 4 != 0) (bits .and .u16 k 128 != 0) (bits .and .u16 k 256 != 0) (qlo k) (qhi k) (Int.tmod k 3) (1+bits .and .i64 (k / 512) 7) (1+bits .and .i64 (k / 4096) 3) (bits .and .u32 (k / 16384) 3) (3+bits .and .u32 (k / 8192) 7)
theorem SeatQ.is {i:Nat} {k:Int} {t:Ten} (h:SeatQ i k t):t=sQ i k:=by
 obtain ⟨lo,hi,fi,se,qu,ra,bu,rfl,r⟩:=h
 obtain ⟨h1,h2,h3,h4,h5,h6,h7⟩:=r.is
 rw [h1,h2,h3,h4,h5,h6,h7];rfl
theorem r32_of {x:Int} (h:R32 x):0≤x∧x≤4294967295:=⟨h.1,by have:=h.2;omega⟩
theorem adr_rg {a b c d:Int} (ha:0≤a∧a≤255) (hb:0≤b∧b≤255) (hc:0≤c∧c≤255) (hd:0≤d∧d≤255):0≤adr a b c d∧adr a b c d≤4294967295:=r32_of (adr_range ha hb hc hd)
theorem SeatQ.lig {i:Nat} {k:Int} {t:Ten} (h:SeatQ i k t) (hi:i < 17):TIn t∧TRg t∧Lgt t:=by
 have q:=SeatQ.sq h hi
 obtain ⟨lo,hi2,fi,se,qu,ra,bu,rfl,r⟩:=h
 obtain ⟨l1,l2,l3⟩:=q.len
 refine ⟨⟨⟨rfl,rfl,rfl⟩,bytes_16 _ ?_,bytes_16 _ ?_,bytes_16 _ ?_,?_,by omega,by omega,by omega⟩,⟨?_,?_,?_,?_,?_,?_,?_,?_,?_,?_,?_,?_⟩,?_,by omega,by omega,by omega⟩
 ·intro x hx;simp only [mkQ,List.mem_cons,List.not_mem_nil,or_false] at hx;omega
 ·intro x hx;simp only [mkQ,List.mem_cons,List.not_mem_nil,or_false] at hx;omega
 ·intro x hx;simp only [mkQ,List.mem_cons,List.not_mem_nil,or_false] at hx;omega
 ·show (1:Nat)≤1000000;omega
 ·show 0≤100+(i:Int)∧100+(i:Int)≤4294967295;omega
 ·exact adr_rg (by omega) (by omega) (by omega) (by omega)
 ·show 0≤lo∧lo≤65535;have:=r.lo;have:=r.hi;omega
 ·show 0≤hi2∧hi2≤65535;have:=r.hi;omega
 ·show -9223372036854775808≤fi∧fi≤9223372036854775807;have:=r.fi;omega
 ·show -9223372036854775808≤se∧se≤9223372036854775807;have:=r.se;omega
 ·show -9223372036854775808≤qu∧qu≤9223372036854775807;have:=r.qu;omega
 ·show 0≤ra∧ra≤4294967295;have:=r.ra;omega
 ·show 0≤bu∧bu≤4294967295;have:=r.bu;omega
 ·intro x hx;rcases q.pool x hx with rfl | rfl <;> exact adr_rg (by omega) (by omega) (by omega) (by omega)
 ·intro x hx;rw [q.stat x hx];exact ⟨adr_rg (by omega) (by omega) (by omega) (by omega),adr_rg (by omega) (by omega) (by omega) (by omega)⟩
 ·intro x hx;rcases q.twi x hx with rfl | rfl <;> exact ⟨adr_rg (by omega) (by omega) (by omega) (by omega),adr_rg (by omega) (by omega) (by omega) (by omega)⟩
 ·show (1:Nat)≤300;omega
theorem sc_in (f:Int) (ts:List Ten):CIn (sc f ts):=⟨⟨rfl,rfl,rfl,rfl⟩,bytes_16 [2,1,0,0,0,0] (by decide),bytes_16 [2,2,0,0,0,0] (by decide),bytes_16 [2,3,0,0,0,0] (by decide),bytes_16 [200,0,0,0,0,0,0,0] (by decide)⟩
theorem sc_rg {f:Int} (h:0≤f∧f≤7) (ts:List Ten):CRg (sc f ts):=⟨adr_rg (by omega) (by omega) (by omega) (by omega),by show 0≤f∧f≤4294967295;omega⟩
theorem tenc_few (t:Ten) (hl:TLen t):(tenc t).length≤100+t.name.size+4 * t.pool.length+8 * t.stat.length+8 * t.twi.length:=by
 have h1:=cat_le16 (fun i=>be 4 (t.pool.getD i 0)) 4 (fun i=>by simp only [be_len];omega) (min t.pool.length 255)
 have h2:=cat_le16 (fun i=>spP.enc (t.stat.getD i (0,0))) 8 (fun i=>by simp only [spP_enc,List.length_append,be_len];omega) (min t.stat.length 255)
 have h3:=cat_le16 (fun i=>spP.enc (t.twi.getD i (0,0))) 8 (fun i=>by simp only [spP_enc,List.length_append,be_len];omega) (min t.twi.length 255)
 have h4:(nm t.name).length≤1+t.name.size:=by simp only [nm,List.length_cons,List.length_take,sb_len];omega
 have m1:min t.pool.length 255≤t.pool.length:=Nat.min_le_left _ _
 have m2:min t.stat.length 255≤t.stat.length:=Nat.min_le_left _ _
 have m3:min t.twi.length 255≤t.twi.length:=Nat.min_le_left _ _
 rw [tenc_eq,thead_eq]
 simp only [List.length_append,be_len,hl.key,hl.vmac,hl.host,List.length_cons,List.length_nil]
 omega
theorem cat_one16 (f:Nat→List Int):(cat f 1).length=(f 0).length:=by rw [cat,cat,List.nil_append]
theorem rcd_one {ver:Int} {f:Int} {t:Ten} (hl:TLen t):(rcd16 ver (sc f [t])).length≤200+t.name.size+4 * t.pool.length+8 * t.stat.length+8 * t.twi.length:=by
 have h:=tenc_few t hl
 have e:=cat_one16 (fun i=>tenc ((sc f [t]).ten.getD i ten0))
 have e2:(sc f [t]).ten.getD 0 ten0=t:=rfl
 rw [e2] at e
 rw [rcd_len,cenc_eq,chead,List.length_append,show min (sc f [t]).ten.length 255=1 from rfl,e]
 simp only [List.length_append,be_len,List.length_cons,List.length_nil,Nat.reduceAdd]
 omega
theorem seatC_any (w:World) (a:Option Addr) (n cap:Nat) (ks:Nat→Int) (hks:∀ i,i < n→∃ b off,a=some ⟨b,off,none⟩∧w.cell? ⟨b,off+i,none⟩=some (.int .u16 (ks i))∧0≤ks i∧ks i≤65535) (d:Int) (hd0:0≤d) (hd1:d≤255) :
 Calls Tryz.prog 34 #[.slice a n cap,.int .u8 d] w fun e V=>∃ v,e=.returned v∧CV V v (sc (Int.tmod d 8) ((List.range (min n 4)).map fun j=>sQ j (ks j)))∧Below w.heap.size w V:=by
 refine (sconf16_any w a n cap ks hks d hd0 hd1).mono ?_
 rintro e V ⟨f,ys,u,B,hf,rfl,rfl,hn,hq,hO,hz,hM⟩
 have e1:ys.map (fun y=>y.1.1)=(List.range (min n 4)).map fun j=>sQ j (ks j):=by
  apply List.ext_getElem?
  intro j
  rw [List.getElem?_map,List.getElem?_map,← hn]
  by_cases hj:j < ys.length
  ·rw [List.getElem?_eq_getElem hj,List.getElem?_range hj,Option.map_some,Option.map_some,SeatQ.is (hq j _ (List.getElem?_eq_getElem hj))]
  ·rw [List.getElem?_eq_none (by omega),List.getElem?_eq_none (by simp;omega)];rfl
 refine ⟨_,rfl,?_,hM.below⟩
 rw [←e1]
 exact cv_ys (C:=ys.flatMap (·.2)) (sc_len _ _) rfl hO (zx_zb hz fun x hx=>hx) hM
theorem seatT_any (w:World) (i:Nat) (hi:i < 17) (k:Int) (hk0:0≤k) (hk1:k≤65535):Calls Tryz.prog 35 #[.int .i64 (i:Int),.int .u16 k] w fun e V=>∃ z:Tv,e=.returned (tv z)∧z.1=sQ i k∧SeatQ i k z.1∧Rws V z∧Below w.heap.size w V:=by
 refine (sten14_any w i hi k hk0 hk1).mono ?_
 rintro e V ⟨t,p,s,q,C,rfl,hs,hz,hM⟩
 exact ⟨(t,p,s,q),rfl,SeatQ.is hs,hs,(zb_rws (hz.zb fun x hx=>hx) fun x hx=>hM.at_ x hx).2,hM.below⟩
theorem csame_refl16 (c:Cgf):CSame c c:=⟨rfl,rfl,rfl,rfl,rfl,rfl,rfl,fun i _=>⟨rfl,rfl,rfl,rfl,rfl,rfl,rfl,rfl,rfl,rfl,rfl,rfl,rfl,rfl,rfl,rfl⟩⟩
theorem lig_tfew {c:Cgf} (h:Lig c):∀ t∈c.ten,TFew t:=fun t ht=>by
 obtain ⟨a,b,d,f⟩:=(h.ten t ht).2.2
 exact ⟨by omega,by omega,by omega⟩
theorem app_nil (y:Chg) (h:y.put=true):app [] [y]=[y.t]:=by
 show stp [] y=_
 rw [stp,if_pos h];rfl
end Go.Proofs.YtdigofgjhaakmaaGreatDoor
namespace Go.Proofs.YtdigofgjhaakmaaGreatDoor
open Go.RowKit
open Sm
open Cf
open Df
open Va
def Ac.n (x:Ac):Nat:=(x.nn % 4).toNat
section
variable {w W:World} {x:Ac}
end
def D0:Dk:=⟨false,false,0,0⟩
theorem chk_one {f:Int} {t:Ten} (hf:f≤1000) (h:SQ 0 t):chk (sc f [t])=0:=chk_seat hf (by simp) (by intro j t' hj;cases j with
 | zero=>simp at hj;subst hj;exact h
 | succ j=>simp at hj)
theorem cm_one {N m:Nat} {ver f:Int} {t:Ten} (hf:f≤1000) (hl:TLen t) (h:SQ 0 t) (hr:300≤room N m):cmE N m ver (sc f [t])=0:=by
 have h1:=rcd_one (ver:=ver+1) (f:=f) hl
 obtain ⟨l1,l2,l3⟩:=h.len
 have h2:t.name.size=1:=by rw [h.name];rfl
 rw [cmE,if_pos (chk_one hf h),if_neg (by omega)]
theorem fts_one {ts:List Ten} {t:Ten} (h:SQ 0 t):ftsB ts ⟨true,⟨#[97]⟩,t⟩=true:=by
 unfold ftsB
 rw [if_pos rfl,h.name]
 show (Ad.nam [97] && ((⟨#[97]⟩:ByteArray).toList == (⟨#[UInt8.ofNat (97+0 % 8)]⟩:ByteArray).toList))=true
 decide +kernel
theorem known16 {w:World} (hv:Vs w) {ga:Addr} (hG:Gl w ga):Calls Tryz.prog 8 #[] w fun e V=>e=.returned (.bool true)∧Below w.heap.size w V:=by
 have CN:=sd_new (x:=8) (y:=2048) (n:=8) (m:=2048) rfl rfl w
 have HV:Hid (∀ V,Below w.heap.size w V→Vs V):=fun V hV=>hv.below hV
 have HG:Hid (Gl w ga):=hG
 clear hv hG
 go_enter Tryz.func8,Tryz.ntmps8
 go_wp2_with fail
 refine CN.mono ?_
 rintro e V1 ⟨p,rfl,h,hSd⟩
 have CO:=ta_open hSd HG.out rfl (by omega) (by omega) (by omega) (by omega) (by simp) (ver:=0) (c:=cfg0) (Or.inl ⟨rfl,rfl,rfl⟩) (n:=20) (by omega)
 clear CN hSd
 go_wp2_with fail
 refine CO.mono ?_
 rintro e V2 ⟨ps,rfl,hA,-⟩
 have CV1:=ta_version hA
 have CB:=ta_begin hA
 have hz0:((0:Int) != 0)=false:=rfl
 clear CO hA
 go_wp2_with fail
 refine CV1.mono ?_
 rintro e _ ⟨rfl,rfl⟩
 go_wp2_with fail
 refine CB.mono ?_
 rintro e V3 ⟨rfl,hA⟩
 have HA:Hid (TxA w V3 p h 2048 8 ⟨false,false,0,0⟩ 0 [] ps 0 cfg0 (some cfg0) 20 []):=hA
 have CS:=seatC_any V3 none 0 0 (fun _=>0) (fun i hi=>absurd hi (by omega)) 3 (by omega) (by omega)
 clear CV1 CB hA
 go_wp2_with fail
 refine CS.mono ?_
 rintro e V4 ⟨v,rfl,hcv,hb4⟩
 have CG:=ta_gateway (HA.out.join hb4) hcv (sc_in _ _) (sc_rg (by decide) _)
 obtain ⟨cl,hcl⟩:∃ cl,v=.agg cl:=by obtain ⟨-,u,e,-⟩:=hcv;exact ⟨_,e⟩
 subst hcl
 clear CS HA hcv hb4
 go_wp2_with fail
 refine CG.mono ?_
 rintro e V5 ⟨rfl,hA⟩
 have HA:Hid (TxA w V5 p h 2048 8 ⟨false,false,0,0⟩ 0 [] ps 0 cfg0 (some (sc 3 [])) 20 []):=hA
 have CT:=seatT_any V5 0 (by omega) 3 (by omega) (by omega)
 clear CG hA
 go_wp2_with fail
 refine CT.mono ?_
 rintro e V6 ⟨z,rfl,hz1,hz2,hz3,hb6⟩
 have hzl:=(SeatQ.lig hz2 (by omega))
 have hsq:=SeatQ.sq hz2 (by omega)
 have hA6:=HA.out.join hb6
 have CSt:=ta_stage (y:=yP ⟨#[97]⟩ z) (HV.out V6 hA6.mem.below) hA6 (by omega) hz3 hzl (by show (1:Nat)≤1000000;omega)
 have hft:ftsB (sc 3 []).ten (yP ⟨#[97]⟩ z).1=true:=fts_one hsq
 have est:stg (sc 3 []) (yP ⟨#[97]⟩ z).1=sc 3 [z.1]:=by
  rw [stg,if_pos hft]
  show (⟨_,_,_,_,_,_,app [] [(yP ⟨#[97]⟩ z).1]⟩:Cgf)=_
  rw [app_nil _ rfl];rfl
 rw [hft,if_pos rfl,est] at CSt
 have hbp:=build_p ⟨#[97]⟩ z hzl.1.len V6
 obtain ⟨Y,hY⟩:∃ Y,(yc (yP ⟨#[97]⟩ z)).toArray=Y:=⟨_,rfl⟩
 rw [hY] at CSt hbp
 have HZ:Hid (SQ 0 z.1∧TIn z.1∧z.1=sQ 0 3):=⟨hsq,hzl.1,hz1⟩
 obtain ⟨A,hA⟩:∃ A,tv z=.agg A:=⟨_,rfl⟩
 rw [hA] at hbp
 rw [hA]
 clear CT HA hA6 hz2 hz3 hzl hsq hft est hb6 hz1 hY hA
 go_wp2_with (refine wpList_bld rfl 48 _ (by with_reducible rfl) hbp (by simp [Act.eval,Act.put]) ?_)
 refine CSt.mono ?_
 rintro e V7 ⟨rfl,hA⟩
 have CC:=ta_commit (HV.out V7 hA.mem.below) HG.out hA (by omega) rfl (by omega) (by omega) (by omega) (by omega) (by simp) (by omega) (by omega)
 clear CSt hA hbp
 go_wp2_with fail
 refine CC.mono ?_
 rintro e V8 ⟨k,er,rfl,hc⟩
 have hcm:cmE 8 2048 0 (sc 3 [z.1])=0:=cm_one (by omega) HZ.out.2.1.len HZ.out.1 (by decide)
 rcases hc with ⟨-,a1,a2,-⟩ | ⟨rfl,rfl,-,D',hd1,hd2,hR,hA⟩ | ⟨-,-,-,a1,-⟩
 ·exact absurd (a1.trans hcm) a2
 ·have hD:=hd2 rfl
  subst hD
  have CV1:=ta_version hA
  have CCf:=ta_config hA (by omega)
  have HA:Hid (TxA w V8 p h 2048 8 ⟨false,false,0,0⟩ (0+1) ([]++[rcd16 (0+1) (sc 3 [z.1])]) ps (0+1) (sc 3 [z.1]) none (20+1) []):=hA
  have e1:((0:Int)+1)=1:=rfl
  have w1:IntKind.i64.wrap (0+0)=0:=rfl
  clear CC hcm hA hR hd1 hd2
  go_wp2_with fail
  refine CV1.mono ?_
  rintro e _ ⟨rfl,rfl⟩
  go_wp2_with fail
  refine CCf.mono ?_
  rintro e V9 ⟨v,rfl,hcp⟩
  have hbl:=hcp.below
  have hcv:=hcp.cv (HA.out.lig.1.cin.len)
  obtain ⟨cl9,hcl⟩:∃ cl,v=.agg cl:=by obtain ⟨-,u,e,-⟩:=hcv;exact ⟨_,e⟩
  subst hcl
  have hba:Below V9.heap.size V9 (V9.alloc (.cells #[.int .u16 3] 42)):=(Below.refl _ _).alloc (Nat.le_refl _) _
  have hks:∀ i,i < 1→∃ b off,(some ⟨V9.heap.size,0,none⟩:Option Addr)=some ⟨b,off,none⟩∧(V9.alloc (.cells #[.int .u16 3] 42)).cell? ⟨b,off+i,none⟩=some (.int .u16 3)∧(0:Int)≤3∧(3:Int)≤65535:=by
   intro i hi
   obtain rfl:i=0:=by omega
   exact ⟨V9.heap.size,0,rfl,by rw [World.cell?_alloc_new];rfl,by omega,by omega⟩
  have CS:=seatC_any (V9.alloc (.cells #[.int .u16 3] 42)) (some ⟨V9.heap.size,0,none⟩) 1 1 (fun _=>3) hks 3 (by omega) (by omega)
  have HC9:Hid (CV V9 (.agg cl9) (sc 3 [z.1])∧Below V8.heap.size V8 V9∧Below V9.heap.size V9 (V9.alloc (.cells #[.int .u16 3] 42))):=⟨hcv,hbl,hba⟩
  clear CV1 CCf hcp hcv hbl hba hks
  go_wp2_with fail
  refine CS.mono ?_
  rintro e V10 ⟨v2,rfl,hcv2,hb10⟩
  have hb9:Below V9.heap.size V9 V10:=HC9.out.2.2.trans (hb10.mono HC9.out.2.2.size)
  have hb8:Below V8.heap.size V8 V10:=HC9.out.2.1.trans (hb9.mono HC9.out.2.1.size)
  have e3:(sc (Int.tmod 3 8) ((List.range (min 1 4)).map fun j=>sQ j 3))=sc 3 [z.1]:=by rw [HZ.out.2.2];rfl
  rw [e3] at hcv2
  obtain ⟨cl10,hcl⟩:∃ cl,v2=.agg cl:=by obtain ⟨-,u,e,-⟩:=hcv2;exact ⟨_,e⟩
  subst hcl
  have CH:=hconfig_yes (HC9.out.1.at_ hb9 (Nat.le_refl _)) hcv2 (lig_tfew HA.out.lig.1) (csame_refl16 _)
  have HA10:Hid (TxA w V10 p h 2048 8 ⟨false,false,0,0⟩ (0+1) ([]++[rcd16 (0+1) (sc 3 [z.1])]) ps (0+1) (sc 3 [z.1]) none (20+1) []):=HA.out.join hb8
  clear CS hcv2 hb10 hb9 hb8 e3 HC9 HA
  go_wp2_with fail
  refine CH.mono ?_
  rintro e V11 ⟨rfl,hb11⟩
  have hA11:=HA10.out.join hb11
  have CAb:=ta_abort_no hA11
  have CBn:=ta_begin_no hA11 (v:=0) (k:=112) (Or.inr ⟨rfl,by decide,rfl⟩)
  have HE:Hid (Below w.heap.size w V11):=hA11.mem.below
  clear CH HA10 hb11 hA11
  go_wp2_with fail
  refine CAb.mono ?_
  rintro e _ ⟨rfl,rfl⟩
  go_wp2_with fail
  refine CBn.mono ?_
  rintro e _ ⟨rfl,rfl⟩
  go_wp2_with fail
  go_ret
  exact ⟨rfl,HE.out⟩
 ·cases a1
section
variable {w W:World} {p h m N:Nat} {D:Dk} {B:Int} {all:List (List Int)} {ps:Nat} {ver:Int} {c:Cgf} {st:Option Cgf} {n:Nat} {L:List (Nat×Obj)}
end
section
variable {w W:World} {F:List (Nat×Obj)} {pm:Nat} {ver:Int} {c:Cgf} {sm:Option Cgf} {L R:List (Nat×Obj)}
end
def Bo (w W:World) (F:List (Nat×Obj)) (p h m N:Nat) (D:Dk) (all:List (List Int)) (ps pm:Nat) (ver:Int) (c:Cgf) (st:Option Cgf) (n:Nat):Prop :=
 D.dead=false∧Rst all ver c∧(all.length:Int)=ver∧∃ L,RmS w F pm ver c st L∧TxA w W p h m N D ver all ps ver c st n L
section
variable {w W:World} {F:List (Nat×Obj)} {p h m N:Nat} {D:Dk} {all:List (List Int)} {ps pm:Nat} {ver:Int} {c:Cgf} {st:Option Cgf} {n:Nat}
theorem Bo.join (H:Bo w W F p h m N D all ps pm ver c st n) {V:World} (hb:Below W.heap.size W V):Bo w V F p h m N D all ps pm ver c st n:=by
 obtain ⟨h1,h2,h3,L,h4,h5⟩:=H
 exact ⟨h1,h2,h3,L,h4,h5.join hb⟩
theorem Bo.has (H:Bo w W F p h m N D all ps pm ver c st n):∀ x∈F,W.heap[x.1]? = some x.2:=by
 obtain ⟨h1,h2,h3,L,h4,h5⟩:=H
 exact fun x hx=>h5.mem.at_ x (h4.keeps x hx)
theorem Bo.below (H:Bo w W F p h m N D all ps pm ver c st n):Below w.heap.size w W:=by
 obtain ⟨h1,h2,h3,L,h4,h5⟩:=H
 exact h5.mem.below
theorem Bo.v0 (H:Bo w W F p h m N D all ps pm ver c st n):0≤ver:=by
 obtain ⟨h1,h2,h3,L,h4,h5⟩:=H
 omega
def BoH (w W:World) (F:List (Nat×Obj)) (p h m N:Nat) (D:Dk) (all:List (List Int)) (ps pm:Nat) (ver:Int) (c:Cgf) (st st':Option Cgf) (n:Nat):Prop :=
 D.dead=false∧Rst all ver c∧(all.length:Int)=ver∧∃ L,RmS w F pm ver c st L∧TxA w W p h m N D ver all ps ver c st' n L
theorem BoH.join {st':Option Cgf} (H:BoH w W F p h m N D all ps pm ver c st st' n) {V:World} (hb:Below W.heap.size W V):BoH w V F p h m N D all ps pm ver c st st' n:=by
 obtain ⟨h1,h2,h3,L,h4,h5⟩:=H
 exact ⟨h1,h2,h3,L,h4,h5.join hb⟩
theorem BoH.has {st':Option Cgf} (H:BoH w W F p h m N D all ps pm ver c st st' n):∀ x∈F,W.heap[x.1]? = some x.2:=by
 obtain ⟨h1,h2,h3,L,h4,h5⟩:=H
 exact fun x hx=>h5.mem.at_ x (h4.keeps x hx)
theorem BoH.below {st':Option Cgf} (H:BoH w W F p h m N D all ps pm ver c st st' n):Below w.heap.size w W:=by
 obtain ⟨h1,h2,h3,L,h4,h5⟩:=H
 exact h5.mem.below
end
def DoP (w:World) (F:List (Nat×Obj)) (p h m N:Nat) (D:Dk) (all:List (List Int)) (ps pm:Nat) (ver:Int) (c:Cgf) (st:Option Cgf) (n:Nat) (e:Ending) (V:World):Prop :=
 (∃ k D' all' ver' c' st',e=.returned (.tuple #[.int .i64 k,.int .i64 k])∧(D.set=false→D'=D)∧(ver'=ver∨ver'=ver+1)∧Bo w V F p h m N D' all' ps pm ver' c' st' (n+1)) ∨
 (e=.returned (.tuple #[.int .i64 (-1),.int .i64 0])∧D.set=true∧∃ c1 L,st=some c1∧Rst all ver c∧Rst (all++[rcd16 (ver+1) c1]) (ver+1) c1∧(∀ x∈F,x∈L)∧(TxD w V p h m N (ver+1) all ps ver c (n+1) L∨TxD w V p h m N (ver+1) (all++[rcd16 (ver+1) c1]) ps ver c (n+1) L))
section
variable {w W:World} {F:List (Nat×Obj)} {p h m N:Nat} {D:Dk} {all:List (List Int)} {ps pm:Nat} {ver:Int} {c:Cgf} {st:Option Cgf} {n:Nat} {x:Ac}
theorem DoP.ok {k:Int} {e:Ending} {V:World} {st':Option Cgf} (he:e=.returned (.tuple #[.int .i64 k,.int .i64 k])) (H:Bo w V F p h m N D all ps pm ver c st' (n+1)):DoP w F p h m N D all ps pm ver c st n e V :=
 Or.inl ⟨k,D,all,ver,c,st',he,fun _=>rfl,Or.inl rfl,H⟩
theorem Bo.at_ {g:Nat} {o:Obj} (H:Bo w W F p h m N D all ps pm ver c st n) (hm:(g,o)∈F):W.heap[g]? = some o:=H.has (g,o) hm
theorem BoH.at_ {g:Nat} {o:Obj} {st':Option Cgf} (H:BoH w W F p h m N D all ps pm ver c st st' n) (hm:(g,o)∈F):W.heap[g]? = some o:=H.has (g,o) hm
theorem ten0_in:TIn ten0∧TRg ten0∧Lgt ten0:=by
 refine ⟨⟨⟨rfl,rfl,rfl⟩,bytes_16 _ (by decide),bytes_16 _ (by decide),bytes_16 _ (by decide),by decide,by decide,by decide,by decide⟩,⟨?_,?_,?_,?_,?_,?_,?_,?_,?_,?_,?_,?_⟩,by decide,by decide,by decide,by decide⟩ <;> first | decide | simp [ten0]
end
section
variable {w W:World} {F:List (Nat×Obj)} {p h m N:Nat} {D:Dk} {all:List (List Int)} {ps pm:Nat} {ver:Int} {c:Cgf} {st:Option Cgf} {n:Nat} {x:Ac}
end
end Go.Proofs.YtdigofgjhaakmaaGreatDoor
