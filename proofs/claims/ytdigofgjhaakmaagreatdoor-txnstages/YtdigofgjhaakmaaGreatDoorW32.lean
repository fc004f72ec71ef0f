/-
  What is changed: the document's set.
  Which settings may be: the settings' error.
  Settings as text: settings that are being read: their box, their tenants, the last one's lists apart.
  Settings as text: the program's reader: two addresses; a tenant's other lines, but for lists.
-/
import Derived.Test.YtdigofgjhaakmaaGreatDoorW31
set_option linter.unusedVariables false
set_option linter.unusedSimpArgs false
set_option maxRecDepth 20000
set_option maxHeartbeats 40000000
namespace Go.Proofs.YtdigofgjhaakmaaGreatDoor
open Go.RowKit
open Sm
open Cf
open Df
namespace Df
end Df
end Go.Proofs.YtdigofgjhaakmaaGreatDoor
namespace Go.Proofs.YtdigofgjhaakmaaGreatDoor
open Go.RowKit
open Va
theorem check_any {W:World} {v:Value} {c:Cgf} (hv:Vs W) (h:CV W v c) (hl:c.ten.length≤1000000) (hm:∀ t∈c.ten,TSm t) :
  Calls Tryz.prog 59 #[v] W fun e V=>e=.returned (.int .i64 (chk c))∧Below W.heap.size W V:=by
 obtain ⟨cl,ta,tp,rfl,hx⟩:=h.tb
 obtain ⟨g,hg⟩:∃ g,W.heap.size=g:=⟨_,rfl⟩
 have HM0:Hid (Mem W (W.alloc (.cells cl.toArray 39)) [(g,.cells cl.toArray 39)]):=(Mem.nil W).push1 hg.symm
 have i29:=i29_of hx.len
 have HX:Hid (∀ X,Mem W X [(g,.cells cl.toArray 39)]→X.heap[g]? = some (.cells cl.toArray 39)∧X.cell? ⟨g,28,none⟩=some (.slice ta c.ten.length tp)∧Calls Tryz.prog 83 #[.agg cl.toArray] X (Rls X (grs c))∧∀ i,i < c.ten.length→Calls Tryz.prog 84 #[.agg cl.toArray,.int .i64 (i:Int)] X (Rls X (Va.prs c.ip (c.ten.take i) (c.ten.getD i ten0)))) :=
  fun X hX=>⟨hX.get 0 rfl,cell_tl (hX.get 0 rfl) hx.ten,grules_any (hx.later hX.below).cv,fun i hi=>prules_any (hv.below hX.below) (hx.later hX.below).cv hl hm hi⟩
 obtain ⟨R,hR⟩:∃ R,chk c=R:=⟨_,rfl⟩
 rw [hR]
 have HG:Hid ((grs c).length=3∧(fnz (grs c)≠0→R=fnz (grs c))∧(fnz (grs c)=0→pfrom c 0 (c.ten.length - 0)=R)):=by
  refine ⟨rfl,fun h0=>?_,fun h0=>?_⟩
  ·rw [←hR,chk,if_neg h0]
  ·rw [←hR,chk,if_pos h0];rfl
 have HP:Hid (∀ i,i < c.ten.length→pfrom c i (c.ten.length - i)=R→(Va.prs c.ip (c.ten.take i) (c.ten.getD i ten0)).length=4∧(fnz (Va.prs c.ip (c.ten.take i) (c.ten.getD i ten0))≠0→R=fnz (Va.prs c.ip (c.ten.take i) (c.ten.getD i ten0)))∧(fnz (Va.prs c.ip (c.ten.take i) (c.ten.getD i ten0))=0→pfrom c (i+1) (c.ten.length - (i+1))=R)):=by
  intro i hi hp
  have e:c.ten.length - i=c.ten.length - (i+1)+1:=by omega
  rw [e,pfrom_succ,pchk] at hp
  refine ⟨rfl,fun h0=>?_,fun h0=>?_⟩
  ·rw [if_neg h0] at hp;exact hp.symm
  ·rw [if_pos h0] at hp;exact hp
 have HE:Hid (pfrom c c.ten.length (c.ten.length - c.ten.length)=R→R=0):=by
  intro h;rw [←h,Nat.sub_self];rfl
 have HN:Hid (c.ten.length≤1000000):=hl
 clear hv h hl hm hx hR
 generalize c.ten.length=N at *
 generalize cl.toArray=A at *
 generalize grs c=GS at *
 go_enter Tryz.func59,Tryz.ntmps59
 go_upto_region 1 with fail
 refine wp_letter (fun X=>Mem W X [(g,.cells A 39)]) (by exact HM0.out) ?_
 intro V hM
 try simp only [hg]
 clear HM0 hg
 obtain ⟨k0,-,C,-⟩:=HX.out V hM
 have HM:Hid (Mem W V [(g,.cells A 39)]):=hM
 clear hM
 go_wp2_with (refine wpList_load_row rfl 39 (.tmp 1) (by with_reducible rfl) g (by first | rfl | simp [Act.eval]) 39 A (0,0) _ k0 Tryz.underlying39 rfl i29 ?_)
 refine C.mono ?_
 rintro _ X1 ⟨gl,rfl,h1,h2⟩
 have C2:=first_any rfl (by rw [HG.out.1];omega) h1
 have HM1:Hid (Mem W X1 [(g,.cells A 39)]):=HM.out.after h2
 clear C h1 h2 HM k0
 go_wp2_with fail
 refine C2.mono ?_
 rintro _ X2 ⟨rfl,hb⟩
 have HM2:Hid (Mem W X2 [(g,.cells A 39)]):=HM1.out.after hb
 clear hb C2 HM1
 have HG1:Hid (fnz GS≠0→R=fnz GS):=HG.out.2.1
 have HG2:Hid (fnz GS=0→pfrom c 0 (N - 0)=R):=HG.out.2.2
 clear HG
 generalize fnz GS=F at *
 by_cases hF:F=0
 rotate_left
 ·obtain rfl:=HG1.out hF
  have hF2:(R != 0)=true:=by simp [hF]
  clear HG1 HG2 HX HP HE
  go_wp2_with fail
  go_ret
  exact ⟨rfl,HM2.out.below⟩
 have H0:Hid (pfrom c 0 (N - 0)=R):=HG2.out hF
 subst hF
 obtain ⟨-,c28,-,-⟩:=HX.out X2 HM2.out
 clear HG1 HG2
 go_wp2_with fail
 go_loopw [15] (fun u15 w'=>∃ i:Nat,i≤N∧u15=.int .i64 i∧Hid (pfrom c i (N - i)=R∧Mem W w' [(g,.cells A 39)])) (fun u15 w'=>N - (intOf u15).toNat)
 case atStart=>exact ⟨0,Nat.zero_le _,rfl,H0.out,HM2.out⟩
 case round =>
  obtain ⟨i,hi,rfl,HR⟩:=hrel
  by_cases hlt:i < N
  ·have h1:(i:Int) < N:=by omega
   have hN:=HN.out
   obtain ⟨k0,-,-,CP⟩:=HX.out _ HR.out.2
   have C:=CP i hlt
   have HQ:=HP.out i hlt HR.out.1
   have HM:Hid (Mem W wr [(g,.cells A 39)]):=HR.out.2
   clear CP HX HP HE H0 HM2 c28 HR
   generalize Va.prs c.ip (c.ten.take i) (c.ten.getD i ten0)=PS at *
   have HQ0:Hid (PS.length=4):=HQ.1
   have HQ1:Hid (fnz PS≠0→R=fnz PS):=HQ.2.1
   have HQ2:Hid (fnz PS=0→pfrom c (i+1) (N - (i+1))=R):=HQ.2.2
   clear HQ
   go_wp2_with (refine wpList_load_row rfl 39 (.tmp 1) (by with_reducible rfl) g (by first | rfl | simp [Act.eval]) 39 A (0,0) _ k0 Tryz.underlying39 rfl i29 ?_)
   refine C.mono ?_
   rintro _ X1 ⟨gl,rfl,h1,h2⟩
   have C2:=first_any rfl (by rw [HQ0.out];omega) h1
   have HM1:Hid (Mem W X1 [(g,.cells A 39)]):=HM.out.after h2
   clear C h1 h2 HM k0
   go_wp2_with fail
   refine C2.mono ?_
   rintro _ X2 ⟨rfl,hb⟩
   have HM2:Hid (Mem W X2 [(g,.cells A 39)]):=HM1.out.after hb
   clear hb C2 HM1 HQ0
   generalize fnz PS=F at *
   by_cases hF:F=0
   ·have HH:Hid (pfrom c (i+1) (N - (i+1))=R∧Mem W X2 [(g,.cells A 39)]):=⟨HQ2.out hF,HM2.out⟩
    subst hF
    clear HQ1 HQ2 HM2
    go_wp2_with fail
    go_roundw
    case rel=>exact ⟨i+1,by omega,by go_num,HH⟩
    case measure=>simp [intOf];omega
   ·obtain rfl:=HQ1.out hF
    have hF2:(R != 0)=true:=by simp [hF]
    clear HQ1 HQ2
    go_wp2_with fail
    go_ret
    exact ⟨rfl,HM2.out.below⟩
  ·have h1:¬ ((i:Int) < N):=by omega
   obtain rfl:i=N:=by omega
   obtain rfl:=HE.out HR.out.1
   have HB:Hid (Below W.heap.size W wr):=HR.out.2.below
   clear HX HP HE H0 HM2 c28 HR
   go_wp2_with fail
   go_ret
   exact ⟨rfl,HB.out⟩
end Go.Proofs.YtdigofgjhaakmaaGreatDoor
namespace Go.Proofs.YtdigofgjhaakmaaGreatDoor
open Go.RowKit
open La
theorem owb_mk {T:TypeId} {sz n cap g:Nat} {X Y:List Value} (h1:X.length=n * sz) (h2:n≤cap) (h3:cap≤maxLen) (h4:X.length+Y.length=cap * sz):OwB T sz (.slice (some ⟨g,0,none⟩) n cap) n X [(g,.cells (X++Y).toArray T (0,0))]:=by
 refine ⟨h1,Or.inr ⟨g,cap,_,rfl,rfl,h2,h3,?_,?_⟩⟩
 ·rw [List.size_toArray,List.length_append];exact h4
 ·show (X++Y).take (n * sz)=X
  rw [←h1];exact List.take_left' rfl
end Go.Proofs.YtdigofgjhaakmaaGreatDoor
namespace Go.Proofs.YtdigofgjhaakmaaGreatDoor
open Go.RowKit
open La
open Ad
end Go.Proofs.YtdigofgjhaakmaaGreatDoor
