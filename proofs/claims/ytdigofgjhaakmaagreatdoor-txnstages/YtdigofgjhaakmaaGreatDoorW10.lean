/-
  What package log's readPiece answers.
  Settings as bytes: the field of a list's elements keeps what is asked of a field (lych/api.Tenant, uint32).
  Settings as bytes: the field of a list's elements keeps what is asked of a field (lych/api.Tenant, lych/api.Pair).
  What package log's read answers.
  Settings as bytes: addresses and pairs: the program's address() and pair().
  Settings as bytes: where a tenant's fields lie: the program's own functions in a list.
  What package log's read answers, whatever lies in a slot; a slice of entries of the call's own.
  Settings as bytes: a tenant in memory, as it is written, read, held against another.
-/
import Derived.Test.YtdigofgjhaakmaaGreatDoorW09
import Derived.Test.YtdigofgjhaakmaaGreatDoorW06
import Derived.Test.YtdigofgjhaakmaaGreatDoorW07
import Derived.Test.YtdigofgjhaakmaaGreatDoorW08
set_option linter.unusedVariables false
set_option maxRecDepth 20000
set_option maxHeartbeats 40000000
namespace Go.Proofs.YtdigofgjhaakmaaGreatDoor
open Go.RowKit
open Sm
section
variable {w W:World} {p h m:Nat} {D:Dk} {hc:Array Value} {ks:List Bk} {L:List (Nat×Obj)}
set_option maxRecDepth 20000 in
theorem rp_live (H:DkAt w W p h m D hc ks L) (hd:D.dead=false) (hn:4≤ks.length) (hm:256≤m) {t:TypeId} {v:Value} (hgl:W.cell? ⟨0,0,none⟩=some (.iface t v)) (slot i:Nat) (hs:slot≤1) (hi:i < sbk ks.length) :
  Calls Tryz.prog 125 #[.pointer (some ⟨p,0,none⟩),.int .i64 slot,.int .i64 i] W fun e W'=>∃ g,e=.returned (unfV g m (.iface t v) (rp (ks.map Bk.b) slot i))∧(∃ K,Mem W W' K)∧∀ q,rp (ks.map Bk.b) slot i=some q→Row W' (some ⟨g,63,none⟩) q.b∧q.b.length+64≤m:=by
 have hM:Mem W (W.alloc (.cells pc0 pcT)) [(W.heap.size,.cells pc0 pcT (0,0))]:=(Mem.nil W).push1 rfl
 have H1:=H.join hM
 have hgl1:(W.alloc (.cells pc0 pcT)).cell? ⟨0,0,none⟩=some (.iface t v):=by rw [←hgl];exact hM.old (cell_lt hgl)
 generalize hw1:W.alloc (.cells pc0 pcT)=w1 at *
 have hq:sbk ks.length≤31:=by have:=H.top;unfold sbk;omega
 have hz:slot * sbk ks.length+i < ks.length:=slot_in hs hn hi
 have hk:ks[slot * sbk ks.length+i]? = some (ks[slot * sbk ks.length+i]'hz):=List.getElem?_eq_getElem hz
 generalize ks[slot * sbk ks.length+i]'hz=k at hk
 have hb:=lsb_any H1
 have hr:=dread_yes H1 (slot * sbk ks.length+i) hk hd
 have o:=H1.st.okAt hk
 have hmh:=H.mhi
 have hrp:rp (ks.map Bk.b) slot i=match unf k.b with | none=>none | some q=>if q.i≠i∨(sbk ks.length:Int) < q.n then none else some q:=by
  unfold rp
  rw [List.length_map]
  have:(ks.map Bk.b).getD (slot * sbk ks.length+i) []=k.b:=by simp [List.getD,hk]
  rw [this]
  rfl
 have HM:Hid (Mem W w1 [(W.heap.size,.cells pc0 pcT (0,0))]):=hM
 have HU:Hid (∀ w2 g,Mem w1 w2 [(g,.cells (bs k.b) 5)]→Calls Tryz.prog 162 #[.slice (some ⟨g,0,none⟩) m m] w2 fun e w3=>e=.returned (unfV g m (.iface t v) (unf k.b))∧∃ K,Mem w2 w3 K):=by
  intro w2 g h2
  exact unf_any o.len hm hmh (h2.own 0 rfl o.bytes (by rw [o.len];omega)) (Nat.le_refl _) (by rw [←hgl1];exact h2.old (cell_lt hgl1))
 have HG:Hid (∀ w2 w3 g K,Mem w1 w2 [(g,.cells (bs k.b) 5)]→Mem w2 w3 K→Mem W w3 ([(W.heap.size,.cells pc0 pcT (0,0))]++[(g,.cells (bs k.b) 5)]++K)∧w3.cell? ⟨0,0,none⟩=some (.iface t v)):=by
  intro w2 w3 g K h2 h3
  refine ⟨(hM.join h2).join h3,?_⟩
  have e2:w2.cell? ⟨0,0,none⟩=some (.iface t v):=by rw [←hgl1];exact h2.old (cell_lt hgl1)
  rw [←e2];exact h3.old (cell_lt e2)
 have HF:Hid (∀ q,unf k.b=some q→q.b=sl k.b 63 (63+q.b.length)∧q.b.length+64≤m∧(0≤q.i∧q.i≤255)∧(0≤q.n∧q.n≤255)):=fun q e=>by
  have:=unf_facts e o.len hm o.bytes
  exact ⟨this.1,this.2.1,this.2.2.2.1,this.2.2.2.2.1⟩
 have HO:Hid (k.b.length=m∧IsBytes k.b∧m≤65536):=⟨o.len,o.bytes,hmh⟩
 have HB:Hid (∀ w3 K,Mem w1 w3 K→Calls Tryz.prog 49 #[.pointer (some ⟨p,0,none⟩)] w3 fun e W'=>e=.returned (.int .i64 (sbk ks.length))∧w3=W'):=fun w3 K h3=>lsb_any (H1.join h3)
 have hm1:(slot:Int) * (sbk ks.length:Int)=((slot * sbk ks.length:Nat):Int):=by rw [Int.natCast_mul]
 have hm2:slot * sbk ks.length≤1 * 31:=Nat.mul_le_mul hs hq
 rw [hrp]
 have hpos:=cell_lt hgl
 clear hrp H1 hM o hmh hk hz H hgl hgl1
 generalize slot * sbk ks.length=y at *
 generalize sbk ks.length=x at *
 have hsum:(y:Int)+i=((y+i:Nat):Int):=by omega
 generalize y+i=z at *
 generalize k.b=kb at *
 cases hu:unf kb with
 | none =>
  rw [hu] at HU
  simp only [unfV] at HU
  show Calls _ _ _ _ fun e W'=>∃ g,e=.returned (unfV g m (.iface t v) none)∧(∃ K,Mem W W' K)∧∀ q:Pc,none=some q→Row W' (some ⟨g,63,none⟩) q.b∧q.b.length+64≤m
  simp only [unfV]
  generalize hR:(none:Option Pc)=R
  have HRR:Hid (R=none):=hR.symm
  clear hR
  go_enter Tryz.func125,Tryz.ntmps125
  go_wp2_with fail
  refine hb.mono ?_
  rintro e w' ⟨rfl,rfl⟩
  go_wp2_with fail
  refine hr.mono ?_
  rintro e w2 ⟨g,rfl,h2⟩
  go_wp2_with fail
  refine (HU.out w2 g h2).mono ?_
  rintro e w3 ⟨rfl,K,h3⟩
  obtain ⟨hM3,hg3⟩:=HG.out w2 w3 g K h2 h3
  go_upto_region 5 with fail
  refine wp_letter (fun V=>Mem W V ([(W.heap.size,.cells pc0 pcT (0,0))]++[(g,.cells (bs kb) 5)]++K++[(w3.heap.size,.cells pc0 pcT (0,0))])) (hM3.alloc _) ?_
  intro wx hMx
  have kr:=hMx.cell 0 rfl
  have kf:=hMx.free 0 rfl
  have HMx:Hid (Mem W wx ([(W.heap.size,.cells pc0 pcT (0,0))]++[(g,.cells (bs kb) 5)]++K++[(w3.heap.size,.cells pc0 pcT (0,0))])):=hMx
  clear hMx HM HU HG HF hM3 hg3 h2 h3 hr hb
  go_wp2
  exact bodyPost_ret (v:=.tuple #[.agg pc0,.iface t v]) (by simp [results,Tryz.results125,go_sem,kr]) rfl ⟨0,rfl,⟨_,((((HMx.out.set 0 rfl 0 _).set 0 rfl 1 _).set 0 rfl 2 _).set 0 rfl 3 _).set 0 rfl 4 _⟩,fun q e=>by rw [HRR.out] at e;cases e⟩
 | some q =>
  obtain ⟨f1,f2,f3,f4⟩:=HF.out q hu
  rw [hu] at HU
  obtain ⟨qt,qc,qi,qn,qb⟩:=q
  simp only [unfV] at HU
  have e1:sl kb 63 (63+qb.length)=qb:=f1.symm
  have e2:qb.length+64≤m:=f2
  have e3:0≤qi∧qi≤255:=f3
  have e4:0≤qn∧qn≤255:=f4
  have HF1:Hid (sl kb 63 (63+qb.length)=qb):=e1
  clear f1 f2 f3 f4 e1
  show Calls _ _ _ _ fun e W'=>∃ g,e=.returned (unfV g m (.iface t v) (if qi≠i∨(x:Int) < qn then none else some ⟨qt,qc,qi,qn,qb⟩))∧(∃ K,Mem W W' K)∧∀ q:Pc,(if qi≠i∨(x:Int) < qn then none else some (Pc.mk qt qc qi qn qb))=some q→Row W' (some ⟨g,63,none⟩) q.b∧q.b.length+64≤m
  generalize hR:(if qi≠i∨(x:Int) < qn then none else some (Pc.mk qt qc qi qn qb))=R
  have HRR:Hid (R=if qi≠i∨(x:Int) < qn then none else some (Pc.mk qt qc qi qn qb)):=hR.symm
  clear hR
  go_enter Tryz.func125,Tryz.ntmps125
  go_wp2_with fail
  refine hb.mono ?_
  rintro e w' ⟨rfl,rfl⟩
  go_wp2_with fail
  refine hr.mono ?_
  rintro e w2 ⟨g,rfl,h2⟩
  go_wp2_with fail
  refine (HU.out w2 g h2).mono ?_
  rintro e w3 ⟨rfl,K,h3⟩
  obtain ⟨hM3,hg3⟩:=HG.out w2 w3 g K h2 h3
  have HRow:Hid (∀ V K,Mem w3 V K→Row V (some ⟨g,63,none⟩) qb):=by
   intro V K' hV
   have r0:Row w3 (some ⟨g,0,none⟩) kb:=h3.row (h2.own 0 rfl HO.out.2.1 (by have:=HO.out;omega))
   have:=(hV.row r0).sl 63 (63+qb.length) (by omega) (by have:=HO.out;omega)
   rwa [Nat.zero_add,HF1.out] at this
  go_upto_region 5 with fail
  have hA:Mem w3 (w3.alloc (.cells (pcA qt qc qi qn (.slice (some ⟨g,63,none⟩) qb.length (m - 63))) pcT)) [(w3.heap.size,.cells (pcA qt qc qi qn (.slice (some ⟨g,63,none⟩) qb.length (m - 63))) pcT (0,0))]:=(Mem.nil w3).push1 rfl
  refine wp_letter (fun V=>Mem w3 V [(w3.heap.size,.cells (pcA qt qc qi qn (.slice (some ⟨g,63,none⟩) qb.length (m - 63))) pcT (0,0))]) hA ?_
  intro wx hAx
  have hMx:=hM3.join hAx
  have kr:=hMx.cell 0 rfl
  have kf:=hMx.free 0 rfl
  have kb1:=hAx.cell 0 rfl
  have kb2:=kb1 2
  have kb3:=kb1 3
  simp at kb2 kb3
  have hgx:wx.cell? ⟨0,0,none⟩=some (.iface t v):=by rw [←hg3];exact hAx.old (cell_lt hg3)
  have HRx:Hid (Row wx (some ⟨g,63,none⟩) qb):=HRow.out _ _ hAx
  have HMx:Hid (Mem W wx ([(W.heap.size,.cells pc0 pcT (0,0))]++[(g,.cells (bs kb) 5)]++K++[(w3.heap.size,.cells (pcA qt qc qi qn (.slice (some ⟨g,63,none⟩) qb.length (m - 63))) pcT (0,0))])):=hMx
  have HBx:Hid (∀ k,Calls Tryz.prog 49 #[.pointer (some ⟨p,0,none⟩)] (wx.drewN k) fun e W'=>e=.returned (.int .i64 x)∧wx.drewN k=W'):=fun k=>HB.out _ _ (((h2.join h3).join hAx).drewN k)
  have hne:W.heap.size≠w3.heap.size:=by
   have:=hM3.lt (List.mem_append_left _ (List.mem_append_left _ (List.mem_singleton.mpr rfl)))
   simp only at this;omega
  have hng:W.heap.size≠g:=hMx.ne 0 1 rfl rfl (by decide)
  generalize w3.heap.size=b1 at *
  clear hMx HM HU HG HF hM3 hg3 h2 h3 hr hb hAx hA HRow HB kb1
  by_cases hc1:qi=i
  ·subst hc1
   have b1n:((i:Int) != (i:Int))=false:=by simp
   by_cases hc2:(x:Int) < qn
   ·replace HRR:Hid (R=none):=by rw [HRR.out];exact if_pos (Or.inr hc2)
    go_upto_region 7 with fail
    go_quiet (first | (go_at_call 49;exact quiet_eq (HBx.out _)))
    go_upto_region 8 with fail
    refine wp_letter (fun V=>Mem W V ([(W.heap.size,.cells pc0 pcT (0,0))]++[(g,.cells (bs kb) 5)]++K++[(b1,.cells (pcA qt qc i qn (.slice (some ⟨g,63,none⟩) qb.length (m - 63))) pcT (0,0))])∧V.cell? ⟨0,0,none⟩=some (.iface t v)) ⟨HMx.out.drewN _,hgx⟩ ?_
    rintro wy ⟨hMy,hgy⟩
    have kr:=hMy.cell 0 rfl
    have kf:=hMy.free 0 rfl
    have HMy:Hid _:=hMy
    clear hMy HMx HBx hgx kb2 kb3
    go_region
    all_goals go_wp2
    exact bodyPost_ret (v:=.tuple #[.agg pc0,.iface t v]) (by simp [results,Tryz.results125,go_sem,kr]) rfl ⟨0,by rw [HRR.out];rfl,⟨_,(((((HMy.out.set 0 rfl 0 _).set 0 rfl 1 _).set 0 rfl 2 _).set 0 rfl 3 _).set 0 rfl 4 _).drew⟩,fun q e=>by rw [HRR.out] at e;cases e⟩
   ·replace HRR:Hid (R=some (Pc.mk qt qc i qn qb)):=by rw [HRR.out];exact if_neg (by rintro (e | e);exact e rfl;exact hc2 e)
    go_upto_region 7 with fail
    go_quiet (first | (go_at_call 49;exact quiet_eq (HBx.out _)))
    go_upto_region 9 with fail
    refine wp_letter (fun V=>Mem W V ([(W.heap.size,.cells pc0 pcT (0,0))]++[(g,.cells (bs kb) 5)]++K++[(b1,.cells (pcA qt qc i qn (.slice (some ⟨g,63,none⟩) qb.length (m - 63))) pcT (0,0))])∧Row V (some ⟨g,63,none⟩) qb) ⟨HMx.out.drewN _,row_drewN HRx.out⟩ ?_
    rintro wy ⟨hMy,hry⟩
    have kr:=hMy.cell 0 rfl
    have kf:=hMy.free 0 rfl
    have kb1:∀ j,wy.cell? ⟨b1,j,none⟩=(pcA qt qc i qn (.slice (some ⟨g,63,none⟩) qb.length (m - 63)))[j]?:=fun j=>cell_of (hMy.at_ (b1,_) (List.mem_append_right _ (List.mem_singleton.mpr rfl))) j
    have k0:=kb1 0
    have k1:=kb1 1
    have k2:=kb1 2
    have k3:=kb1 3
    have k4:=kb1 4
    simp at k0 k1 k2 k3 k4
    have HMy:Hid _:=hMy
    have HRy:Hid (Row wy (some ⟨g,63,none⟩) qb):=hry
    clear hMy HMx HBx hgx kb2 kb3 HRx hry kb1
    go_wp2
    refine bodyPost_ret (v:=.tuple #[.agg (pcA qt qc i qn (.slice (some ⟨g,63,none⟩) qb.length (m - 63))),.nilIface]) (by simp [results,Tryz.results125,go_sem,kr]) rfl ⟨g,by rw [HRR.out];rfl,⟨_,((((HMy.out.set 0 rfl 0 _).set 0 rfl 1 _).set 0 rfl 2 _).set 0 rfl 3 _).set 0 rfl 4 _⟩,fun q e=>?_⟩
    rw [HRR.out] at e
    cases e
    refine ⟨?_,e2⟩
    repeat (refine Row.setCell ?_ hng _)
    exact HRy.out
  ·have b1n:(qi != (i:Int))=true:=by simpa using hc1
   replace HRR:Hid (R=none):=by rw [HRR.out];exact if_pos (Or.inl hc1)
   go_upto_region 7 with fail
   go_quiet (fail)
   go_upto_region 8 with fail
   refine wp_letter (fun V=>Mem W V ([(W.heap.size,.cells pc0 pcT (0,0))]++[(g,.cells (bs kb) 5)]++K++[(b1,.cells (pcA qt qc qi qn (.slice (some ⟨g,63,none⟩) qb.length (m - 63))) pcT (0,0))])∧V.cell? ⟨0,0,none⟩=some (.iface t v)) ⟨HMx.out.drewN _,hgx⟩ ?_
   rintro wy ⟨hMy,hgy⟩
   have kr:=hMy.cell 0 rfl
   have kf:=hMy.free 0 rfl
   have HMy:Hid _:=hMy
   clear hMy HMx HBx hgx kb2 kb3
   go_region
   all_goals go_wp2
   exact bodyPost_ret (v:=.tuple #[.agg pc0,.iface t v]) (by simp [results,Tryz.results125,go_sem,kr]) rfl ⟨0,by rw [HRR.out];rfl,⟨_,(((((HMy.out.set 0 rfl 0 _).set 0 rfl 1 _).set 0 rfl 2 _).set 0 rfl 3 _).set 0 rfl 4 _).drew⟩,fun q e=>by rw [HRR.out] at e;cases e⟩
end
end Go.Proofs.YtdigofgjhaakmaaGreatDoor
namespace Go.Proofs.YtdigofgjhaakmaaGreatDoor
open Go.RowKit
open Sm
open Cf
def IU:Rp Int Unit:=fun x _ V g off=>V.cell? ⟨g,off,none⟩=some (.int .u32 x)
def JU:St' Int:=fun w x g T pre post V K=>Mem w V ((g,.cells (pre++([Value.int .u32 x]++post)).toArray T (0,0))::K)
theorem box_U {w V:World} {K:List (Nat×Obj)} {g:Nat} {x:Int} {t:TypeId} (hV:Mem w V ((g,.cells #[Value.int .u32 x] t (0,0))::K)):IU x () V g 0:=hV.cell 0 rfl 0
def IMU (w:World) (hb:Nat) (M:List (Nat×Obj)) (V:World) (xs:List Int):Prop :=
 if xs=[] then Mem w V M else Mem w V ((hb,.cells (ux xs).flatten.toArray 33)::M)
theorem flat_TU (xs:List Int) (i:Nat) (x:Int) (hi:xs[i]? = some x):(ux xs).flatten=(ux (xs.take i)).flatten++([Value.int .u32 x]++(ux (xs.drop (i+1))).flatten):=by
 have h:=(List.take_append_drop i xs).symm
 have hil:=(List.getElem?_eq_some_iff.mp hi).1
 have h2:xs.drop i=x::xs.drop (i+1):=by
  rw [List.drop_eq_getElem_cons hil]
  congr 1
  exact (List.getElem?_eq_some_iff.mp hi).2
 rw [h2] at h
 conv=>lhs;rw [h]
 simp [ux]
theorem flatl_TU (xs:List Int):(ux xs).flatten.length=xs.length * 1:=by
 induction xs with
 | nil=>rfl
 | cons x xs ih =>
  have:(ux (x::xs)).flatten.length=(ux xs).flatten.length+1:=by
   simp [ux]
  rw [this,ih,List.length_cons,Nat.succ_mul]
def fvItm_TU (bo bi:Nat):Fv:=⟨296,297,298,#[.pointer (some ⟨bo,0,none⟩),.pointer (some ⟨bi,0,none⟩)],#[.pointer (some ⟨bo,0,none⟩),.pointer (some ⟨bi,0,none⟩)],#[.pointer (some ⟨bo,0,none⟩),.pointer (some ⟨bi,0,none⟩)]⟩
theorem fd_Itm_TU {α ρ:Type} {w:World} {L:List (Nat×Obj)} {I:Rp α ρ} {J:St' α} (bo bi ko o:Nat) (fl:α→List Int) (fs:α→List Int→α) (fi:Fv) (se:Sp Int) (hse:∀ x y,se.eq x y=decide (x=y)) (hfi:Fd w L IU JU fi se)
  (mo:(bo,.cells #[.func (.func ko) #[] #[]] 284)∈L) (mi:(bi,.cells fi.cells.toArray 308)∈L)
  (eo:Ent ko) (ho:∀ V g off,Calls Tryz.prog ko #[.pointer (some ⟨g,off,none⟩)] V fun e V'=>e=.returned (.pointer (some ⟨g,off+o,none⟩))∧V=V')
  (sv:ρ→Value) (hI:∀ x r V g off,I x r V g off→(fl x).length≤1000000∧Rw V 1 (sv r) (ux (fl x))∧V.cell? ⟨g,off+o,none⟩=some (sv r))
  (hJ:∀ x g T pre post V K,J w x g T pre post V K→(fl x).length≤255∧∃ hb M sa sc,(0 < (fl x).length→sa=some ⟨hb,0,none⟩)∧Sub K M∧(∀ V',Mem w V' M→Mem w V' K)∧V.cell? ⟨g,pre.length+o,none⟩=some (.slice sa (fl x).length sc) ∧
   IMU w hb M V (fl x)∧∀ ys V',ys.length=(fl x).length→IMU w hb M V' ys→J w (fs x ys) g T pre post V' K) :
  Fd w L I J (fvItm_TU bo bi) (spItm 0 se fl fs):=by
 have ci:∀ K,Sub L K→∀ V,Mem w V K→V.cell? ⟨bi,0,none⟩=some (.func (.func fi.kw) #[] fi.cw)∧V.cell? ⟨bi,1,none⟩=some (.func (.func fi.kr) #[] fi.cr)∧V.cell? ⟨bi,2,none⟩=some (.func (.func fi.ks) #[] fi.cs) :=
  fun K hK V hV=>⟨by rw [mem_box hV (hK _ mi)];rfl,by rw [mem_box hV (hK _ mi)];rfl,by rw [mem_box hV (hK _ mi)];rfl⟩
 refine ⟨enters_of Tryz.func296 (by kernel_rfl) rfl,enters_of Tryz.func297 (by kernel_rfl) rfl,enters_of Tryz.func298 (by kernel_rfl) rfl,?_,?_,?_⟩
 ·intro K hK x r g off hx v l V hO hb
  have hlen:(ux (fl x)).length=(fl x).length:=by simp [ux]
  have:=iwr_TU hO bo bi ko fi.kw fi.kr fi.ks fi.cw fi.cr fi.cs ⟨g,off,none⟩ ⟨g,off+o,none⟩ (sv r) (ux (fl x)) ?hx (fun V hV=>by rw [mem_box hV (hK _ mo)];rfl) (ci K hK) eo (fun V=>ho V g off) hfi.ew
   (fun V hV=>(hI _ _ _ _ _ (hx V hV)).2.2) (fun V hV=>(hI _ _ _ _ _ (hx V hV)).2.1) (fun i=>se.enc ((fl x).getD i 0)) ?hw (by rw [hlen];exact hb)
  case hx =>
   intro q hq
   simp only [ux,List.mem_map] at hq
   obtain ⟨z,_,rfl⟩:=hq
   exact ⟨_,rfl⟩
  case hw =>
   intro i hi ge v l V hV hbb
   rw [hlen] at hi
   obtain ⟨z,hz⟩:∃ z,(fl x)[i]? = some z:=⟨_,List.getElem?_eq_getElem (by omega)⟩
   have ez:(ux (fl x)).getD i []=[.int .u32 z]:=by simp [ux,List.getD,hz]
   have ed:(fl x).getD i 0=z:=by simp [List.getD,hz]
   rw [ez] at hV
   rw [ed] at hbb ⊢
   refine (hfi.wr _ ((hK.cons _)) z () ge 0 (fun V hV=>?_) v l V hV hbb).mono ?_
   ·exact box_U hV
   ·rintro e V' ⟨v',h1,h2⟩
    exact ⟨v',h1,h2.drop⟩
  rw [hlen] at this
  exact this
 ·intro K hK x g T pre post a l c V hj hS
  obtain ⟨hle,hb,M,sa,sc,hsa,hsub,hback,hcell,hIM,hset⟩:=hJ x g T pre post V K hj
  have key:∀ ys V,IMU w hb M V ys→Mem w V M:=by
   intro ys V h
   unfold IMU at h
   split at h
   ·exact h
   ·exact h.sub
  have:=ird_TU (σ:=List Int) (w:=w) (L:=M) (J:=fun ys V=>ys.length=(fl x).length∧IMU w hb M V ys) ?st (fun ys V h=>key ys V h.2) bo bi ko fi.kw fi.kr fi.ks fi.cw fi.cr fi.cs ⟨g,pre.length,none⟩ ⟨g,pre.length+o,none⟩ sa (fl x).length sc hle hb hsa
   (fun V hV=>by rw [mem_box hV (hsub _ (hK _ mo))];rfl) (ci M (hK.trans hsub)) eo (fun V=>ho V g pre.length) hfi.er (itd 0 se) ?hr (fl x) l a c V ⟨rfl,hIM⟩ hS hcell
  case st =>
   rintro ys V V' ⟨h1,h2⟩ hB
   refine ⟨h1,?_⟩
   unfold IMU at h2 ⊢
   split at h2
   ·rename_i e;rw [if_pos e];exact h2.after hB
   ·rename_i e;rw [if_neg e];exact h2.after hB
  case hr =>
   rintro i hi ys l a c V ⟨h1,h2⟩ hS
   obtain ⟨z,hz⟩:∃ z,ys[i]? = some z:=⟨_,List.getElem?_eq_getElem (by omega)⟩
   have hne:ys≠[]:=by rintro rfl;simp at hz
   have ed:ys.getD i 0=z:=by simp [List.getD,hz]
   unfold IMU at h2
   rw [if_neg hne,flat_TU ys i z hz] at h2
   have hpl:(ux (ys.take i)).flatten.length=i * 1:=by rw [flatl_TU,List.length_take];congr 1;omega
   have:=hfi.rd M (hK.trans hsub) z hb 33 (ux (ys.take i)).flatten (ux (ys.drop (i+1))).flatten a l c V h2 hS
   rw [hpl] at this
   refine this.mono ?_
   intro e V' hR
   refine hR.mono (fun q=>ys.set i q) (by simp only [itd,ed]) id (fun q hq=>⟨by rw [List.length_set];exact h1,?_⟩)
   have hne2:ys.set i q≠[]:=by intro e;apply hne;rw [←List.length_eq_zero_iff] at e ⊢;rwa [List.length_set] at e
   unfold IMU
   rw [if_neg hne2,flat_TU (ys.set i q) i q (by rw [List.getElem?_set_self (by omega)])]
   rw [List.take_set_of_le (Nat.le_refl i),List.drop_set_of_lt (Nat.lt_succ_self i)]
   exact hq
  refine this.mono ?_
  intro e V' hR
  exact hR.mono (fs x) rfl (hback V') (fun ys hy=>hset ys V' hy.1 hy.2)
 ·intro K hK x y r r' g off h of' hx V hV
  exact ism_TU hV bo bi ko fi.kw fi.kr fi.ks fi.cw fi.cr fi.cs ⟨g,off,none⟩ ⟨g,off+o,none⟩ ⟨h,of',none⟩ ⟨h,of'+o,none⟩ (sv r) (sv r') (fl x) (fl y) (fun V hV=>by rw [mem_box hV (hK _ mo)];rfl) (ci K hK) eo (fun V=>ho V g off) (fun V=>ho V h of') hfi.es
   (fun V hV=>(hI _ _ _ _ _ (hx V hV).1).2.2) (fun V hV=>(hI _ _ _ _ _ (hx V hV).2).2.2) (fun V hV=>(hI _ _ _ _ _ (hx V hV).1).2.1) (fun V hV=>(hI _ _ _ _ _ (hx V hV).2).2.1) (hI _ _ _ _ _ (hx V hV).1).1
   (fun p q gx gy V hV=>by
    have:=hfi.sm _ ((hK.cons _).cons _) p q () () gx 0 gy 0 (fun V hV=>⟨box_U hV,box_U hV.sub⟩) V hV
    rw [hse] at this
    refine this.mono ?_
    rintro e V' ⟨h1,h2⟩
    exact ⟨h1,h2.sub.sub⟩)
theorem mk_Itm_TU {w W:World} {L:List (Nat×Obj)} (h:Mem w W L) (ko:Nat) (fi:Fv) :
  Calls Tryz.prog 251 #[.func (.func ko) #[] #[],fi.val] W fun e W'=>∃ bo bi,e=.returned (fvItm_TU bo bi).val∧Mem w W' ((bo,.cells #[.func (.func ko) #[] #[]] 284)::(bi,.cells fi.cells.toArray 308)::L):=by
 obtain ⟨k1,k2,k3,c1,c2,c3⟩:=fi
 have hM:Mem w ((W.alloc (.cells #[.func (.func ko) #[] #[]] 284)).alloc (.cells #[.func (.func k1) #[] c1,.func (.func k2) #[] c2,.func (.func k3) #[] c3] 308)) ((W.heap.size,.cells #[.func (.func ko) #[] #[]] 284)::(W.heap.size+1,.cells #[.func (.func k1) #[] c1,.func (.func k2) #[] c2,.func (.func k3) #[] c3] 308)::L):=by
  have h1:=(h.push W.heap.size (.cells #[.func (.func ko) #[] #[]] 284) rfl).push (W.heap.size+1) (.cells #[.func (.func k1) #[] c1,.func (.func k2) #[] c2,.func (.func k3) #[] c3] 308) (by simp)
  refine h1.perm ?_
  rw [List.append_assoc]
  exact List.perm_append_comm
 have hmf:∀ (fn:Fn) (first cap:Array Value) (w:World),(Instr.makeFunc fn first cap).run Tryz.prog w=.ok (.func fn first cap) w:=fun _ _ _ _=>rfl
 have HM:Hid (Mem w ((W.alloc (.cells #[.func (.func ko) #[] #[]] 284)).alloc (.cells #[.func (.func k1) #[] c1,.func (.func k2) #[] c2,.func (.func k3) #[] c3] 308)) ((W.heap.size,.cells #[.func (.func ko) #[] #[]] 284)::(W.heap.size+1,.cells #[.func (.func k1) #[] c1,.func (.func k2) #[] c2,.func (.func k3) #[] c3] 308)::L)):=hM
 clear hM h
 simp only [Fv.val]
 go_enter Tryz.func251,Tryz.ntmps251
 go_wp2_with fail
 refine bodyPost_ret (v:=(fvItm_TU W.heap.size (W.heap.size+1)).val) ?_ rfl ⟨_,_,rfl,HM.out.after ((Below.refl _ _).alloc (Nat.le_refl _) _)⟩
 exact results_cell_row (p:=4) (ty:=246) rfl _ _ (W.heap.size+1+1) 246 _ (0,0) _ rfl (heap_alloc3_new _ _ _ _) Tryz.underlying246 rfl (by kernel_rfl)
def IP:Rp (Int×Int) Unit:=fun x _ V g off=>V.cell? ⟨g,off,none⟩=some (.int .u32 x.1)∧V.cell? ⟨g,off+1,none⟩=some (.int .u32 x.2)
def JP:St' (Int×Int):=fun w x g T pre post V K=>Mem w V ((g,.cells (pre++([Value.int .u32 x.1,Value.int .u32 x.2]++post)).toArray T (0,0))::K)
theorem box_P {w V:World} {K:List (Nat×Obj)} {g:Nat} {x:(Int×Int)} {t:TypeId} (hV:Mem w V ((g,.cells #[Value.int .u32 x.1,Value.int .u32 x.2] t (0,0))::K)):IP x () V g 0:=⟨hV.cell 0 rfl 0,hV.cell 0 rfl 1⟩
def IMP (w:World) (hb:Nat) (M:List (Nat×Obj)) (V:World) (xs:List (Int×Int)):Prop :=
 if xs=[] then Mem w V M else Mem w V ((hb,.cells (px xs).flatten.toArray 122)::M)
theorem flat_TP (xs:List (Int×Int)) (i:Nat) (x:(Int×Int)) (hi:xs[i]? = some x):(px xs).flatten=(px (xs.take i)).flatten++([Value.int .u32 x.1,Value.int .u32 x.2]++(px (xs.drop (i+1))).flatten):=by
 have h:=(List.take_append_drop i xs).symm
 have hil:=(List.getElem?_eq_some_iff.mp hi).1
 have h2:xs.drop i=x::xs.drop (i+1):=by
  rw [List.drop_eq_getElem_cons hil]
  congr 1
  exact (List.getElem?_eq_some_iff.mp hi).2
 rw [h2] at h
 conv=>lhs;rw [h]
 simp [px]
theorem flatl_TP (xs:List (Int×Int)):(px xs).flatten.length=xs.length * 2:=by
 induction xs with
 | nil=>rfl
 | cons x xs ih =>
  have:(px (x::xs)).flatten.length=(px xs).flatten.length+2:=by
   simp [px]
  rw [this,ih,List.length_cons,Nat.succ_mul]
def fvItm_TP (bo bi:Nat):Fv:=⟨303,304,305,#[.pointer (some ⟨bo,0,none⟩),.pointer (some ⟨bi,0,none⟩)],#[.pointer (some ⟨bo,0,none⟩),.pointer (some ⟨bi,0,none⟩)],#[.pointer (some ⟨bo,0,none⟩),.pointer (some ⟨bi,0,none⟩)]⟩
theorem fd_Itm_TP {α ρ:Type} {w:World} {L:List (Nat×Obj)} {I:Rp α ρ} {J:St' α} (bo bi ko o:Nat) (fl:α→List (Int×Int)) (fs:α→List (Int×Int)→α) (fi:Fv) (se:Sp (Int×Int)) (hse:∀ x y,se.eq x y=decide (x=y)) (hfi:Fd w L IP JP fi se)
  (mo:(bo,.cells #[.func (.func ko) #[] #[]] 286)∈L) (mi:(bi,.cells fi.cells.toArray 315)∈L)
  (eo:Ent ko) (ho:∀ V g off,Calls Tryz.prog ko #[.pointer (some ⟨g,off,none⟩)] V fun e V'=>e=.returned (.pointer (some ⟨g,off+o,none⟩))∧V=V')
  (sv:ρ→Value) (hI:∀ x r V g off,I x r V g off→(fl x).length≤1000000∧Rw V 2 (sv r) (px (fl x))∧V.cell? ⟨g,off+o,none⟩=some (sv r))
  (hJ:∀ x g T pre post V K,J w x g T pre post V K→(fl x).length≤255∧∃ hb M sa sc,(0 < (fl x).length→sa=some ⟨hb,0,none⟩)∧Sub K M∧(∀ V',Mem w V' M→Mem w V' K)∧V.cell? ⟨g,pre.length+o,none⟩=some (.slice sa (fl x).length sc) ∧
   IMP w hb M V (fl x)∧∀ ys V',ys.length=(fl x).length→IMP w hb M V' ys→J w (fs x ys) g T pre post V' K) :
  Fd w L I J (fvItm_TP bo bi) (spItm (0,0) se fl fs):=by
 have ci:∀ K,Sub L K→∀ V,Mem w V K→V.cell? ⟨bi,0,none⟩=some (.func (.func fi.kw) #[] fi.cw)∧V.cell? ⟨bi,1,none⟩=some (.func (.func fi.kr) #[] fi.cr)∧V.cell? ⟨bi,2,none⟩=some (.func (.func fi.ks) #[] fi.cs) :=
  fun K hK V hV=>⟨by rw [mem_box hV (hK _ mi)];rfl,by rw [mem_box hV (hK _ mi)];rfl,by rw [mem_box hV (hK _ mi)];rfl⟩
 refine ⟨enters_of Tryz.func303 (by kernel_rfl) rfl,enters_of Tryz.func304 (by kernel_rfl) rfl,enters_of Tryz.func305 (by kernel_rfl) rfl,?_,?_,?_⟩
 ·intro K hK x r g off hx v l V hO hb
  have hlen:(px (fl x)).length=(fl x).length:=by simp [px]
  have:=iwr_TP hO bo bi ko fi.kw fi.kr fi.ks fi.cw fi.cr fi.cs ⟨g,off,none⟩ ⟨g,off+o,none⟩ (sv r) (px (fl x)) ?hx (fun V hV=>by rw [mem_box hV (hK _ mo)];rfl) (ci K hK) eo (fun V=>ho V g off) hfi.ew
   (fun V hV=>(hI _ _ _ _ _ (hx V hV)).2.2) (fun V hV=>(hI _ _ _ _ _ (hx V hV)).2.1) (fun i=>se.enc ((fl x).getD i (0,0))) ?hw (by rw [hlen];exact hb)
  case hx =>
   intro q hq
   simp only [px,List.mem_map] at hq
   obtain ⟨z,_,rfl⟩:=hq
   exact ⟨_,_,rfl⟩
  case hw =>
   intro i hi ge v l V hV hbb
   rw [hlen] at hi
   obtain ⟨z,hz⟩:∃ z,(fl x)[i]? = some z:=⟨_,List.getElem?_eq_getElem (by omega)⟩
   have ez:(px (fl x)).getD i []=[.int .u32 z.1,.int .u32 z.2]:=by simp [px,List.getD,hz]
   have ed:(fl x).getD i (0,0)=z:=by simp [List.getD,hz]
   rw [ez] at hV
   rw [ed] at hbb ⊢
   refine (hfi.wr _ ((hK.cons _)) z () ge 0 (fun V hV=>?_) v l V hV hbb).mono ?_
   ·exact box_P hV
   ·rintro e V' ⟨v',h1,h2⟩
    exact ⟨v',h1,h2.drop⟩
  rw [hlen] at this
  exact this
 ·intro K hK x g T pre post a l c V hj hS
  obtain ⟨hle,hb,M,sa,sc,hsa,hsub,hback,hcell,hIM,hset⟩:=hJ x g T pre post V K hj
  have key:∀ ys V,IMP w hb M V ys→Mem w V M:=by
   intro ys V h
   unfold IMP at h
   split at h
   ·exact h
   ·exact h.sub
  have:=ird_TP (σ:=List (Int×Int)) (w:=w) (L:=M) (J:=fun ys V=>ys.length=(fl x).length∧IMP w hb M V ys) ?st (fun ys V h=>key ys V h.2) bo bi ko fi.kw fi.kr fi.ks fi.cw fi.cr fi.cs ⟨g,pre.length,none⟩ ⟨g,pre.length+o,none⟩ sa (fl x).length sc hle hb hsa
   (fun V hV=>by rw [mem_box hV (hsub _ (hK _ mo))];rfl) (ci M (hK.trans hsub)) eo (fun V=>ho V g pre.length) hfi.er (itd (0,0) se) ?hr (fl x) l a c V ⟨rfl,hIM⟩ hS hcell
  case st =>
   rintro ys V V' ⟨h1,h2⟩ hB
   refine ⟨h1,?_⟩
   unfold IMP at h2 ⊢
   split at h2
   ·rename_i e;rw [if_pos e];exact h2.after hB
   ·rename_i e;rw [if_neg e];exact h2.after hB
  case hr =>
   rintro i hi ys l a c V ⟨h1,h2⟩ hS
   obtain ⟨z,hz⟩:∃ z,ys[i]? = some z:=⟨_,List.getElem?_eq_getElem (by omega)⟩
   have hne:ys≠[]:=by rintro rfl;simp at hz
   have ed:ys.getD i (0,0)=z:=by simp [List.getD,hz]
   unfold IMP at h2
   rw [if_neg hne,flat_TP ys i z hz] at h2
   have hpl:(px (ys.take i)).flatten.length=i * 2:=by rw [flatl_TP,List.length_take];congr 1;omega
   have:=hfi.rd M (hK.trans hsub) z hb 122 (px (ys.take i)).flatten (px (ys.drop (i+1))).flatten a l c V h2 hS
   rw [hpl] at this
   refine this.mono ?_
   intro e V' hR
   refine hR.mono (fun q=>ys.set i q) (by simp only [itd,ed]) id (fun q hq=>⟨by rw [List.length_set];exact h1,?_⟩)
   have hne2:ys.set i q≠[]:=by intro e;apply hne;rw [←List.length_eq_zero_iff] at e ⊢;rwa [List.length_set] at e
   unfold IMP
   rw [if_neg hne2,flat_TP (ys.set i q) i q (by rw [List.getElem?_set_self (by omega)])]
   rw [List.take_set_of_le (Nat.le_refl i),List.drop_set_of_lt (Nat.lt_succ_self i)]
   exact hq
  refine this.mono ?_
  intro e V' hR
  exact hR.mono (fs x) rfl (hback V') (fun ys hy=>hset ys V' hy.1 hy.2)
 ·intro K hK x y r r' g off h of' hx V hV
  exact ism_TP hV bo bi ko fi.kw fi.kr fi.ks fi.cw fi.cr fi.cs ⟨g,off,none⟩ ⟨g,off+o,none⟩ ⟨h,of',none⟩ ⟨h,of'+o,none⟩ (sv r) (sv r') (fl x) (fl y) (fun V hV=>by rw [mem_box hV (hK _ mo)];rfl) (ci K hK) eo (fun V=>ho V g off) (fun V=>ho V h of') hfi.es
   (fun V hV=>(hI _ _ _ _ _ (hx V hV).1).2.2) (fun V hV=>(hI _ _ _ _ _ (hx V hV).2).2.2) (fun V hV=>(hI _ _ _ _ _ (hx V hV).1).2.1) (fun V hV=>(hI _ _ _ _ _ (hx V hV).2).2.1) (hI _ _ _ _ _ (hx V hV).1).1
   (fun p q gx gy V hV=>by
    have:=hfi.sm _ ((hK.cons _).cons _) p q () () gx 0 gy 0 (fun V hV=>⟨box_P hV,box_P hV.sub⟩) V hV
    rw [hse] at this
    refine this.mono ?_
    rintro e V' ⟨h1,h2⟩
    exact ⟨h1,h2.sub.sub⟩)
theorem mk_Itm_TP {w W:World} {L:List (Nat×Obj)} (h:Mem w W L) (ko:Nat) (fi:Fv) :
  Calls Tryz.prog 253 #[.func (.func ko) #[] #[],fi.val] W fun e W'=>∃ bo bi,e=.returned (fvItm_TP bo bi).val∧Mem w W' ((bo,.cells #[.func (.func ko) #[] #[]] 286)::(bi,.cells fi.cells.toArray 315)::L):=by
 obtain ⟨k1,k2,k3,c1,c2,c3⟩:=fi
 have hM:Mem w ((W.alloc (.cells #[.func (.func ko) #[] #[]] 286)).alloc (.cells #[.func (.func k1) #[] c1,.func (.func k2) #[] c2,.func (.func k3) #[] c3] 315)) ((W.heap.size,.cells #[.func (.func ko) #[] #[]] 286)::(W.heap.size+1,.cells #[.func (.func k1) #[] c1,.func (.func k2) #[] c2,.func (.func k3) #[] c3] 315)::L):=by
  have h1:=(h.push W.heap.size (.cells #[.func (.func ko) #[] #[]] 286) rfl).push (W.heap.size+1) (.cells #[.func (.func k1) #[] c1,.func (.func k2) #[] c2,.func (.func k3) #[] c3] 315) (by simp)
  refine h1.perm ?_
  rw [List.append_assoc]
  exact List.perm_append_comm
 have hmf:∀ (fn:Fn) (first cap:Array Value) (w:World),(Instr.makeFunc fn first cap).run Tryz.prog w=.ok (.func fn first cap) w:=fun _ _ _ _=>rfl
 have HM:Hid (Mem w ((W.alloc (.cells #[.func (.func ko) #[] #[]] 286)).alloc (.cells #[.func (.func k1) #[] c1,.func (.func k2) #[] c2,.func (.func k3) #[] c3] 315)) ((W.heap.size,.cells #[.func (.func ko) #[] #[]] 286)::(W.heap.size+1,.cells #[.func (.func k1) #[] c1,.func (.func k2) #[] c2,.func (.func k3) #[] c3] 315)::L)):=hM
 clear hM h
 simp only [Fv.val]
 go_enter Tryz.func253,Tryz.ntmps253
 go_wp2_with fail
 refine bodyPost_ret (v:=(fvItm_TP W.heap.size (W.heap.size+1)).val) ?_ rfl ⟨_,_,rfl,HM.out.after ((Below.refl _ _).alloc (Nat.le_refl _) _)⟩
 exact results_cell_row (p:=4) (ty:=246) rfl _ _ (W.heap.size+1+1) 246 _ (0,0) _ rfl (heap_alloc3_new _ _ _ _) Tryz.underlying246 rfl (by kernel_rfl)
end Go.Proofs.YtdigofgjhaakmaaGreatDoor
namespace Go.Proofs.YtdigofgjhaakmaaGreatDoor
open Go.RowKit
open Sm
abbrev enT:TypeId:=128
abbrev enA (s:Int) (t c:Int) (v:Value):Array Value:=#[.int .i64 s,.int .u64 t,.int .i64 c,v]
abbrev en0:Array Value:=enA 0 0 0 (.slice none 0 0)
theorem perm_front {α:Type} (A X R:List α):(A++(X++R)).Perm (X++(A++R)):=by
 rw [←List.append_assoc,← List.append_assoc];exact List.perm_append_comm.append_right R
def rdV (E vr:Value):Option En→Value
 | none=>.tuple #[.agg en0,E]
 | some x=>.tuple #[.agg (enA x.s x.t x.c vr),.nilIface]
theorem wpList_append_runL {ops:Array Oper} {rest:List Oper} {o:Oper} {a:Act} {W:World} {Q:Exit→Act→World→Prop} 
  (s x:Operand) (t tn:TypeId) (ho:o.op=.call { callee:=.builtin .append,args:=#[s,x],argTypes:=#[t,tn] }) {vs vx:Value}
  {v':Value} {w':World} {ty:TypeId} (hr:(Builtin.append_ #[t,tn] ty #[vs,vx]).run Tryz.prog W=.ok v' w') (hty:o.type=ty) (hgd:Region.wanted o (yielded ops a.tmps)=true) (hs:a.eval s=vs) (hx:a.eval x=vx) (h:wpList Tryz.prog ops Q rest (a.put o.dst v') w') :
  wpList Tryz.prog ops Q (o::rest) a W:=by
 subst hty;exact wpList_wanted hgd fun K hK=>wp_append_out s x t tn ho hs hx hr (hK _ _ h)
structure RdAt (w1 wr:World) (b6 b8:Nat) (F:Array Value) (s:Int) (ft fc:Int) (vr:Value) (acc:List Int) (X R:List (Nat×Obj)):Prop where
 mem:Mem w1 wr ((b6,.cells F pcT (0,0))::(b8,.cells (enA s ft fc vr) enT (0,0))::(X++R))
 own:OwnV vr acc X
section
variable {w1 wr:World} {b6 b8:Nat} {F:Array Value} {s:Int} {ft fc:Int} {vr:Value} {acc:List Int} {X R:List (Nat×Obj)}
theorem RdAt.join (h:RdAt w1 wr b6 b8 F s ft fc vr acc X R) {V:World} {K:List (Nat×Obj)} (k:Mem wr V K):RdAt w1 V b6 b8 F s ft fc vr acc X (R++K) :=
 ⟨by have:=h.mem.join k;rw [←List.append_assoc];exact this,h.own⟩
theorem RdAt.put (h:RdAt w1 wr b6 b8 F s ft fc vr acc X R) {g off j c:Nat} {l:List Int} (hl:l.length=j) (hr:Row wr (some ⟨g,off,none⟩) l) (hb:acc.length+j≤1000000000) (ty:TypeId) :
  ∃ a' c' X' W',(Builtin.append_ #[86,86] ty #[vr,.slice (some ⟨g,off,none⟩) j c]).run Tryz.prog wr=.ok (.slice a' (acc.length+j) c') W' ∧
   RdAt w1 (W'.setCell ⟨b8,3,none⟩ (.slice a' (acc.length+j) c')) b6 b8 F s ft fc (.slice a' (acc.length+j) c') (acc++l) X' R∧W'.cell? ⟨b8,3,none⟩=some vr∧W'.frozen? ⟨b8,3,none⟩=false:=by
 obtain ⟨v',X',W',h1,h2,h3⟩:=append_row (c:=c) (h.mem.perm (perm_front [_,_] X R)) h.own hl hr hb ty
 obtain ⟨a',c',e,-⟩:=h2.shape
 rw [List.length_append,hl] at e
 subst e
 have h4:Mem w1 W' ((b6,.cells F pcT (0,0))::(b8,.cells (enA s ft fc vr) enT (0,0))::(X'++R)):=h3.perm (perm_front [_,_] X' R).symm
 exact ⟨a',c',X',W',h1,⟨by have:=h4.set 1 rfl 3 (.slice a' (acc.length+j) c');simpa using this,h2⟩,h4.cell 1 rfl 3,h4.free 1 rfl 3⟩
theorem RdAt.c6 (h:RdAt w1 wr b6 b8 F s ft fc vr acc X R) (i:Nat):wr.cell? ⟨b6,i,none⟩=F[i]?:=h.mem.cell 0 rfl i
theorem RdAt.c8 (h:RdAt w1 wr b6 b8 F s ft fc vr acc X R) (i:Nat):wr.cell? ⟨b8,i,none⟩=(enA s ft fc vr)[i]?:=h.mem.cell 1 rfl i
end
section
variable {w W:World} {p h m:Nat} {D:Dk} {hc:Array Value} {ks:List Bk} {L:List (Nat×Obj)}
set_option maxRecDepth 20000 in
theorem rd_first (H:DkAt w W p h m D hc ks L) (hd:D.dead=false) (hn:4≤ks.length) (hm:256≤m) {t:TypeId} {v:Value} (hgl:W.cell? ⟨0,0,none⟩=some (.iface t v)) (slot:Nat) (hs:slot≤1) (hno:rp (ks.map Bk.b) slot 0=none) :
  Calls Tryz.prog 95 #[.pointer (some ⟨p,0,none⟩),.int .i64 slot] W fun e W'=>e=.returned (.tuple #[.agg en0,.iface t v])∧∃ K,Mem W W' K:=by
 have hM:Mem W (W.alloc (.cells en0 enT)) [(W.heap.size,.cells en0 enT (0,0))]:=(Mem.nil W).push1 rfl
 have H1:=H.join hM
 have hgl1:(W.alloc (.cells en0 enT)).cell? ⟨0,0,none⟩=some (.iface t v):=by rw [←hgl];exact hM.old (cell_lt hgl)
 have HM:Hid (Mem W (W.alloc (.cells en0 enT)) [(W.heap.size,.cells en0 enT (0,0))]):=hM
 generalize hw1:W.alloc (.cells en0 enT)=w1 at *
 have hr:Calls Tryz.prog 125 #[.pointer (some ⟨p,0,none⟩),.int .i64 slot,.int .i64 0] w1 fun e W'=>∃ g,e=.returned (unfV g m (.iface t v) (rp (ks.map Bk.b) slot 0))∧(∃ K,Mem w1 W' K)∧_:=rp_live H1 hd hn hm hgl1 slot 0 hs (by unfold sbk;omega)
 rw [hno] at hr
 simp only [unfV] at hr
 clear hM H1 H hgl hgl1
 go_enter Tryz.func95,Tryz.ntmps95
 go_wp2_with fail
 refine hr.mono ?_
 rintro e w2 ⟨g,rfl,⟨K,h2⟩,-⟩
 go_upto_region 2 with fail
 refine wp_letter (fun V=>Mem W V ([(W.heap.size,.cells en0 enT (0,0))]++(K++[(w2.heap.size,.cells pc0 pcT (0,0))]))) (HM.out.join (h2.alloc _)) ?_
 intro wx hMx
 have kr:=hMx.cell 0 rfl
 have kf:=hMx.free 0 rfl
 have HMx:Hid _:=hMx
 clear hMx HM h2 hr
 go_wp2
 exact bodyPost_ret (v:=.tuple #[.agg en0,.iface t v]) (by simp [results,Tryz.results95,go_sem,kr]) rfl ⟨rfl,_,(((HMx.out.set 0 rfl 0 _).set 0 rfl 1 _).set 0 rfl 2 _).set 0 rfl 3 _⟩
set_option maxRecDepth 20000 in
theorem rd_more (H:DkAt w W p h m D hc ks L) (hd:D.dead=false) (hn:4≤ks.length) (hm:256≤m) {t:TypeId} {v:Value} (hgl:W.cell? ⟨0,0,none⟩=some (.iface t v)) (slot:Nat) (hs:slot≤1) {ft fc:Int} {fn:Nat} {fb:List Int} (hyes:rp (ks.map Bk.b) slot 0=some ⟨ft,fc,0,fn,fb⟩) :
  Calls Tryz.prog 95 #[.pointer (some ⟨p,0,none⟩),.int .i64 slot] W fun e W'=>∃ vr,e=.returned (rdV (.iface t v) vr ((rdL (ks.map Bk.b) slot ft (fn - 1) 1 fb).map fun r=>⟨slot,ft,fc,r⟩))∧∃ X K,Mem W W' (X++K)∧∀ r,rdL (ks.map Bk.b) slot ft (fn - 1) 1 fb=some r→OwnV vr r X:=by
 have hM:Mem W (W.alloc (.cells en0 enT)) [(W.heap.size,.cells en0 enT (0,0))]:=(Mem.nil W).push1 rfl
 have H1:=H.join hM
 have hgl1:(W.alloc (.cells en0 enT)).cell? ⟨0,0,none⟩=some (.iface t v):=by rw [←hgl];exact hM.old (cell_lt hgl)
 have HM:Hid (Mem W (W.alloc (.cells en0 enT)) [(W.heap.size,.cells en0 enT (0,0))]):=hM
 generalize hw1:W.alloc (.cells en0 enT)=w1 at *
 have hr:Calls Tryz.prog 125 #[.pointer (some ⟨p,0,none⟩),.int .i64 slot,.int .i64 0] w1 fun e W'=>∃ g,e=.returned (unfV g m (.iface t v) (rp (ks.map Bk.b) slot 0))∧(∃ K,Mem w1 W' K)∧∀ q,rp (ks.map Bk.b) slot 0=some q→Row W' (some ⟨g,63,none⟩) q.b∧q.b.length+64≤m:=rp_live H1 hd hn hm hgl1 slot 0 hs (by unfold sbk;omega)
 have hfn:=(rp_n hyes).2
 rw [hyes] at hr
 simp only [unfV] at hr
 rw [List.length_map] at hfn
 have hfn1:fn≤sbk ks.length:=by simp only at hfn;omega
 have hfn2:fn≤31:=by have:=H.top;unfold sbk at hfn1;omega
 have HP:Hid (∀ V K,Mem w1 V K→∀ i:Nat,i < fn→Calls Tryz.prog 125 #[.pointer (some ⟨p,0,none⟩),.int .i64 slot,.int .i64 i] V fun e W'=>∃ g,e=.returned (unfV g m (.iface t v) (rp (ks.map Bk.b) slot i))∧(∃ K,Mem V W' K)∧∀ q,rp (ks.map Bk.b) slot i=some q→Row W' (some ⟨g,63,none⟩) q.b∧q.b.length+64≤m):=by
  intro V K hV i hi
  exact rp_live (H1.join hV) hd hn hm (by rw [←hgl1];exact hV.old (cell_lt hgl1)) slot i hs (by omega)
 have HGL:Hid (∀ V K,Mem w1 V K→V.cell? ⟨0,0,none⟩=some (.iface t v)):=fun V K hV=>by rw [←hgl1];exact hV.old (cell_lt hgl1)
 have hmh:=H.mhi
 have hpos:0 < W.heap.size:=cell_lt hgl
 generalize ks.map Bk.b=bl at *
 generalize hT:rdL bl slot ft (fn - 1) 1 fb=T
 have HT:Hid (rdL bl slot ft (fn - 1) 1 fb=T):=hT
 clear hM H1 H hgl hgl1 hyes hfn hfn1 hT
 go_enter Tryz.func95,Tryz.ntmps95
 go_wp2_with fail
 refine hr.mono ?_
 rintro e w2 ⟨g,rfl,⟨K,h2⟩,hq⟩
 obtain ⟨hrow,hfl⟩:=hq _ rfl
 simp only at hrow hfl
 go_upto_region 5 with fail
 refine wp_letter (fun V=>RdAt w1 V w2.heap.size (w2.heap.size+1) (pcA ft fc 0 fn (.slice (some ⟨g,63,none⟩) fb.length (m - 63))) slot ft fc (.slice none 0 0) [] [] K∧Row V (some ⟨g,63,none⟩) fb)
  ⟨⟨by
   have h3:=(h2.alloc (.cells (pcA ft fc 0 fn (.slice (some ⟨g,63,none⟩) fb.length (m - 63))) pcT (0,0))).push (w2.heap.size+1) (.cells (enA slot ft fc (.slice none 0 0)) enT (0,0)) (by simp)
   refine h3.perm ?_
   rw [List.append_assoc]
   exact List.perm_append_comm,Or.inl ⟨rfl,rfl,rfl⟩⟩,row_alloc (row_alloc hrow)⟩ ?_
 rintro wx ⟨hx,hrx⟩
 generalize w2.heap.size+1=b8 at *
 generalize w2.heap.size=b6 at *
 obtain ⟨a',c',X1,wy,hrun,hy,hy3,hyf⟩:=hx.put (c:=m - 63) rfl hrx (by simp;omega) 86
 rw [List.nil_append,List.length_nil,Nat.zero_add] at *
 have x83:=hx.c8 3
 have x64:=hx.c6 4
 simp at x83 x64
 have HY:Hid (RdAt w1 (wy.setCell ⟨b8,3,none⟩ (.slice a' fb.length c')) b6 b8 (pcA ft fc 0 fn (.slice (some ⟨g,63,none⟩) fb.length (m - 63))) slot ft fc (.slice a' fb.length c') fb X1 K):=hy
 clear hx hrx hrow hq h2 hr hy
 generalize hF:pcA ft fc 0 fn (.slice (some ⟨g,63,none⟩) fb.length (m - 63))=F at *
 have HF:Hid (F[0]? = some (.int .u64 ft)∧F[3]? = some (.int .i64 fn)):=by subst hF;exact ⟨rfl,rfl⟩
 clear hF
 go_wp2_with (refine wpList_append_runL (.tmp 29) (.tmp 31) 86 86 (by with_reducible rfl) hrun rfl rfl (by simp [Act.eval]) (by simp [Act.eval]) ?_)
 go_loopw [9] (fun u wr=>∃ i:Nat,u=.int .i64 i∧1≤i∧i≤31+1∧∃ acc vr X R,RdAt w1 wr b6 b8 F slot ft fc vr acc X R∧rdL bl slot ft (fn - i) i acc=T∧acc.length≤i * 70000) (fun u _=>fn - (intOf u).toNat)
 case atStart=>exact ⟨1,rfl,by omega,by omega,fb,_,_,_,HY.out,HT.out,by omega⟩
 case round =>
  obtain ⟨i,rfl,hi1,hi2,acc,vr,X,R,hA,hT,hal⟩:=hrel
  have x63:=hA.c6 3
  have x60:=hA.c6 0
  rw [HF.out.2] at x63
  rw [HF.out.1] at x60
  by_cases hlt:i < fn
  ·obtain ⟨k,hk⟩:∃ k,fn - i=k+1:=⟨fn - i - 1,by omega⟩
   rw [hk,rdL] at hT
   have hP:=HP.out _ _ hA.mem i hlt
   cases hrp:rp bl slot i with
   | none =>
    rw [hrp] at hT hP
    simp only [unfV] at hP
    have HTN:Hid (T=none):=hT.symm
    have HA:Hid (RdAt w1 wr b6 b8 F slot ft fc vr acc X R):=hA
    clear hT hrp hA HY HT x60
    go_wp2_with fail
    refine hP.mono ?_
    rintro e w2 ⟨g2,rfl,⟨K2,h2⟩,-⟩
    go_upto_region 10 with fail
    refine wp_letter (fun V=>RdAt w1 V b6 b8 F slot ft fc vr acc X (R++(K2++[(w2.heap.size,.cells pc0 pcT (0,0))]))) (HA.out.join (h2.alloc _)) ?_
    intro wx hx
    have HM2:Hid _:=HM.out.join hx.mem
    have kr:=HM2.out.cell 0 rfl
    have kf:=HM2.out.free 0 rfl
    clear hx HA h2 hP
    go_wp2
    exact bodyPost_ret (v:=.tuple #[.agg en0,.iface t v]) (by simp [results,Tryz.results95,go_sem,kr]) rfl ⟨.nilIface,by rw [HTN.out];rfl,[],_,(((HM2.out.set 0 rfl 0 _).set 0 rfl 1 _).set 0 rfl 2 _).set 0 rfl 3 _,fun r e=>by rw [HTN.out] at e;cases e⟩
   | some q =>
    rw [hrp] at hT hP
    obtain ⟨qt,qc,qi,qn,qb⟩:=q
    simp only [unfV] at hP
    have hT2:(if qt=ft then rdL bl slot ft k (i+1) (acc++qb) else none)=T:=hT
    have HA:Hid (RdAt w1 wr b6 b8 F slot ft fc vr acc X R):=hA
    clear hT hrp hA HY HT x60
    by_cases hqt:qt=ft
    ·rw [if_pos hqt] at hT2
     have HT2:Hid (rdL bl slot ft k (i+1) (acc++qb)=T):=hT2
     subst hqt
     have bn:(qt != qt)=false:=by simp
     clear hT2
     go_wp2_with fail
     refine hP.mono ?_
     rintro e w2 ⟨g2,rfl,⟨K2,h2⟩,hq⟩
     obtain ⟨hrow,hfl⟩:=hq _ rfl
     have hrow2:Row w2 (some ⟨g2,63,none⟩) qb:=hrow
     have hfl2:qb.length+64≤m:=hfl
     clear hq hrow hfl
     go_upto_region 10 with fail
     refine wp_letter (fun V=>Mem wr V (K2++[(w2.heap.size,.cells (pcA qt qc qi qn (.slice (some ⟨g2,63,none⟩) qb.length (m - 63))) pcT (0,0))])∧Row V (some ⟨g2,63,none⟩) qb) ⟨h2.alloc _,row_alloc hrow2⟩ ?_
     rintro wx ⟨hmx,hrx⟩
     have hx:=HA.out.join hmx
     have kb1:∀ j,wx.cell? ⟨w2.heap.size,j,none⟩=(pcA qt qc qi qn (.slice (some ⟨g2,63,none⟩) qb.length (m - 63)))[j]?:=fun j=>cell_of (hmx.at_ (w2.heap.size,_) (List.mem_append_right _ (List.mem_singleton.mpr rfl))) j
     have k0:=kb1 0
     have k4:=kb1 4
     have y60:=hx.c6 0
     have y83:=hx.c8 3
     rw [HF.out.1] at y60
     simp at k0 k4 y83
     generalize w2.heap.size=b10 at *
     obtain ⟨a2,c2,X2,wy,hrun,hy,hy3,hyf⟩:=hx.put (c:=m - 63) rfl hrx (by omega) 86
     have HY:Hid (RdAt w1 (wy.setCell ⟨b8,3,none⟩ (.slice a2 (acc.length+qb.length) c2)) b6 b8 F slot qt fc (.slice a2 (acc.length+qb.length) c2) (acc++qb) X2 _):=hy
     obtain ⟨a1,c1,e1,-⟩:=hx.own.shape
     subst e1
     clear hx hmx hrx HA h2 hP hy kb1 hrow2
     go_wp2_with (refine wpList_append_runL (.tmp 59) (.tmp 61) 86 86 (by with_reducible rfl) hrun rfl rfl (by simp [Act.eval]) (by simp [Act.eval]) ?_)
     go_roundw
     case rel=>exact ⟨i+1,by go_num,by omega,by omega,acc++qb,_,X2,_,HY.out,by rw [show fn - (i+1)=k by omega];exact HT2.out,by rw [List.length_append];omega⟩
     case measure=>simp [intOf];omega
    ·rw [if_neg hqt] at hT2
     have HTN:Hid (T=none):=hT2.symm
     have bn:(qt != ft)=true:=by simpa using hqt
     clear hT2 hqt
     go_wp2_with fail
     refine hP.mono ?_
     rintro e w2 ⟨g2,rfl,⟨K2,h2⟩,-⟩
     go_upto_region 10 with fail
     refine wp_letter (fun V=>Mem wr V (K2++[(w2.heap.size,.cells (pcA qt qc qi qn (.slice (some ⟨g2,63,none⟩) qb.length (m - 63))) pcT (0,0))])) (h2.alloc _) ?_
     intro wx hmx
     have hx:=HA.out.join hmx
     have kb1:∀ j,wx.cell? ⟨w2.heap.size,j,none⟩=(pcA qt qc qi qn (.slice (some ⟨g2,63,none⟩) qb.length (m - 63)))[j]?:=fun j=>cell_of (hmx.at_ (w2.heap.size,_) (List.mem_append_right _ (List.mem_singleton.mpr rfl))) j
     have k0:=kb1 0
     have y60:=hx.c6 0
     rw [HF.out.1] at y60
     simp at k0
     generalize w2.heap.size=b10 at *
     have hgx:=HGL.out _ _ hx.mem
     have HM2:Hid _:=HM.out.join hx.mem
     have kr:=HM2.out.cell 0 rfl
     have kf:=HM2.out.free 0 rfl
     clear hx hmx HA h2 hP kb1
     go_wp2_with fail
     go_region
     all_goals go_wp2
     exact bodyPost_ret (v:=.tuple #[.agg en0,.iface t v]) (by simp [results,Tryz.results95,go_sem,kr]) rfl ⟨.nilIface,by rw [HTN.out];rfl,[],_,((((HM2.out.set 0 rfl 0 _).set 0 rfl 1 _).set 0 rfl 2 _).set 0 rfl 3 _).drew,fun r e=>by rw [HTN.out] at e;cases e⟩
  ·have e:fn - i=0:=by omega
   rw [e,rdL] at hT
   have HTe:Hid (T=some acc):=hT.symm
   have HM2:Hid (Mem W wr ([(W.heap.size,.cells en0 enT (0,0))]++((b6,.cells F pcT (0,0))::(b8,.cells (enA slot ft fc vr) enT (0,0))::(X++R)))):=HM.out.join hA.mem
   have kr:=HM2.out.cell 0 rfl
   have kf:=HM2.out.free 0 rfl
   obtain ⟨a2,c2,e1,-⟩:=hA.own.shape
   subst e1
   have k80:=hA.c8 0
   have k81:=hA.c8 1
   have k82:=hA.c8 2
   have k83:=hA.c8 3
   simp at k80 k81 k82 k83
   have HO:Hid (OwnV (.slice a2 acc.length c2) acc X):=hA.own
   clear hA HY HT hT
   go_wp2
   refine bodyPost_ret (v:=.tuple #[.agg (enA slot ft fc (.slice a2 acc.length c2)),.nilIface]) (by simp [results,Tryz.results95,go_sem,kr]) rfl ⟨.slice a2 acc.length c2,by rw [HTe.out];rfl,X,_,((((HM2.out.set 0 rfl 0 _).set 0 rfl 1 _).set 0 rfl 2 _).set 0 rfl 3 _).perm (perm_front [_,_,_] X R),fun r e=>?_⟩
   rw [HTe.out] at e
   cases e
   exact HO.out
end
end Go.Proofs.YtdigofgjhaakmaaGreatDoor
namespace Go.Proofs.YtdigofgjhaakmaaGreatDoor
open Go.RowKit
open Sm
open Cf
def spU:Sp Int:=spNum 4 id (fun _ y=>y)
def spA:Sp (Int×Int):=spNum 4 Prod.fst (fun x y=>(y,x.2))
def spB:Sp (Int×Int):=spNum 4 Prod.snd (fun x y=>(x.1,y))
def spP:Sp (Int×Int):=spAll [spA,spB]
theorem fits32:∀ q,0≤q→q < 256 ^ 4→IntKind.u32.wrap q=q:=fun q h0 h1=>wraps_u32 q h0 (by omega)
theorem spU_eq (x y:Int):spU.eq x y=decide (x=y):=rfl
theorem spP_eq (x y:Int×Int):spP.eq x y=decide (x=y):=by
 obtain ⟨a,b⟩:=x
 obtain ⟨c,d⟩:=y
 simp only [spP,spAll,spA,spB,spNum,List.length_cons,List.length_nil]
 by_cases h:(a,b)=(c,d)
 ·rw [decide_eq_true h]
  apply decide_eq_true
  intro i hi
  simp only [Prod.mk.injEq] at h
  match i,hi with
  | 0,_=>simp [h.1]
  | 1,_=>simp [h.2]
 ·rw [decide_eq_false h]
  apply decide_eq_false
  intro hc
  apply h
  have h0:=hc 0 (by omega)
  have h1:=hc 1 (by omega)
  simp at h0 h1
  rw [h0,h1]
theorem acc_address (V:World) (g off:Nat):Calls Tryz.prog 302 #[.pointer (some ⟨g,off,none⟩)] V fun e V'=>e=.returned (.pointer (some ⟨g,off+0,none⟩))∧V=V':=by
 go_enter Tryz.func302,Tryz.ntmps302
 go_wp2
 go_ret
 exact ⟨rfl,rfl⟩
theorem acc_pair1 (V:World) (g off:Nat):Calls Tryz.prog 310 #[.pointer (some ⟨g,off,none⟩)] V fun e V'=>e=.returned (.pointer (some ⟨g,off+0,none⟩))∧V=V':=by
 go_enter Tryz.func310,Tryz.ntmps310
 go_wp2
 go_ret
 exact ⟨rfl,rfl⟩
theorem acc_pair2 (V:World) (g off:Nat):Calls Tryz.prog 311 #[.pointer (some ⟨g,off,none⟩)] V fun e V'=>e=.returned (.pointer (some ⟨g,off+1,none⟩))∧V=V':=by
 go_enter Tryz.func311,Tryz.ntmps311
 go_wp2
 go_ret
 exact ⟨rfl,rfl⟩
theorem get_mid (pre mid post:List Value) (o:Nat) (v:Value) (h:mid[o]? = some v):(pre++(mid++post)).toArray[pre.length+o]? = some v:=by
 have ho:=(List.getElem?_eq_some_iff.mp h).1
 simp only [List.getElem?_toArray]
 rw [List.getElem?_append_right (by omega),List.getElem?_append_left (by omega),Nat.add_sub_cancel_left]
 exact h
theorem set_mid (pre mid post:List Value) (o:Nat) (v:Value) (h:o < mid.length):(pre++(mid++post)).toArray.setIfInBounds (pre.length+o) v=(pre++(mid.set o v++post)).toArray:=by
 simp only [List.setIfInBounds_toArray]
 rw [List.set_append_right _ _ (by omega),List.set_append_left _ _ (by omega),Nat.add_sub_cancel_left]
theorem Mem.put3 {w V:World} {M:List (Nat×Obj)} {rb:Nat} {a b c:Value} {t:TypeId} (h:Mem w V ((rb,.cells #[a,b,c] t (0,0))::M)) (x y z:Value) :
  Mem w (((V.setCell ⟨rb,0,none⟩ x).setCell ⟨rb,1,none⟩ y).setCell ⟨rb,2,none⟩ z) ((rb,.cells #[x,y,z] t (0,0))::M):=by
 have h1:=h.set 0 rfl 0 x
 have h2:=Mem.set h1 0 rfl 1 y
 exact Mem.set h2 0 rfl 2 z
theorem lens_U {w:World}:∀ x g T pre post V K,JU w x g T pre post V K→∃ A M,Lens w JU 0 x g T pre post V K M A∧A[pre.length+0]? = some (.int .u32 (id x)) ∧
   ∀ y V',Mem w V' ((g,.cells (A.setIfInBounds (pre.length+0) (.int .u32 y)) T (0,0))::M)→JU w y g T pre post V' K:=by
 intro x g T pre post V K h
 refine ⟨_,K,⟨h,Sub.refl _,fun V' h=>h⟩,get_mid _ _ _ 0 _ rfl,fun y V' hV=>?_⟩
 rw [set_mid _ _ _ 0 _ (by simp)] at hV
 exact hV
theorem address_any {w W:World} {L:List (Nat×Obj)} (h:Mem w W L) :
  Calls Tryz.prog 252 #[] W fun e W'=>∃ f E,e=.returned f.val∧Mem w W' (E++L)∧Fd w E IU JU f spU:=by
 have h0:Mem w (W.alloc (.cells #[.nilFunc,.nilFunc,.nilFunc] 308)) ((W.heap.size,.cells #[.nilFunc,.nilFunc,.nilFunc] 308)::L):=(h.push W.heap.size _ rfl).perm List.perm_append_comm
 have C:=mk_num_UU h0 4 302
 obtain ⟨rb,hrb⟩:∃ rb,W.heap.size=rb:=⟨_,rfl⟩
 rw [hrb] at C
 go_enter Tryz.func252,Tryz.ntmps252
 go_wp2_with fail
 refine C.mono ?_
 rintro e V ⟨bs,bo,rfl,hM⟩
 have hM2:Mem w V ((rb,.cells #[.nilFunc,.nilFunc,.nilFunc] 308)::((bs,.cells #[.int .i64 4] 3)::(bo,.cells #[.func (.func 302) #[] #[]] 331)::L)):=hM.perm (by
  refine List.Perm.trans ?_ (List.perm_middle (l₁:=[_,_]))
  exact List.Perm.refl _)
 have HF:Hid (Fd w ([(rb,.cells (fvNum_UU bs bo).cells.toArray 308),(bs,.cells #[.int .i64 4] 3),(bo,.cells #[.func (.func 302) #[] #[]] 331)]) IU JU (fvNum_UU bs bo) spU) :=
  fd_num_UU bs bo 4 302 0 (by omega) fits32 id (fun _ y=>y) (by simp) (by simp) (enters_of Tryz.func302 (by kernel_rfl) rfl) acc_address (fun x r V g off h=>h) lens_U
 clear C h0 hM h
 generalize fvNum_UU bs bo=f at HF
 obtain ⟨k1,k2,k3,c1,c2,c3⟩:=f
 have hM3:=hM2.put3 (.func (.func k1) #[] c1) (.func (.func k2) #[] c2) (.func (.func k3) #[] c3)
 have e0:V.cell? ⟨rb,0,none⟩=some .nilFunc:=hM2.cell 0 rfl 0
 have e1:V.cell? ⟨rb,1,none⟩=some .nilFunc:=hM2.cell 0 rfl 1
 have e2:V.cell? ⟨rb,2,none⟩=some .nilFunc:=hM2.cell 0 rfl 2
 have e3:=hM2.free 0 rfl
 clear hM2
 simp only [Fv.val]
 go_wp2_with fail
 refine bodyPost_ret (v:=.agg #[.func (.func k1) #[] c1,.func (.func k2) #[] c2,.func (.func k3) #[] c3]) ?_ rfl ⟨⟨k1,k2,k3,c1,c2,c3⟩,[_,_,_],rfl,hM3,HF.out⟩
 exact results_cell_row (p:=0) (ty:=308) rfl _ _ rb 308 _ (0,0) _ rfl (hM3.get 0 rfl) Tryz.underlying308 rfl (by kernel_rfl)
theorem lens_A {w:World}:∀ x g T pre post V K,JP w x g T pre post V K→∃ A M,Lens w JP 0 x g T pre post V K M A∧A[pre.length+0]? = some (.int .u32 x.1) ∧
   ∀ y V',Mem w V' ((g,.cells (A.setIfInBounds (pre.length+0) (.int .u32 y)) T (0,0))::M)→JP w (y,x.2) g T pre post V' K:=by
 intro x g T pre post V K h
 refine ⟨_,K,⟨h,Sub.refl _,fun V' h=>h⟩,get_mid _ _ _ 0 _ rfl,fun y V' hV=>?_⟩
 rw [set_mid _ _ _ 0 _ (by simp)] at hV
 exact hV
theorem lens_B {w:World}:∀ x g T pre post V K,JP w x g T pre post V K→∃ A M,Lens w JP 1 x g T pre post V K M A∧A[pre.length+1]? = some (.int .u32 x.2) ∧
   ∀ y V',Mem w V' ((g,.cells (A.setIfInBounds (pre.length+1) (.int .u32 y)) T (0,0))::M)→JP w (x.1,y) g T pre post V' K:=by
 intro x g T pre post V K h
 refine ⟨_,K,⟨h,Sub.refl _,fun V' h=>h⟩,get_mid _ _ _ 1 _ rfl,fun y V' hV=>?_⟩
 rw [set_mid _ _ _ 1 _ (by simp)] at hV
 exact hV
theorem pair_any {w W:World} {L:List (Nat×Obj)} (h:Mem w W L) :
  Calls Tryz.prog 254 #[] W fun e W'=>∃ f E,e=.returned f.val∧Mem w W' (E++L)∧Fd w E IP JP f spP:=by
 have h0:Mem w (W.alloc (.cells #[.nilFunc,.nilFunc,.nilFunc] 315)) ((W.heap.size,.cells #[.nilFunc,.nilFunc,.nilFunc] 315)::L):=(h.push W.heap.size _ rfl).perm List.perm_append_comm
 have C:=mk_num_PU h0 4 310
 obtain ⟨rb,hrb⟩:∃ rb,W.heap.size=rb:=⟨_,rfl⟩
 rw [hrb] at C
 go_enter Tryz.func254,Tryz.ntmps254
 go_wp2_with fail
 refine C.mono ?_
 rintro e V ⟨bs,bo,rfl,hM⟩
 have C2:=mk_num_PU hM 4 311
 clear C hM h0 h
 go_wp2_with fail
 refine C2.mono ?_
 rintro e V2 ⟨bs2,bo2,rfl,hM2⟩
 obtain ⟨f1,hf1⟩:∃ f1,fvNum_PU bs bo=f1:=⟨_,rfl⟩
 obtain ⟨f2,hf2⟩:∃ f2,fvNum_PU bs2 bo2=f2:=⟨_,rfl⟩
 obtain ⟨lb,hlb⟩:∃ lb,V2.heap.size=lb:=⟨_,rfl⟩
 have hM3:Mem w (V2.alloc (.cells ([f1,f2].flatMap Fv.cells).toArray 315)) ((lb,.cells ([f1,f2].flatMap Fv.cells).toArray 315)::(bs2,.cells #[.int .i64 4] 3)::(bo2,.cells #[.func (.func 311) #[] #[]] 337)::(bs,.cells #[.int .i64 4] 3)::(bo,.cells #[.func (.func 310) #[] #[]] 337)::(rb,.cells #[.nilFunc,.nilFunc,.nilFunc] 315)::L) :=
  (hM2.push lb _ hlb.symm).perm List.perm_append_comm
 have C3:=mk_all_P hM3 lb 2
 rw [hf1,hf2]
 clear C2 hM2 hM3
 obtain ⟨k1,k2,k3,c1,c2,c3⟩:=f1
 obtain ⟨q1,q2,q3,d1,d2,d3⟩:=f2
 simp only [Fv.val]
 simp only [List.flatMap_cons,List.flatMap_nil,Fv.cells,List.cons_append,List.nil_append,List.append_nil] at C3
 go_wp2_with fail
 refine C3.mono ?_
 rintro e V3 ⟨cb,rfl,hM⟩
 obtain ⟨E,hE⟩:∃ E:List (Nat×Obj),E=[(cb,.cells #[.slice (some ⟨lb,0,none⟩) 2 2] 338),(lb,.cells #[.func (.func k1) #[] c1,.func (.func k2) #[] c2,.func (.func k3) #[] c3,.func (.func q1) #[] d1,.func (.func q2) #[] d2,.func (.func q3) #[] d3] 315),
  (bs2,.cells #[.int .i64 4] 3),(bo2,.cells #[.func (.func 311) #[] #[]] 337),(bs,.cells #[.int .i64 4] 3),(bo,.cells #[.func (.func 310) #[] #[]] 337)]:=⟨_,rfl⟩
 have hM2:Mem w V3 ((rb,.cells #[.nilFunc,.nilFunc,.nilFunc] 315)::(E++L)):=hM.perm (by
  rw [hE]
  exact List.perm_middle (l₁:=[_,_,_,_,_,_]))
 have HF:Hid (Fd w E IP JP (fvAll_P cb) spP):=by
  refine fd_all_P cb lb 2 [⟨k1,k2,k3,c1,c2,c3⟩,⟨q1,q2,q3,d1,d2,d3⟩] [spA,spB] rfl (by omega) (by rw [hE];simp) (by rw [hE];simp [Fv.cells]) ?_ (fun x g T pre post V V' K h hB=>Mem.after h hB) (fun x g T pre post V K h=>Mem.sub h)
  rw [←hf1,← hf2]
  refine FdAll.cons ?_ (FdAll.cons ?_ FdAll.nil)
  ·exact fd_num_PU bs bo 4 310 0 (by omega) fits32 Prod.fst (fun x y=>(y,x.2)) (by rw [hE];simp) (by rw [hE];simp) (enters_of Tryz.func310 (by kernel_rfl) rfl) acc_pair1 (fun x r V g off h=>h.1) lens_A
  ·exact fd_num_PU bs2 bo2 4 311 1 (by omega) fits32 Prod.snd (fun x y=>(x.1,y)) (by rw [hE];simp) (by rw [hE];simp) (enters_of Tryz.func311 (by kernel_rfl) rfl) acc_pair2 (fun x r V g off h=>h.2) lens_B
 clear C3 hM hE hf1 hf2
 generalize fvAll_P cb=f at HF
 obtain ⟨m1,m2,m3,n1,n2,n3⟩:=f
 have hM3:=hM2.put3 (.func (.func m1) #[] n1) (.func (.func m2) #[] n2) (.func (.func m3) #[] n3)
 have e0:V3.cell? ⟨rb,0,none⟩=some .nilFunc:=hM2.cell 0 rfl 0
 have e1:V3.cell? ⟨rb,1,none⟩=some .nilFunc:=hM2.cell 0 rfl 1
 have e2:V3.cell? ⟨rb,2,none⟩=some .nilFunc:=hM2.cell 0 rfl 2
 have e3:=hM2.free 0 rfl
 clear hM2
 simp only [Fv.val]
 go_wp2_with fail
 refine bodyPost_ret (v:=.agg #[.func (.func m1) #[] n1,.func (.func m2) #[] n2,.func (.func m3) #[] n3]) ?_ rfl ⟨⟨m1,m2,m3,n1,n2,n3⟩,_::E,rfl,hM3,HF.out.more (fun q hq=>List.mem_cons_of_mem _ hq)⟩
 exact results_cell_row (p:=0) (ty:=315) rfl _ _ rb 315 _ (0,0) _ rfl (hM3.get 0 rfl) Tryz.underlying315 rfl (by kernel_rfl)
theorem acc_Name (V:World) (g off:Nat):Calls Tryz.prog 232 #[.pointer (some ⟨g,off,none⟩)] V fun e V'=>e=.returned (.pointer (some ⟨g,off+0,none⟩))∧V=V':=by
 go_enter Tryz.func232,Tryz.ntmps232
 go_wp2
 go_ret
 exact ⟨rfl,rfl⟩
theorem acc_Vni (V:World) (g off:Nat):Calls Tryz.prog 234 #[.pointer (some ⟨g,off,none⟩)] V fun e V'=>e=.returned (.pointer (some ⟨g,off+1,none⟩))∧V=V':=by
 go_enter Tryz.func234,Tryz.ntmps234
 go_wp2
 go_ret
 exact ⟨rfl,rfl⟩
theorem acc_Vtep (V:World) (g off:Nat):Calls Tryz.prog 237 #[.pointer (some ⟨g,off,none⟩)] V fun e V'=>e=.returned (.pointer (some ⟨g,off+10,none⟩))∧V=V':=by
 go_enter Tryz.func237,Tryz.ntmps237
 go_wp2
 go_ret
 exact ⟨rfl,rfl⟩
theorem acc_Lo (V:World) (g off:Nat):Calls Tryz.prog 241 #[.pointer (some ⟨g,off,none⟩)] V fun e V'=>e=.returned (.pointer (some ⟨g,off+24,none⟩))∧V=V':=by
 go_enter Tryz.func241,Tryz.ntmps241
 go_wp2
 go_ret
 exact ⟨rfl,rfl⟩
theorem acc_Hi (V:World) (g off:Nat):Calls Tryz.prog 242 #[.pointer (some ⟨g,off,none⟩)] V fun e V'=>e=.returned (.pointer (some ⟨g,off+25,none⟩))∧V=V':=by
 go_enter Tryz.func242,Tryz.ntmps242
 go_wp2
 go_ret
 exact ⟨rfl,rfl⟩
theorem acc_Filter (V:World) (g off:Nat):Calls Tryz.prog 244 #[.pointer (some ⟨g,off,none⟩)] V fun e V'=>e=.returned (.pointer (some ⟨g,off+26,none⟩))∧V=V':=by
 go_enter Tryz.func244,Tryz.ntmps244
 go_wp2
 go_ret
 exact ⟨rfl,rfl⟩
theorem acc_Sess (V:World) (g off:Nat):Calls Tryz.prog 245 #[.pointer (some ⟨g,off,none⟩)] V fun e V'=>e=.returned (.pointer (some ⟨g,off+29,none⟩))∧V=V':=by
 go_enter Tryz.func245,Tryz.ntmps245
 go_wp2
 go_ret
 exact ⟨rfl,rfl⟩
theorem acc_Queue (V:World) (g off:Nat):Calls Tryz.prog 246 #[.pointer (some ⟨g,off,none⟩)] V fun e V'=>e=.returned (.pointer (some ⟨g,off+30,none⟩))∧V=V':=by
 go_enter Tryz.func246,Tryz.ntmps246
 go_wp2
 go_ret
 exact ⟨rfl,rfl⟩
theorem acc_Rate (V:World) (g off:Nat):Calls Tryz.prog 247 #[.pointer (some ⟨g,off,none⟩)] V fun e V'=>e=.returned (.pointer (some ⟨g,off+31,none⟩))∧V=V':=by
 go_enter Tryz.func247,Tryz.ntmps247
 go_wp2
 go_ret
 exact ⟨rfl,rfl⟩
theorem acc_Burst (V:World) (g off:Nat):Calls Tryz.prog 248 #[.pointer (some ⟨g,off,none⟩)] V fun e V'=>e=.returned (.pointer (some ⟨g,off+32,none⟩))∧V=V':=by
 go_enter Tryz.func248,Tryz.ntmps248
 go_wp2
 go_ret
 exact ⟨rfl,rfl⟩
theorem acc_Pool (V:World) (g off:Nat):Calls Tryz.prog 227 #[.pointer (some ⟨g,off,none⟩)] V fun e V'=>e=.returned (.pointer (some ⟨g,off+23,none⟩))∧V=V':=by
 go_enter Tryz.func227,Tryz.ntmps227
 go_wp2
 go_ret
 exact ⟨rfl,rfl⟩
theorem acc_Statics (V:World) (g off:Nat):Calls Tryz.prog 228 #[.pointer (some ⟨g,off,none⟩)] V fun e V'=>e=.returned (.pointer (some ⟨g,off+27,none⟩))∧V=V':=by
 go_enter Tryz.func228,Tryz.ntmps228
 go_wp2
 go_ret
 exact ⟨rfl,rfl⟩
theorem acc_Twices (V:World) (g off:Nat):Calls Tryz.prog 229 #[.pointer (some ⟨g,off,none⟩)] V fun e V'=>e=.returned (.pointer (some ⟨g,off+28,none⟩))∧V=V':=by
 go_enter Tryz.func229,Tryz.ntmps229
 go_wp2
 go_ret
 exact ⟨rfl,rfl⟩
theorem acc_Key (V:World) (g off:Nat):Calls Tryz.prog 236 #[.pointer (some ⟨g,off,none⟩)] V fun e V'=>e=.returned (.slice (some ⟨g,off+2,none⟩) 8 8)∧V=V':=by
 go_enter Tryz.func236,Tryz.ntmps236
 go_wp2
 go_ret
 exact ⟨rfl,rfl⟩
theorem acc_VtepMac (V:World) (g off:Nat):Calls Tryz.prog 238 #[.pointer (some ⟨g,off,none⟩)] V fun e V'=>e=.returned (.slice (some ⟨g,off+11,none⟩) 6 6)∧V=V':=by
 go_enter Tryz.func238,Tryz.ntmps238
 go_wp2
 go_ret
 exact ⟨rfl,rfl⟩
theorem acc_Host (V:World) (g off:Nat):Calls Tryz.prog 239 #[.pointer (some ⟨g,off,none⟩)] V fun e V'=>e=.returned (.slice (some ⟨g,off+17,none⟩) 6 6)∧V=V':=by
 go_enter Tryz.func239,Tryz.ntmps239
 go_wp2
 go_ret
 exact ⟨rfl,rfl⟩
end Go.Proofs.YtdigofgjhaakmaaGreatDoor
namespace Go.Proofs.YtdigofgjhaakmaaGreatDoor
open Go.RowKit
open Sm
section
variable {w W:World} {p h m:Nat} {D:Dk} {hc:Array Value} {ks:List Bk} {L:List (Nat×Obj)}
theorem rd_live (H:DkAt w W p h m D hc ks L) (hd:D.dead=false) (hn:4≤ks.length) (hm:256≤m) {t:TypeId} {v:Value} (hgl:W.cell? ⟨0,0,none⟩=some (.iface t v)) (slot:Nat) (hs:slot≤1) :
  Calls Tryz.prog 95 #[.pointer (some ⟨p,0,none⟩),.int .i64 slot] W fun e W'=>∃ vr,e=.returned (rdV (.iface t v) vr (rd (ks.map Bk.b) slot))∧∃ X K,Mem W W' (X++K)∧∀ x,rd (ks.map Bk.b) slot=some x→OwnV vr x.r X:=by
 unfold rd
 cases hrp:rp (ks.map Bk.b) slot 0 with
 | none =>
  refine (rd_first H hd hn hm hgl slot hs hrp).mono ?_
  rintro e W' ⟨rfl,K,hK⟩
  exact ⟨.nilIface,rfl,[],K,hK,fun x e=>by cases e⟩
 | some f =>
  obtain ⟨ft,fc,fi,fn,fb⟩:=f
  have hq:=(rp_n hrp).1
  simp only at hq
  have hn0:0≤fn:=by
   have hz:slot * sbk ks.length+0 < ks.length:=slot_in hs hn (by unfold sbk;omega)
   have e1:(ks.map Bk.b).getD (slot * sbk ks.length+0) []=(ks[slot * sbk ks.length+0]'hz).b:=by simp [List.getD,List.getElem?_eq_getElem (show slot * sbk ks.length < ks.length by simpa using hz)]
   have o:=H.st.ok _ (List.getElem_mem hz)
   unfold rp at hrp
   rw [List.length_map,e1] at hrp
   split at hrp
   ·cases hrp
   ·rename_i q hu
    split at hrp
    ·cases hrp
    ·simp only [Option.some.injEq] at hrp
     subst hrp
     exact (unf_facts hu o.len hm o.bytes).2.2.2.2.1.1
  obtain ⟨fk,rfl⟩:=Int.eq_ofNat_of_zero_le hn0
  have hrp2:rp (ks.map Bk.b) slot 0=some ⟨ft,fc,0,fk,fb⟩:=by rw [hrp,hq];rfl
  refine (rd_more H hd hn hm hgl slot hs hrp2).mono ?_
  rintro e W' ⟨vr,rfl,X,K,hK,hO⟩
  refine ⟨vr,rfl,X,K,hK,fun x e=>?_⟩
  simp only [Int.toNat_natCast,Option.map_eq_some_iff] at e
  obtain ⟨r,hr,rfl⟩:=e
  exact hO r hr
end
def enC (x:En×Value):List Value:=[.int .i64 x.1.s,.int .u64 x.1.t,.int .i64 x.1.c,x.2]
def enCs (l:List (En×Value)):List Value:=l.flatMap enC
theorem enCs_length (l:List (En×Value)):(enCs l).length=l.length * 4:=by
 induction l with
 | nil=>rfl
 | cons x l ih=>simp only [enCs,List.flatMap_cons,List.length_append,List.length_cons] at ih ⊢;rw [ih];simp [enC];omega
inductive OwnL:List (En×Value)→List (Nat×Obj)→Prop where
 | nil:OwnL [] []
 | cons {x:En×Value} {X:List (Nat×Obj)} {l:List (En×Value)} {Xs:List (Nat×Obj)} (h:OwnV x.2 x.1.r X) (t:OwnL l Xs):OwnL (x::l) (X++Xs)
theorem OwnL.snoc {l:List (En×Value)} {Xs:List (Nat×Obj)} (h:OwnL l Xs) {x:En×Value} {X:List (Nat×Obj)} (hx:OwnV x.2 x.1.r X):OwnL (l++[x]) (Xs++X):=by
 induction h with
 | nil=>have:=OwnL.cons hx .nil;simpa using this
 | cons h t ih=>rw [List.cons_append,List.append_assoc];exact .cons h ih
def ES (v:Value) (l:List (En×Value)) (Y:List (Nat×Obj)):Prop :=
 (v=.slice none 0 0∧l=[]∧Y=[])∨∃ g cap cur Xs,v=.slice (some ⟨g,0,none⟩) l.length cap∧0 < l.length∧l.length≤cap∧cap * 4≤cur.size∧cur.toList.take (l.length * 4)=enCs l∧OwnL l Xs∧Y=(g,.cells cur enT (0,0))::Xs
theorem ES.shape {v:Value} {l:List (En×Value)} {Y:List (Nat×Obj)} (h:ES v l Y):∃ a c,v=.slice a l.length c:=by
 rcases h with ⟨rfl,rfl,rfl⟩ | ⟨g,cap,cur,Xs,rfl,_⟩
 ·exact ⟨none,0,rfl⟩
 ·exact ⟨_,_,rfl⟩
theorem en_info:(Tryz.prog.info? enT).map (fun i=>(i.zero,i.size,i.bytes))=some (some (.agg en0),4,48):=by kernel_rfl
theorem cells_one {s t c:Int} {a:Option Addr} {n k:Nat}:∀ u∈[Value.int .i64 s,.int .u64 t,.int .i64 c,.slice a n k],u.oneCell'=true:=by
 intro u hu
 simp at hu
 rcases hu with rfl | rfl | rfl | rfl <;> rfl
theorem es_append {w W:World} {v:Value} {l:List (En×Value)} {Y X K:List (Nat×Obj)} (hE:ES v l Y) (hM:Mem w W (Y++(X++K))) (hl:l.length≤100) {x:En} {vr:Value} (hx:OwnV vr x.r X) {gt:Nat}
  (hc:∀ j,j < 4→W.cell? ⟨gt,j,none⟩=(enA x.s x.t x.c vr)[j]?) (ty:TypeId) :
  ∃ a' c' Y' W',(Builtin.append_ #[124,124] ty #[v,.slice (some ⟨gt,0,none⟩) 1 1]).run Tryz.prog W=.ok (.slice a' (l.length+1) c') W'∧ES (.slice a' (l.length+1) c') (l++[(x,vr)]) Y'∧Mem w W' (Y'++K):=by
 obtain ⟨i,hi,hz,hs1,hby⟩:=info_parts en_info
 obtain ⟨av,cv,ev,-⟩:=hx.shape
 have hnews:∀ j u,(enC (x,vr))[j]? = some u→W.cell? ((⟨gt,0,none⟩:Addr).add j)=some u:=by
  intro j u hj
  have hjl:=(List.getElem?_eq_some_iff.mp hj).1
  have e:((⟨gt,0,none⟩:Addr).add j)=⟨gt,j,none⟩:=by
   by_cases e:j=0
   ·subst e;simp [Addr.add]
   ·simp [Addr.add,e]
  rw [e,hc j (by simpa [enC] using hjl),← hj]
  simp [enC,enA]
 have hone:∀ u∈enC (x,vr),u.oneCell'=true:=by rw [ev];exact cells_one
 have hnl:(enC (x,vr)).length=4:=rfl
 have hll:(l++[(x,vr)]).length=l.length+1:=by simp
 have hcs:enCs (l++[(x,vr)])=enCs l++enC (x,vr):=by simp [enCs]
 rcases hE with ⟨rfl,rfl,rfl⟩ | ⟨g,cap,cur,Xs,rfl,h0,h1,h2,h3,h4,rfl⟩
 ·have hr:=run_append_nil (P:=Tryz.prog) W 124 ty enT i (.agg en0) Tryz.underlying124 hi hz ⟨gt,0,none⟩ 1 1 (enC (x,vr)) (by rw [hs1];rfl) hnews (by omega) (by omega) (by rw [hby];omega)
  have hge:=grownCap_ge W 1 0 enT
  refine ⟨_,_,_,_,hr,Or.inr ⟨W.heap.size,grownCap W 1 0 enT,(enC (x,vr)).toArray++Builtin.zeroCells (Value.agg en0).cells (grownCap W 1 0 enT - 1),X,by simp,by simp,by simpa using hge,?_,?_,(by have:=OwnL.cons (x:=(x,vr)) hx .nil;simpa using this),rfl⟩,?_⟩
  ·simp only [Array.size_append,List.size_toArray,size_zeroCells,hnl,Value.cells]
   simp only [List.length_cons,List.length_nil];omega
  ·simp only [Array.toList_append]
   rw [List.take_left' (by rw [hnl];rfl)];simp [enCs]
  ·have:=(hM.drew.alloc (.cells ((enC (x,vr)).toArray++Builtin.zeroCells (Value.agg en0).cells (grownCap W 1 0 enT - 1)) enT)).perm List.perm_append_comm
   simpa using this
 ·have hg:W.heap[g]? = some (.cells cur enT (0,0)):=hM.get 0 rfl
  have htl:(cur.toList.take (l.length * 4)).length=l.length * 4:=by rw [h3,enCs_length]
  have pm:(((g,Obj.cells cur enT (0,0))::Xs)++(X++K)).Perm ((g,.cells cur enT (0,0))::((Xs++X)++K)):=by rw [List.cons_append,List.append_assoc]
  by_cases hroom:l.length+1≤cap
  ·have hr:=run_append_room (P:=Tryz.prog) W 124 ty enT i Tryz.underlying124 hi g l.length cap cur hg ⟨gt,0,none⟩ 1 1 (enC (x,vr)) (by rw [hs1];rfl) hnews hone hroom (by rw [hs1,hnl];omega)
   refine ⟨_,_,_,_,hr,Or.inr ⟨g,cap,(cur.toList.take (l.length * i.size)++enC (x,vr)++cur.toList.drop (l.length * i.size+(enC (x,vr)).length)).toArray,Xs++X,by rw [hll],by rw [hll];omega,by rw [hll];exact hroom,?_,?_,h4.snoc hx,rfl⟩,?_⟩
   ·simp only [List.size_toArray,List.length_append,List.length_take,List.length_drop,Array.length_toList,hnl,hs1];omega
   ·rw [hll,hcs,← h3,List.toList_toArray,hs1,List.take_left' (by rw [List.length_append,htl,hnl];omega)]
   ·exact (hM.perm pm).wrote 0 rfl (wrote_setRow W g cur _ enT hg)
  ·have holds:∀ q u,(cur.toList.take (l.length * 4))[q]? = some u→W.cell? ((⟨g,0,none⟩:Addr).add q)=some u:=by
    intro q u hq
    have hql:=(List.getElem?_eq_some_iff.mp hq).1
    rw [htl] at hql
    have e:((⟨g,0,none⟩:Addr).add q)=⟨g,q,none⟩:=by
     by_cases e:q=0
     ·subst e;simp [Addr.add]
     ·simp [Addr.add,e]
    rw [e,cell_of hg]
    rw [List.getElem?_take,if_pos hql] at hq
    simpa using hq
   have hr:=run_append_grow (P:=Tryz.prog) W 124 ty enT i (.agg en0) Tryz.underlying124 hi hz ⟨g,0,none⟩ l.length cap (cur.toList.take (l.length * 4)) (by rw [hs1,htl]) holds ⟨gt,0,none⟩ 1 1 (enC (x,vr)) (by rw [hs1];rfl) hnews (by omega) (by omega) (growslice_fits (by omega) (by rw [hby];omega))
   have hge:=grownCap_ge W (l.length+1) cap enT
   refine ⟨_,_,_,_,hr,Or.inr ⟨W.heap.size,grownCap W (l.length+1) cap enT,(cur.toList.take (l.length * 4)).toArray++(enC (x,vr)).toArray++Builtin.zeroCells (Value.agg en0).cells (grownCap W (l.length+1) cap enT - (l.length+1)),Xs++X,by rw [hll],by rw [hll];omega,by rw [hll];exact hge,?_,?_,h4.snoc hx,rfl⟩,?_⟩
   ·simp only [Array.size_append,List.size_toArray,size_zeroCells,htl,hnl,Value.cells]
    simp only [List.length_cons,List.length_nil];omega
   ·rw [hll,hcs,← h3,Array.toList_append,Array.toList_append,List.toList_toArray,List.toList_toArray,List.take_left' (by rw [List.length_append,htl,hnl];omega)]
   ·exact ((hM.perm pm).sub.drew.alloc _).perm List.perm_append_comm
end Go.Proofs.YtdigofgjhaakmaaGreatDoor
namespace Go.Proofs.YtdigofgjhaakmaaGreatDoor
open Go.RowKit
open Sm
open Cf
structure TIn (t:Ten):Prop where
 len:TLen t
 key:IsBytes t.key
 vmac:IsBytes t.vmac
 host:IsBytes t.host
 name:t.name.size≤1000000
 pool:t.pool.length≤1000000
 stat:t.stat.length≤1000000
 twi:t.twi.length≤1000000
def IT:Rp Ten (Value×Value×Value):=fun t r V g off =>
 TIn t∧V.rangeAt g off (tc t r.1 r.2.1 r.2.2)∧Rw V 1 r.1 (ux t.pool)∧Rw V 2 r.2.1 (px t.stat)∧Rw V 2 r.2.2 (px t.twi)
def lv (h:Nat):List (List Value)→Value
 | []=>nilV
 | x::xs=>.slice (some ⟨h,0,none⟩) (x::xs).length (x::xs).length
def lb (h:Nat) (T:TypeId):List (List Value)→List (Nat×Obj)
 | []=>[]
 | x::xs=>[(h,.cells (x::xs).flatten.toArray T (0,0))]
def JT:St' Ten:=fun w t g T pre post V K=>TLen t∧(t.pool.length≤255∧t.stat.length≤255∧t.twi.length≤255)∧∃ hp hs hq,
 Mem w V ((g,.cells (pre++(tc t (lv hp (ux t.pool)) (lv hs (px t.stat)) (lv hq (px t.twi))++post)).toArray T (0,0)) ::
  (lb hp 33 (ux t.pool)++(lb hs 122 (px t.stat)++(lb hq 122 (px t.twi)++K))))
theorem Mem.subl {w V:World} {L K:List (Nat×Obj)} (h:Mem w V L) (hs:K.Sublist L):Mem w V K :=
 ⟨h.below,fun p hp=>h.low p (hs.subset hp),fun p hp=>h.at_ p (hs.subset hp),h.apart.sublist (hs.map _)⟩
theorem Mem.dropA {w V:World} {A K:List (Nat×Obj)} (h:Mem w V (A++K)):Mem w V K:=h.subl (List.sublist_append_right A K)
theorem lv_len {h:Nat} {xs ys:List (List Value)} (e:xs.length=ys.length):lv h xs=lv h ys:=by
 cases xs with
 | nil=>cases ys with
  | nil=>rfl
  | cons y ys=>simp at e
 | cons x xs=>cases ys with
  | nil=>simp at e
  | cons y ys=>simp only [lv,e]
theorem tset {t t':Ten} {p s q p' s' q':Value} {o:Nat} {v:Value} (h:TLen t) (e:∀ n vn a b c d f g x y vt a1 b1 c1 d1 f1 g1 a2 b2 c2 d2 f2 g2 po lo hi fi st tw se qu ra bu,
  t=⟨n,vn,[a,b,c,d,f,g,x,y],vt,[a1,b1,c1,d1,f1,g1],[a2,b2,c2,d2,f2,g2],po,lo,hi,fi,st,tw,se,qu,ra,bu⟩→(tc t p s q).set o v=tc t' p' s' q'):(tc t p s q).set o v=tc t' p' s' q':=by
 obtain ⟨n,vn,key,vt,vm,ho,po,lo,hi,fi,st,tw,se,qu,ra,bu⟩:=t
 obtain ⟨h1,h2,h3⟩:=h
 obtain ⟨a,b,c,d,f,g,x,y,rfl⟩:=eight8 h1
 obtain ⟨a1,b1,c1,d1,f1,g1,rfl⟩:=six6 h2
 obtain ⟨a2,b2,c2,d2,f2,g2,rfl⟩:=six6 h3
 exact e n vn a b c d f g x y vt a1 b1 c1 d1 f1 g1 a2 b2 c2 d2 f2 g2 po lo hi fi st tw se qu ra bu rfl
theorem tget {t:Ten} {p s q:Value} {o:Nat} {v:Value} (h:TLen t) (e:∀ n vn a b c d f g x y vt a1 b1 c1 d1 f1 g1 a2 b2 c2 d2 f2 g2 po lo hi fi st tw se qu ra bu,
  t=⟨n,vn,[a,b,c,d,f,g,x,y],vt,[a1,b1,c1,d1,f1,g1],[a2,b2,c2,d2,f2,g2],po,lo,hi,fi,st,tw,se,qu,ra,bu⟩→(tc t p s q)[o]? = some v):(tc t p s q)[o]? = some v:=by
 obtain ⟨n,vn,key,vt,vm,ho,po,lo,hi,fi,st,tw,se,qu,ra,bu⟩:=t
 obtain ⟨h1,h2,h3⟩:=h
 obtain ⟨a,b,c,d,f,g,x,y,rfl⟩:=eight8 h1
 obtain ⟨a1,b1,c1,d1,f1,g1,rfl⟩:=six6 h2
 obtain ⟨a2,b2,c2,d2,f2,g2,rfl⟩:=six6 h3
 exact e n vn a b c d f g x y vt a1 b1 c1 d1 f1 g1 a2 b2 c2 d2 f2 g2 po lo hi fi st tw se qu ra bu rfl
theorem lens_T {β:Type} {w:World} (o:Nat) (ho:o < 33) (old:Ten→Value) (nv:β→Value) (fs:Ten→β→Ten) (hget:∀ t p s q,TLen t→(tc t p s q)[o]? = some (old t)) (hset:∀ t y p s q,TLen t→(tc t p s q).set o (nv y)=tc (fs t y) p s q)
  (hk:∀ t y,TLen t→TLen (fs t y)) (hp:∀ t y,(fs t y).pool=t.pool∧(fs t y).stat=t.stat∧(fs t y).twi=t.twi) :
  ∀ t g T pre post V K,JT w t g T pre post V K→∃ A M,Lens w JT o t g T pre post V K M A∧A[pre.length+o]? = some (old t) ∧
   ∀ y V',Mem w V' ((g,.cells (A.setIfInBounds (pre.length+o) (nv y)) T (0,0))::M)→JT w (fs t y) g T pre post V' K:=by
 rintro t g T pre post V K ⟨hl,hb,hp',hs,hq,hM⟩
 refine ⟨_,_,⟨hM,fun q hq=>?_,fun V' h=>h.dropA.dropA.dropA⟩,get_mid _ _ _ o _ (hget _ _ _ _ hl),fun y V' hV=>?_⟩
 ·exact List.mem_append_right _ (List.mem_append_right _ (List.mem_append_right _ hq))
 ·rw [set_mid _ _ _ o _ (by rw [tc_len hl];exact ho),hset _ _ _ _ _ hl] at hV
  obtain ⟨e1,e2,e3⟩:=hp t y
  refine ⟨hk t y hl,⟨by rw [e1];exact hb.1,by rw [e2];exact hb.2.1,by rw [e3];exact hb.2.2⟩,hp',hs,hq,?_⟩
  rw [e1,e2,e3]
  exact hV
theorem spl_mid (pre a b c post:List Value) (y:List Int) (hb:b.length=y.length):spl (pre++((a++(b++c))++post)).toArray (pre.length+a.length) y=(pre++((a++(y.map (Value.int .u8)++c))++post)).toArray:=by
 unfold spl
 simp only [List.append_assoc]
 congr 1
 have e1:(pre++(a++(b++(c++post)))).take (pre.length+a.length)=pre++a:=by
  rw [←List.append_assoc];exact List.take_left' (by simp)
 have e2:(pre++(a++(b++(c++post)))).drop (pre.length+a.length+y.length)=c++post:=by
  rw [←List.append_assoc,← List.append_assoc];exact List.drop_left' (by simp [hb];omega)
 rw [e1,e2]
 simp only [List.append_assoc]
theorem lens_TO {w:World} (o n:Nat) (fs:Ten→List Int→Ten) (hcut:∀ t p s q,TLen t→∃ a b c,a.length=o∧b.length=n∧tc t p s q=a++(b++c)∧∀ y,tc (fs t y) p s q=a++(y.map (Value.int .u8)++c))
  (hk:∀ t y,y.length=n→TLen t→TLen (fs t y)) (hp:∀ t y,(fs t y).pool=t.pool∧(fs t y).stat=t.stat∧(fs t y).twi=t.twi) :
  ∀ t g T pre post V K,JT w t g T pre post V K→∃ A M,Lens w JT o t g T pre post V K M A∧pre.length+o+n≤A.size ∧
   ∀ y V',y.length=n→IsBytes y→Mem w V' ((g,.cells (spl A (pre.length+o) y) T (0,0))::M)→JT w (fs t y) g T pre post V' K:=by
 rintro t g T pre post V K ⟨hl,hb,hp',hs,hq,hM⟩
 obtain ⟨a,b,c,ha,hbn,e,hfs⟩:=hcut t (lv hp' (ux t.pool)) (lv hs (px t.stat)) (lv hq (px t.twi)) hl
 refine ⟨_,_,⟨hM,fun q hq=>?_,fun V' h=>h.dropA.dropA.dropA⟩,?_,fun y V' hy _ hV=>?_⟩
 ·exact List.mem_append_right _ (List.mem_append_right _ (List.mem_append_right _ hq))
 ·rw [e];simp [ha,hbn];omega
 ·rw [e,← ha,spl_mid pre a b c post y (by omega),← hfs y] at hV
  obtain ⟨e1,e2,e3⟩:=hp t y
  refine ⟨hk t y hy hl,⟨by rw [e1];exact hb.1,by rw [e2];exact hb.2.1,by rw [e3];exact hb.2.2⟩,hp',hs,hq,?_⟩
  rw [e1,e2,e3]
  exact hV
theorem made_U (m:Nat) (hm:0 < m):madeCells (Value.int .u32 0).cells (m * 1)=(ux (List.replicate m 0)).flatten.toArray:=by
 apply Array.toList_inj.mp
 have:=madeCells_flat (Value.int .u32 0).cells m (by decide)
 rw [show (Value.int IntKind.u32 0).cells.size=1 from rfl] at this
 rw [this]
 simp [ux,Value.cells]
theorem made_P (m:Nat) (hm:0 < m):madeCells (Value.agg #[.int .u32 0,.int .u32 0]).cells (m * 2)=(px (List.replicate m (0,0))).flatten.toArray:=by
 apply Array.toList_inj.mp
 have:=madeCells_flat (Value.agg #[.int .u32 0,.int .u32 0]).cells m (by decide)
 rw [show (Value.agg #[Value.int .u32 0,.int .u32 0]).cells.size=2 from rfl] at this
 rw [this]
 simp [px,Value.cells]
theorem lb_one {h:Nat} {T:TypeId} {xs:List (List Value)} (e:xs≠[]):lb h T xs=[(h,.cells xs.flatten.toArray T (0,0))]:=by
 cases xs with
 | nil=>exact absurd rfl e
 | cons x xs=>rfl
theorem lv_one {h:Nat} {xs:List (List Value)} (e:xs≠[]):lv h xs=.slice (some ⟨h,0,none⟩) xs.length xs.length:=by
 cases xs with
 | nil=>exact absurd rfl e
 | cons x xs=>rfl
def set_pool (t:Ten) (m:Nat):Ten:=if m=0 then t else { t with pool:=List.replicate m 0 }
theorem lens_Cpool {w:World}:∀ t g T pre post V K,JT w t g T pre post V K→∃ A M y,Lens w JT 23 t g T pre post V K M A∧A[pre.length+23]? = some y ∧
   ∀ m V',m≤255→CMade_TU w V' g A T (pre.length+23) M m→JT w (set_pool t m) g T pre post V' K:=by
 rintro t g T pre post V K ⟨hl,hb,hp,hs,hq,hM⟩
 refine ⟨_,_,_,⟨hM,fun q hq=>?_,fun V' h=>h.dropA.dropA.dropA⟩,get_mid _ _ _ 23 _ (tget (v:=lv hp (ux t.pool)) hl (by rintro n vn a b c d f g x y vt a1 b1 c1 d1 f1 g1 a2 b2 c2 d2 f2 g2 po lo hi fi st tw se qu ra bu rfl;rfl)),fun m V' hm hV=>?_⟩
 ·exact List.mem_append_right _ (List.mem_append_right _ (List.mem_append_right _ hq))
 ·rcases hV with ⟨rfl,hV⟩ | ⟨h0,h,hV⟩
  ·exact ⟨hl,hb,hp,hs,hq,hV⟩
  ·have hne:ux (List.replicate m 0)≠[]:=by
    cases m with
    | zero=>omega
    | succ m=>simp [ux,List.replicate_succ]
   have hlen:(ux (List.replicate m 0)).length=m:=by simp [ux]
   rw [set_mid _ _ _ 23 _ (by rw [tc_len hl];omega),made_U m h0] at hV
   unfold set_pool
   rw [if_neg (by omega)]
   refine ⟨⟨hl.key,hl.vmac,hl.host⟩,?_,h,hs,hq,?_⟩
   ·simp only [List.length_replicate];exact ⟨hm,hb.2.1,hb.2.2⟩
   ·have e:(tc t (lv hp (ux t.pool)) (lv hs (px t.stat)) (lv hq (px t.twi))).set 23 (.slice (some ⟨h,0,none⟩) m m)=tc { t with pool:=List.replicate m 0 } (lv h (ux (List.replicate m 0))) (lv hs (px t.stat)) (lv hq (px t.twi)):=by
     rw [lv_one hne,hlen]
     exact tset hl (by rintro n vn a b c d f g x y vt a1 b1 c1 d1 f1 g1 a2 b2 c2 d2 f2 g2 po lo hi fi st tw se qu ra bu rfl;rfl)
    rw [e] at hV
    simp only at hV ⊢
    rw [lb_one hne]
    exact hV.subl ((List.sublist_append_right _ _).cons_cons _ |>.cons_cons _)
theorem lens_Ipool {w:World}:∀ t g T pre post V K,JT w t g T pre post V K→t.pool.length≤255∧∃ hb M sa sc,(0 < t.pool.length→sa=some ⟨hb,0,none⟩)∧Sub K M∧(∀ V',Mem w V' M→Mem w V' K)∧V.cell? ⟨g,pre.length+23,none⟩=some (.slice sa t.pool.length sc) ∧
   IMU w hb M V t.pool∧∀ ys V',ys.length=t.pool.length→IMU w hb M V' ys→JT w { t with pool:=ys } g T pre post V' K:=by
 rintro t g T pre post V K ⟨hl,hb,hp,hs,hq,hM⟩
 have hcell:V.cell? ⟨g,pre.length+23,none⟩=some (lv hp (ux t.pool)):=by
  rw [hM.cell 0 rfl]
  exact get_mid _ _ _ 23 _ (tget hl (by rintro n vn a b c d f g x y vt a1 b1 c1 d1 f1 g1 a2 b2 c2 d2 f2 g2 po lo hi fi st tw se qu ra bu rfl;rfl))
 have hlen:∀ l,(ux l).length=l.length:=by intro l;simp [ux]
 have hnil:∀ l,ux l=[] ↔ l=[]:=by intro l;simp [ux]
 obtain ⟨G,hG⟩:∃ G:Nat×Obj,G=(g,.cells (pre++(tc t (lv hp (ux t.pool)) (lv hs (px t.stat)) (lv hq (px t.twi))++post)).toArray T (0,0)):=⟨_,rfl⟩
 rw [←hG] at hM
 have hMp:Mem w V (lb hp 33 (ux t.pool)++(G::((lb hs 122 (px t.stat))++((lb hq 122 (px t.twi))++K)))):=hM.perm (List.perm_middle (l₁:=_)).symm
 have hpm:∀ ys V',ys.length=t.pool.length→Mem w V' (lb hp 33 (ux ys)++(G::((lb hs 122 (px t.stat))++((lb hq 122 (px t.twi))++K))))→JT w { t with pool:=ys } g T pre post V' K:=by
  intro ys V' hy hV
  refine ⟨⟨hl.key,hl.vmac,hl.host⟩,⟨by rw [hy];exact hb.1,hb.2.1,hb.2.2⟩,hp,hs,hq,?_⟩
  have e:lv hp (ux ys)=lv hp (ux t.pool):=lv_len (by rw [hlen,hlen,hy])
  have e2:tc { t with pool:=ys } (lv hp (ux ys)) (lv hs (px t.stat)) (lv hq (px t.twi))=tc t (lv hp (ux t.pool)) (lv hs (px t.stat)) (lv hq (px t.twi)):=by rw [e];rfl
  simp only at e2 ⊢
  rw [e2,← hG]
  exact hV.perm (List.perm_middle (l₁:=_))
 by_cases h0:t.pool=[]
 ·refine ⟨hb.1,hp,(G::((lb hs 122 (px t.stat))++((lb hq 122 (px t.twi))++K))),none,0,fun h=>by rw [h0] at h;simp at h,?_,fun V' h=>h.sub.dropA.dropA,?_,?_,?_⟩
  ·exact fun q hq=>List.mem_cons_of_mem _ (List.mem_append_right _ (List.mem_append_right _ hq))
  ·rw [hcell,(hnil _).mpr h0,h0];rfl
  ·unfold IMU;rw [if_pos h0];rw [(hnil _).mpr h0] at hMp;exact hMp
  ·intro ys V' hy hV
   have hy0:ys=[]:=by rw [h0] at hy;exact List.eq_nil_of_length_eq_zero hy
   unfold IMU at hV
   rw [if_pos hy0] at hV
   refine hpm ys V' hy ?_
   rw [(hnil _).mpr hy0]
   exact hV
 ·have hne:ux t.pool≠[]:=fun e=>h0 ((hnil _).mp e)
  refine ⟨hb.1,hp,(G::((lb hs 122 (px t.stat))++((lb hq 122 (px t.twi))++K))),some ⟨hp,0,none⟩,t.pool.length,fun _=>rfl,?_,fun V' h=>h.sub.dropA.dropA,?_,?_,?_⟩
  ·exact fun q hq=>List.mem_cons_of_mem _ (List.mem_append_right _ (List.mem_append_right _ hq))
  ·rw [hcell,lv_one hne,hlen]
  ·unfold IMU;rw [if_neg h0];rw [lb_one hne] at hMp;exact hMp
  ·intro ys V' hy hV
   have hy0:ys≠[]:=by rintro rfl;simp at hy;exact h0 (List.eq_nil_of_length_eq_zero hy.symm)
   unfold IMU at hV
   rw [if_neg hy0] at hV
   refine hpm ys V' hy ?_
   rw [lb_one (fun e=>hy0 ((hnil _).mp e))]
   exact hV
def set_stat (t:Ten) (m:Nat):Ten:=if m=0 then t else { t with stat:=List.replicate m (0,0) }
theorem lens_Cstat {w:World}:∀ t g T pre post V K,JT w t g T pre post V K→∃ A M y,Lens w JT 27 t g T pre post V K M A∧A[pre.length+27]? = some y ∧
   ∀ m V',m≤255→CMade_TP w V' g A T (pre.length+27) M m→JT w (set_stat t m) g T pre post V' K:=by
 rintro t g T pre post V K ⟨hl,hb,hp,hs,hq,hM⟩
 refine ⟨_,_,_,⟨hM,fun q hq=>?_,fun V' h=>h.dropA.dropA.dropA⟩,get_mid _ _ _ 27 _ (tget (v:=lv hs (px t.stat)) hl (by rintro n vn a b c d f g x y vt a1 b1 c1 d1 f1 g1 a2 b2 c2 d2 f2 g2 po lo hi fi st tw se qu ra bu rfl;rfl)),fun m V' hm hV=>?_⟩
 ·exact List.mem_append_right _ (List.mem_append_right _ (List.mem_append_right _ hq))
 ·rcases hV with ⟨rfl,hV⟩ | ⟨h0,h,hV⟩
  ·exact ⟨hl,hb,hp,hs,hq,hV⟩
  ·have hne:px (List.replicate m (0,0))≠[]:=by
    cases m with
    | zero=>omega
    | succ m=>simp [px,List.replicate_succ]
   have hlen:(px (List.replicate m (0,0))).length=m:=by simp [px]
   rw [set_mid _ _ _ 27 _ (by rw [tc_len hl];omega),made_P m h0] at hV
   unfold set_stat
   rw [if_neg (by omega)]
   refine ⟨⟨hl.key,hl.vmac,hl.host⟩,?_,hp,h,hq,?_⟩
   ·simp only [List.length_replicate];exact ⟨hb.1,hm,hb.2.2⟩
   ·have e:(tc t (lv hp (ux t.pool)) (lv hs (px t.stat)) (lv hq (px t.twi))).set 27 (.slice (some ⟨h,0,none⟩) m m)=tc { t with stat:=List.replicate m (0,0) } (lv hp (ux t.pool)) (lv h (px (List.replicate m (0,0)))) (lv hq (px t.twi)):=by
     rw [lv_one hne,hlen]
     exact tset hl (by rintro n vn a b c d f g x y vt a1 b1 c1 d1 f1 g1 a2 b2 c2 d2 f2 g2 po lo hi fi st tw se qu ra bu rfl;rfl)
    rw [e] at hV
    simp only at hV ⊢
    rw [lb_one hne]
    exact (hV.subl ((((List.sublist_append_right _ _).append_left _).cons_cons _).cons_cons _)).perm ((List.perm_middle (l₁:=_)).symm.cons _)
theorem lens_Istat {w:World}:∀ t g T pre post V K,JT w t g T pre post V K→t.stat.length≤255∧∃ hb M sa sc,(0 < t.stat.length→sa=some ⟨hb,0,none⟩)∧Sub K M∧(∀ V',Mem w V' M→Mem w V' K)∧V.cell? ⟨g,pre.length+27,none⟩=some (.slice sa t.stat.length sc) ∧
   IMP w hb M V t.stat∧∀ ys V',ys.length=t.stat.length→IMP w hb M V' ys→JT w { t with stat:=ys } g T pre post V' K:=by
 rintro t g T pre post V K ⟨hl,hb,hp,hs,hq,hM⟩
 have hcell:V.cell? ⟨g,pre.length+27,none⟩=some (lv hs (px t.stat)):=by
  rw [hM.cell 0 rfl]
  exact get_mid _ _ _ 27 _ (tget hl (by rintro n vn a b c d f g x y vt a1 b1 c1 d1 f1 g1 a2 b2 c2 d2 f2 g2 po lo hi fi st tw se qu ra bu rfl;rfl))
 have hlen:∀ l,(px l).length=l.length:=by intro l;simp [px]
 have hnil:∀ l,px l=[] ↔ l=[]:=by intro l;simp [px]
 obtain ⟨G,hG⟩:∃ G:Nat×Obj,G=(g,.cells (pre++(tc t (lv hp (ux t.pool)) (lv hs (px t.stat)) (lv hq (px t.twi))++post)).toArray T (0,0)):=⟨_,rfl⟩
 rw [←hG] at hM
 have hMp:Mem w V (lb hs 122 (px t.stat)++(G::((lb hp 33 (ux t.pool))++((lb hq 122 (px t.twi))++K)))):=hM.perm (by
  refine List.Perm.trans ((List.perm_append_comm_assoc _ _ _).cons _) ?_
  exact (List.perm_middle (l₁:=_)).symm)
 have hpm:∀ ys V',ys.length=t.stat.length→Mem w V' (lb hs 122 (px ys)++(G::((lb hp 33 (ux t.pool))++((lb hq 122 (px t.twi))++K))))→JT w { t with stat:=ys } g T pre post V' K:=by
  intro ys V' hy hV
  refine ⟨⟨hl.key,hl.vmac,hl.host⟩,⟨hb.1,by rw [hy];exact hb.2.1,hb.2.2⟩,hp,hs,hq,?_⟩
  have e:lv hs (px ys)=lv hs (px t.stat):=lv_len (by rw [hlen,hlen,hy])
  have e2:tc { t with stat:=ys } (lv hp (ux t.pool)) (lv hs (px ys)) (lv hq (px t.twi))=tc t (lv hp (ux t.pool)) (lv hs (px t.stat)) (lv hq (px t.twi)):=by rw [e];rfl
  simp only at e2 ⊢
  rw [e2,← hG]
  exact hV.perm (by
   refine List.Perm.trans (List.perm_middle (l₁:=_)) ?_
   exact (List.perm_append_comm_assoc _ _ _).cons _)
 by_cases h0:t.stat=[]
 ·refine ⟨hb.2.1,hs,(G::((lb hp 33 (ux t.pool))++((lb hq 122 (px t.twi))++K))),none,0,fun h=>by rw [h0] at h;simp at h,?_,fun V' h=>h.sub.dropA.dropA,?_,?_,?_⟩
  ·exact fun q hq=>List.mem_cons_of_mem _ (List.mem_append_right _ (List.mem_append_right _ hq))
  ·rw [hcell,(hnil _).mpr h0,h0];rfl
  ·unfold IMP;rw [if_pos h0];rw [(hnil _).mpr h0] at hMp;exact hMp
  ·intro ys V' hy hV
   have hy0:ys=[]:=by rw [h0] at hy;exact List.eq_nil_of_length_eq_zero hy
   unfold IMP at hV
   rw [if_pos hy0] at hV
   refine hpm ys V' hy ?_
   rw [(hnil _).mpr hy0]
   exact hV
 ·have hne:px t.stat≠[]:=fun e=>h0 ((hnil _).mp e)
  refine ⟨hb.2.1,hs,(G::((lb hp 33 (ux t.pool))++((lb hq 122 (px t.twi))++K))),some ⟨hs,0,none⟩,t.stat.length,fun _=>rfl,?_,fun V' h=>h.sub.dropA.dropA,?_,?_,?_⟩
  ·exact fun q hq=>List.mem_cons_of_mem _ (List.mem_append_right _ (List.mem_append_right _ hq))
  ·rw [hcell,lv_one hne,hlen]
  ·unfold IMP;rw [if_neg h0];rw [lb_one hne] at hMp;exact hMp
  ·intro ys V' hy hV
   have hy0:ys≠[]:=by rintro rfl;simp at hy;exact h0 (List.eq_nil_of_length_eq_zero hy.symm)
   unfold IMP at hV
   rw [if_neg hy0] at hV
   refine hpm ys V' hy ?_
   rw [lb_one (fun e=>hy0 ((hnil _).mp e))]
   exact hV
def set_twi (t:Ten) (m:Nat):Ten:=if m=0 then t else { t with twi:=List.replicate m (0,0) }
theorem lens_Ctwi {w:World}:∀ t g T pre post V K,JT w t g T pre post V K→∃ A M y,Lens w JT 28 t g T pre post V K M A∧A[pre.length+28]? = some y ∧
   ∀ m V',m≤255→CMade_TP w V' g A T (pre.length+28) M m→JT w (set_twi t m) g T pre post V' K:=by
 rintro t g T pre post V K ⟨hl,hb,hp,hs,hq,hM⟩
 refine ⟨_,_,_,⟨hM,fun q hq=>?_,fun V' h=>h.dropA.dropA.dropA⟩,get_mid _ _ _ 28 _ (tget (v:=lv hq (px t.twi)) hl (by rintro n vn a b c d f g x y vt a1 b1 c1 d1 f1 g1 a2 b2 c2 d2 f2 g2 po lo hi fi st tw se qu ra bu rfl;rfl)),fun m V' hm hV=>?_⟩
 ·exact List.mem_append_right _ (List.mem_append_right _ (List.mem_append_right _ hq))
 ·rcases hV with ⟨rfl,hV⟩ | ⟨h0,h,hV⟩
  ·exact ⟨hl,hb,hp,hs,hq,hV⟩
  ·have hne:px (List.replicate m (0,0))≠[]:=by
    cases m with
    | zero=>omega
    | succ m=>simp [px,List.replicate_succ]
   have hlen:(px (List.replicate m (0,0))).length=m:=by simp [px]
   rw [set_mid _ _ _ 28 _ (by rw [tc_len hl];omega),made_P m h0] at hV
   unfold set_twi
   rw [if_neg (by omega)]
   refine ⟨⟨hl.key,hl.vmac,hl.host⟩,?_,hp,hs,h,?_⟩
   ·simp only [List.length_replicate];exact ⟨hb.1,hb.2.1,hm⟩
   ·have e:(tc t (lv hp (ux t.pool)) (lv hs (px t.stat)) (lv hq (px t.twi))).set 28 (.slice (some ⟨h,0,none⟩) m m)=tc { t with twi:=List.replicate m (0,0) } (lv hp (ux t.pool)) (lv hs (px t.stat)) (lv h (px (List.replicate m (0,0)))):=by
     rw [lv_one hne,hlen]
     exact tset hl (by rintro n vn a b c d f g x y vt a1 b1 c1 d1 f1 g1 a2 b2 c2 d2 f2 g2 po lo hi fi st tw se qu ra bu rfl;rfl)
    rw [e] at hV
    simp only at hV ⊢
    rw [lb_one hne]
    refine Mem.perm (hV.subl (((((List.sublist_append_right _ _).append_left _).append_left _).cons_cons _).cons_cons _)) ?_
    refine List.Perm.cons _ ?_
    refine List.Perm.trans ?_ ((List.perm_middle (l₁:=_)).symm.append_left _)
    exact (List.perm_middle (l₁:=_)).symm
theorem lens_Itwi {w:World}:∀ t g T pre post V K,JT w t g T pre post V K→t.twi.length≤255∧∃ hb M sa sc,(0 < t.twi.length→sa=some ⟨hb,0,none⟩)∧Sub K M∧(∀ V',Mem w V' M→Mem w V' K)∧V.cell? ⟨g,pre.length+28,none⟩=some (.slice sa t.twi.length sc) ∧
   IMP w hb M V t.twi∧∀ ys V',ys.length=t.twi.length→IMP w hb M V' ys→JT w { t with twi:=ys } g T pre post V' K:=by
 rintro t g T pre post V K ⟨hl,hb,hp,hs,hq,hM⟩
 have hcell:V.cell? ⟨g,pre.length+28,none⟩=some (lv hq (px t.twi)):=by
  rw [hM.cell 0 rfl]
  exact get_mid _ _ _ 28 _ (tget hl (by rintro n vn a b c d f g x y vt a1 b1 c1 d1 f1 g1 a2 b2 c2 d2 f2 g2 po lo hi fi st tw se qu ra bu rfl;rfl))
 have hlen:∀ l,(px l).length=l.length:=by intro l;simp [px]
 have hnil:∀ l,px l=[] ↔ l=[]:=by intro l;simp [px]
 obtain ⟨G,hG⟩:∃ G:Nat×Obj,G=(g,.cells (pre++(tc t (lv hp (ux t.pool)) (lv hs (px t.stat)) (lv hq (px t.twi))++post)).toArray T (0,0)):=⟨_,rfl⟩
 rw [←hG] at hM
 have hMp:Mem w V (lb hq 122 (px t.twi)++(G::((lb hp 33 (ux t.pool))++((lb hs 122 (px t.stat))++K)))):=hM.perm (by
  refine List.Perm.trans (((List.perm_append_comm_assoc _ _ _).append_left _).cons _) ?_
  refine List.Perm.trans ((List.perm_append_comm_assoc _ _ _).cons _) ?_
  exact (List.perm_middle (l₁:=_)).symm)
 have hpm:∀ ys V',ys.length=t.twi.length→Mem w V' (lb hq 122 (px ys)++(G::((lb hp 33 (ux t.pool))++((lb hs 122 (px t.stat))++K))))→JT w { t with twi:=ys } g T pre post V' K:=by
  intro ys V' hy hV
  refine ⟨⟨hl.key,hl.vmac,hl.host⟩,⟨hb.1,hb.2.1,by rw [hy];exact hb.2.2⟩,hp,hs,hq,?_⟩
  have e:lv hq (px ys)=lv hq (px t.twi):=lv_len (by rw [hlen,hlen,hy])
  have e2:tc { t with twi:=ys } (lv hp (ux t.pool)) (lv hs (px t.stat)) (lv hq (px ys))=tc t (lv hp (ux t.pool)) (lv hs (px t.stat)) (lv hq (px t.twi)):=by rw [e];rfl
  simp only at e2 ⊢
  rw [e2,← hG]
  exact hV.perm (by
   refine List.Perm.trans (List.perm_middle (l₁:=_)) ?_
   refine List.Perm.cons _ ?_
   refine List.Perm.trans (List.perm_append_comm_assoc _ _ _) ?_
   exact (List.perm_append_comm_assoc _ _ _).append_left _)
 by_cases h0:t.twi=[]
 ·refine ⟨hb.2.2,hq,(G::((lb hp 33 (ux t.pool))++((lb hs 122 (px t.stat))++K))),none,0,fun h=>by rw [h0] at h;simp at h,?_,fun V' h=>h.sub.dropA.dropA,?_,?_,?_⟩
  ·exact fun q hq=>List.mem_cons_of_mem _ (List.mem_append_right _ (List.mem_append_right _ hq))
  ·rw [hcell,(hnil _).mpr h0,h0];rfl
  ·unfold IMP;rw [if_pos h0];rw [(hnil _).mpr h0] at hMp;exact hMp
  ·intro ys V' hy hV
   have hy0:ys=[]:=by rw [h0] at hy;exact List.eq_nil_of_length_eq_zero hy
   unfold IMP at hV
   rw [if_pos hy0] at hV
   refine hpm ys V' hy ?_
   rw [(hnil _).mpr hy0]
   exact hV
 ·have hne:px t.twi≠[]:=fun e=>h0 ((hnil _).mp e)
  refine ⟨hb.2.2,hq,(G::((lb hp 33 (ux t.pool))++((lb hs 122 (px t.stat))++K))),some ⟨hq,0,none⟩,t.twi.length,fun _=>rfl,?_,fun V' h=>h.sub.dropA.dropA,?_,?_,?_⟩
  ·exact fun q hq=>List.mem_cons_of_mem _ (List.mem_append_right _ (List.mem_append_right _ hq))
  ·rw [hcell,lv_one hne,hlen]
  ·unfold IMP;rw [if_neg h0];rw [lb_one hne] at hMp;exact hMp
  ·intro ys V' hy hV
   have hy0:ys≠[]:=by rintro rfl;simp at hy;exact h0 (List.eq_nil_of_length_eq_zero hy.symm)
   unfold IMP at hV
   rw [if_neg hy0] at hV
   refine hpm ys V' hy ?_
   rw [lb_one (fun e=>hy0 ((hnil _).mp e))]
   exact hV
end Go.Proofs.YtdigofgjhaakmaaGreatDoor
