/-
  What package log's Append answers.
  Settings as bytes: the program's config(): all fields of settings, in their order.
  Plain mathematics of the log: the store holds the last of the records that were acknowledged, whatever write fails.
  Settings as bytes: what the document's reader reads is what the program's fields read, number by number.
  Settings as bytes: the document's own reader: tenant, its walk.
  Settings as bytes: the chapter's example, as the statements ask it.
  Settings as bytes: the program's whole (lych/api.Config): what all bytes are.
  A log and its store, in step: what Open, Append, Records, Last do to them.
  Settings as bytes: what the document's reader reads of a tenant is what the program's fields read.
  Settings held against one another: lychhelp.Tenant and the program's Same tell the same.
-/
import Derived.Test.YtdigofgjhaakmaaGreatDoorW17
import Derived.Test.YtdigofgjhaakmaaGreatDoorW13
import Derived.Test.YtdigofgjhaakmaaGreatDoorW15
import Derived.Test.YtdigofgjhaakmaaGreatDoorW16
set_option linter.unusedVariables false
set_option linter.unusedSimpArgs false
set_option maxRecDepth 20000
set_option maxHeartbeats 40000000
namespace Go.Proofs.YtdigofgjhaakmaaGreatDoor
open Go.RowKit
open Sm
theorem rd_slot {bl:List (List Int)} {slot:Nat} {x:En} (h:rd bl slot=some x):x.s=slot:=by
 unfold rd at h
 split at h
 ·cases h
 ·simp only [Option.map_eq_some_iff] at h
  obtain ⟨r,-,rfl⟩:=h
  rfl
theorem nw_slot (bl:List (List Int)):(nw (fd bl)).s≤1:=by
 unfold nw
 rw [List.getLastD_eq_getLast?]
 cases hx:(fd bl).getLast? with
 | none=>simp [En.zero]
 | some x =>
  have:=List.mem_of_getLast? hx
  rcases fd_mem this with e | e <;> simp [rd_slot e]
theorem Beside.mono {w:World} {p h m:Nat} {L L2:List (Nat×Obj)} {a:Option Addr} {r:List Int} (hB:Beside w p h m L a r) (hs:∀ x∈L,x∈L2):Beside w p h m L2 a r :=
 fun W' D' hc' ks' L' H hL=>hB W' D' hc' ks' L' H fun x hx=>hL x (hs x hx)
theorem nxt_ok {n m:Nat} {t c:Int} {bl:List (List Int)} {r:List Int} (hn:4≤n) (hn1:n≤64) (hm:256≤m) (hm1:m≤65536) (hr:r.length≤room n m) (hb:IsBytes r) (hc:0≤(lnxt t c (nw (fd bl)) r).c):EnOk n m (lnxt t c (nw (fd bl)) r):=by
 refine ⟨by simp only [lnxt];omega,?_,⟨hc,?_⟩,?_,hb,hn,hn1,hm,hm1⟩
 ·simp only [lnxt]
  have:IntKind.u64.wrap ((nw (fd bl)).t+1)=((nw (fd bl)).t+1) % 18446744073709551616:=by simp [IntKind.wrap,IntKind.bits,IntKind.signed]
  rw [this];omega
 ·simp only [lnxt];rw [IntKind.wrap_i64];omega
 ·simp only [lnxt]
  unfold room at hr
  rw [if_pos ⟨hn,hm⟩] at hr
  omega
section
variable {w W:World} {p h m:Nat} {D:Dk} {hc:Array Value} {ks:List Bk} {L:List (Nat×Obj)} {pl:Nat} {t c:Int} {v:Value}
theorem log_cell (H:DkAt w W p h m D hc ks ((pl,.cells (lgA p t c v) lgT (0,0))::L)) (j:Nat):W.cell? ⟨pl,j,none⟩=(lgA p t c v)[j]?:=cell_of (H.has (x:=(pl,.cells (lgA p t c v) lgT (0,0))) (by simp)) j
theorem append_big (H:DkAt w W p h m D hc ks ((pl,.cells (lgA p t c v) lgT (0,0))::L)) (a:Option Addr) (k cap:Nat) (hk:room ks.length m < k) :
  Calls Tryz.prog 60 #[.pointer (some ⟨pl,0,none⟩),.slice a k cap] W fun e W'=>e=.returned (.int .i64 51)∧W=W':=by
 have k0:=log_cell H 0
 simp at k0
 have hr:=lroom_any H
 generalize room ks.length m=R at *
 have q:(R:Int) < (k:Int):=by omega
 clear H
 go_enter Tryz.func60,Tryz.ntmps60
 go_wp2_with fail
 refine hr.mono ?_
 rintro e w' ⟨rfl,rfl⟩
 go_wp2
 go_ret
 exact ⟨rfl,rfl⟩
structure ApEnd (w W:World) (p h m:Nat) (D0:Dk) (hc:Array Value) (bl:List (List Int)) (L:List (Nat×Obj)) (pl:Nat) (t c:Int) (v:Value) (e:En) (err:Int) (D:Dk) (ks:List Bk) (c':Int) (v':Value) (X K:List (Nat×Obj)):Prop where
 at_:DkAt w W p h m D hc ks ((pl,.cells (lgA p e.t c' v') lgT (0,0))::(X++(K++L)))
 ok:(err=0∧D.dead=false∧(D0.set=false→D=D0)∧ks.map Bk.b=lpart m e bl (npc (m - 64) e.r.length)∧c'=e.c∧OwnV v' e.r X)∨(err=42∧D=gone∧D0.set=true∧Left m e bl (ks.map Bk.b)∧c'=c∧v'=v∧X=[])
set_option maxRecDepth 20000 in
theorem append_live (H:DkAt w W p h m D hc ks ((pl,.cells (lgA p t c v) lgT (0,0))::L)) {ga:Addr} (hG:Gl w ga) (hd:D.dead=false) (hn:4≤ks.length) (hm:256≤m) {a:Option Addr} {k cap:Nat} {r:List Int} (hr:r.length=k) (hk:k≤room ks.length m) (hcap:k≤cap) (hsh:(a=none∧cap=0)∨∃ b off,a=some ⟨b,off,none⟩)
  (hB:Beside w p h m L a r) (hb:IsBytes r) (hcc:0≤(lnxt t c (nw (fd (ks.map Bk.b))) r).c) {av:Option Addr} {kv cv:Nat} (hv:v=.slice av kv cv) :
  Calls Tryz.prog 60 #[.pointer (some ⟨pl,0,none⟩),.slice a k cap] W fun ev W'=>∃ err,ev=.returned (.int .i64 err)∧∃ D' ks' c' v' X K,ApEnd w W' p h m D hc (ks.map Bk.b) L pl t c v (lnxt t c (nw (fd (ks.map Bk.b))) r) err D' ks' c' v' X K:=by
 have k0:=log_cell H 0
 simp at k0
 have hrm:=lroom_any H
 have hf:=find_live H (hG.on H.st.mem) hd hn hm
 have heo:=nxt_ok (t:=t) (c:=c) (bl:=ks.map Bk.b) hn H.top hm H.mhi (by rw [hr];exact hk) hb hcc
 have hqs:=nw_slot (ks.map Bk.b)
 have HL:=fd_len (ks.map Bk.b)
 have q:¬ ((room ks.length m:Nat):Int) < (k:Int):=by omega
 generalize room ks.length m=R at *
 have HH:Hid (DkAt w W p h m D hc ks ((pl,.cells (lgA p t c v) lgT (0,0))::L)):=H
 have HE0:Hid (EnOk ks.length m (lnxt t c (nw (fd (ks.map Bk.b))) r)):=heo
 have HBE:Hid (Beside w p h m L a r):=hB
 generalize hFD:fd (ks.map Bk.b)=FD at *
 generalize hnq:nw FD=nq at *
 have HNQ:Hid (nw FD=nq):=hnq
 obtain ⟨e,hne⟩:∃ e,e=lnxt t c nq r:=⟨_,rfl⟩
 rw [←hne]
 have HNE:Hid (e=lnxt t c nq r):=hne
 have HEO:Hid (EnOk ks.length m e):=by rw [hne];exact HE0.out
 have HER:Hid (e.r=r):=by rw [hne];rfl
 clear H hFD heo hB hcc hG hnq hne HE0
 go_enter Tryz.func60,Tryz.ntmps60
 go_wp2_with fail
 refine hrm.mono ?_
 rintro e3 w' ⟨rfl,rfl⟩
 go_wp2_with fail
 refine hf.mono ?_
 rintro e3 w2 ⟨v2,rfl,l,hl,Y,hE,K2,hM2⟩
 have hll:l.length≤2:=by rw [←List.length_map (f:=Prod.fst),hl];exact HL
 have hN:=newest_any hE hM2 hll
 have hnw:=lastE_nw l
 rw [hl,HNQ.out] at hnw
 have hlv:∃ aq kq cq,(lastE l).2=.slice aq kq cq:=by
  rcases List.eq_nil_or_concat l with e | ⟨l',x,e⟩
  ·subst e;exact ⟨none,0,0,rfl⟩
  ·subst e
   have:lastE (l'.concat x)=x:=by simp [lastE]
   rw [this]
   obtain ⟨a1,c1,e1⟩:=es_vals hE (x:=x) (by simp)
   exact ⟨_,_,_,e1⟩
 obtain ⟨aq,kq,cq,hlv⟩:=hlv
 rw [hnw,hlv] at hN
 have H2:=HH.out.join hM2
 obtain ⟨ae,ce,ee⟩:=hE.shape
 subst ee
 have HQ:Hid (∀ V K,Mem w2 V K→Calls Tryz.prog 85 #[.pointer (some ⟨pl,0,none⟩),.agg (enA nq.s nq.t nq.c (.slice aq kq cq)),.slice a k cap] V fun e3 W'=>e3=.returned (.agg (enA e.s e.t e.c (.slice a k cap)))∧∃ K,Mem V W' K):=fun V K hV=>by
  rw [HNE.out]
  exact next_any ((H2.join hV).has (x:=(pl,.cells (lgA p t c v) lgT (0,0))) (by simp)) nq hqs aq kq cq a k cap r hr
 have H2h:Hid (DkAt w w2 p h m D hc ks ((Y++K2)++((pl,.cells (lgA p t c v) lgT (0,0))::L))):=H2
 clear hf hE hM2 hl hnw hlv H2 HL hqs HH hll HNE HNQ
 go_wp2_with fail
 refine hN.mono ?_
 rintro e3 w3 ⟨rfl,K3,h3⟩
 go_wp2_with fail
 refine (HQ.out w3 K3 h3).mono ?_
 rintro e3 w4 ⟨rfl,K4,h4⟩
 go_upto_region 7 with fail
 have HA:DkAt w (w4.alloc (.cells (enA e.s e.t e.c (.slice a k cap)) enT)) p h m D hc ks ((pl,.cells (lgA p t c v) lgT (0,0))::((w4.heap.size,.cells (enA e.s e.t e.c (.slice a k cap)) enT (0,0))::((K4++(K3++(Y++K2)))++L))):=by
  have h5:=((H2h.out.join h3).join h4).join (K:=[(w4.heap.size,.cells (enA e.s e.t e.c (.slice a k cap)) enT (0,0))]) ((Mem.nil w4).push1 rfl)
  refine h5.on (h5.st.perm ?_)
  have e9:∀ (P B:Nat×Obj) (K4 K3 Z L:List (Nat×Obj)),([B]++(K4++(K3++(Z++(P::L))))).Perm (P::(B::((K4++(K3++Z))++L))):=by
   intro P B K4 K3 Z L
   have e8:([B]++(K4++(K3++(Z++(P::L)))))=(B::(K4++(K3++Z)))++(P::L):=by simp
   rw [e8];exact List.perm_middle
  exact e9 _ _ _ _ _ _
 refine wp_letter (fun V=>DkAt w V p h m D hc ks ((pl,.cells (lgA p t c v) lgT (0,0))::((w4.heap.size,.cells (enA e.s e.t e.c (.slice a k cap)) enT (0,0))::((K4++(K3++(Y++K2)))++L)))) HA ?_
 clear HA
 intro wB HB
 generalize w4.heap.size=b7 at *
 generalize K4++(K3++(Y++K2))=KK at *
 clear h3 h4 H2h HQ hN
 have x1:wB.cell? ⟨b7,1,none⟩=some (.int .u64 e.t):=cell_of (HB.has (x:=(b7,.cells (enA e.s e.t e.c (.slice a k cap)) enT (0,0))) (by simp)) 1
 have y1:wB.cell? ⟨pl,1,none⟩=some (.int .u64 t):=log_cell HB 1
 have yf:wB.frozen? ⟨pl,1,none⟩=false:=HB.st.extraFree 1
 have HB1:Hid (DkAt w (wB.setCell ⟨pl,1,none⟩ (.int .u64 e.t)) p h m D hc ks ((pl,.cells (lgA p e.t c v) lgT (0,0))::((b7,.cells (enA e.s e.t e.c (.slice a k cap)) enT (0,0))::(KK++L)))):=HB.on (HB.st.extraSet 1 (.int .u64 e.t))
 clear HB
 go_upto_region 8 with fail
 refine wp_letter (fun V=>DkAt w V p h m D hc ks ((pl,.cells (lgA p e.t c v) lgT (0,0))::((b7,.cells (enA e.s e.t e.c (.slice a k cap)) enT (0,0))::(KK++L)))) HB1.out ?_
 clear HB1 x1 y1 yf
 intro wC HC
 have HS:Hid (∀ V D' ks' K,DkAt w V p h m D' hc ks' (K++((pl,.cells (lgA p e.t c v) lgT (0,0))::((b7,.cells (enA e.s e.t e.c (.slice a k cap)) enT (0,0))::(KK++L))))→V.cell? ⟨pl,0,none⟩=some (.pointer (some ⟨p,0,none⟩))∧V.cell? ⟨b7,0,none⟩=some (.int .i64 e.s)∧V.cell? ⟨b7,1,none⟩=some (.int .u64 e.t)∧V.cell? ⟨b7,2,none⟩=some (.int .i64 e.c)∧V.cell? ⟨b7,3,none⟩=some (.slice a k cap)):=by
  intro V D' ks' K hV
  have g1:=hV.has (x:=(pl,.cells (lgA p e.t c v) lgT (0,0))) (by simp)
  have g2:=hV.has (x:=(b7,.cells (enA e.s e.t e.c (.slice a k cap)) enT (0,0))) (by simp)
  exact ⟨cell_of g1 0,cell_of g2 0,cell_of g2 1,cell_of g2 2,cell_of g2 3⟩
 obtain ⟨u0,u1,u2,u3,u4⟩:=HS.out wC D ks [] HC
 have HWR:Hid (Calls Tryz.prog 86 #[.pointer (some ⟨p,0,none⟩),.agg (enA e.s e.t e.c (.slice a k cap))] wC.drew fun ev W'=>∃ err,ev=.returned (.int .i64 err)∧∃ D' ks' K,WrEnd w W' p h m D hc (ks.map Bk.b) ((pl,.cells (lgA p e.t c v) lgT (0,0))::((b7,.cells (enA e.s e.t e.c (.slice a k cap)) enT (0,0))::(KK++L))) e err D' ks' K) :=
  write_any (HC.on HC.st.drew) hd e HEO.out (by rw [HER.out];exact hr) hcap hsh (by rw [HER.out];exact HBE.out.mono (fun q hq=>by simp [hq]))
 clear HC
 go_region_held3 (fun w'=>w'.cell? ⟨pl,0,none⟩=some (.pointer (some ⟨p,0,none⟩))∧w'.cell? ⟨b7,0,none⟩=some (.int .i64 e.s)∧w'.cell? ⟨b7,1,none⟩=some (.int .u64 e.t)∧w'.cell? ⟨b7,2,none⟩=some (.int .i64 e.c)∧w'.cell? ⟨b7,3,none⟩=some (.slice a k cap))
  (first | go_keep | assumption | exact HS.out _ _ _ _ hend.at_)
  (first | (go_at_call 86;with_reducible refine HWR.out.mono ?_;rintro e3 w7 ⟨err,rfl,D7,ks7,K7,hend⟩))
 rcases hend.ok with ⟨rfl,z1,z2,z3⟩ | ⟨rfl,z1,z2,z3⟩
 ·have H7:=hend.at_
  have H7p:DkAt w w7 p h m D7 hc ks7 ((pl,.cells (lgA p e.t c v) lgT (0,0))::((b7,.cells (enA e.s e.t e.c (.slice a k cap)) enT (0,0))::((K7++KK)++L))):=by
   refine H7.on (H7.st.perm ?_)
   have e9:∀ (P B:Nat×Obj) (K Z L:List (Nat×Obj)),(K++(P::(B::(Z++L)))).Perm (P::(B::((K++Z)++L))):=by
    intro P B K Z L
    refine List.perm_middle.trans (List.Perm.cons P (List.perm_middle.trans (List.Perm.cons B ?_)))
    rw [List.append_assoc]
   exact e9 _ _ _ _ _
  have x2:w7.cell? ⟨b7,2,none⟩=some (.int .i64 e.c):=cell_of (H7p.has (x:=(b7,.cells (enA e.s e.t e.c (.slice a k cap)) enT (0,0))) (by simp)) 2
  have hlb:b7 < w7.drew.heap.size:=cell_lt x2
  have x2d:w7.drew.cell? ⟨b7,2,none⟩=some (.int .i64 e.c):=x2
  have hRow:Row w7.drew a r:=row_drew (HBE.out _ _ _ _ _ H7p (fun q hq=>by simp [hq]))
  have HSM:Hid (Calls Tryz.prog 87 #[.slice a k cap] w7.drew fun e W'=>∃ g,e=.returned (.slice (some ⟨g,0,none⟩) k k)∧Mem w7.drew W' [(g,.cells (bs r) 5)]):=lsame_any hr hRow cap
  have HPL:Hid (∀ V g,Mem w7.drew V [(g,.cells (bs r) 5)]→V.cell? ⟨pl,2,none⟩=some (.int .i64 c)∧V.cell? ⟨pl,3,none⟩=some v∧(∀ j,V.frozen? ⟨pl,j,none⟩=false)∧DkAt w ((V.setCell ⟨pl,2,none⟩ (.int .i64 e.c)).setCell ⟨pl,3,none⟩ (.slice (some ⟨g,0,none⟩) k k)) p h m D7 hc ks7 ((pl,.cells (lgA p e.t e.c (.slice (some ⟨g,0,none⟩) k k)) lgT (0,0))::([(g,.cells (bs r) 5)]++((b7,.cells (enA e.s e.t e.c (.slice a k cap)) enT (0,0))::((K7++KK)++L))))):=by
   intro V g hV
   have H8:=(H7p.on H7p.st.drew).join hV
   have H8p:DkAt w V p h m D7 hc ks7 ((pl,.cells (lgA p e.t c v) lgT (0,0))::([(g,.cells (bs r) 5)]++((b7,.cells (enA e.s e.t e.c (.slice a k cap)) enT (0,0))::((K7++KK)++L)))):=H8.on (H8.st.perm (List.Perm.swap _ _ _))
   refine ⟨log_cell H8p 2,log_cell H8p 3,fun j=>H8p.st.extraFree j,H8p.on ?_⟩
   exact (H8p.st.extraSet 2 (.int .i64 e.c)).extraSet 3 (.slice (some ⟨g,0,none⟩) k k)
  have hpb:pl≠b7:=by
   have:=H7p.st.mem.ne (ks7.length+2) (ks7.length+3) (g:=pl) (k:=b7) H7p.st.extra (by
    show (ks7.map Bk.ob++_)[ks7.length+1]? = _
    rw [List.getElem?_append_right (by simp)];simp;rfl) (by omega)
   exact this
  have HFIN:Hid (D7.dead=false∧(D.set=false→D7=D)∧ks7.map Bk.b=lpart m e (ks.map Bk.b) (npc (m - 64) e.r.length)):=⟨z1,z2,z3⟩
  clear hend H7 H7p hRow z1 z2 z3 HS HWR u0 u1 u2 u3 u4
  go_upto_region 11 with fail
  subst hv
  go_region_held3 (fun w'=>w'.cell? ⟨b7,2,none⟩=some (.int .i64 e.c)) (first | go_keep | assumption | exact (q8.old hlb).trans x2d)
   (first | (go_at_call 87;with_reducible refine HSM.out.mono ?_;rintro e3 w8 ⟨g8,rfl,q8⟩;obtain ⟨v2,v3,vf,vD⟩:=HPL.out _ _ q8))
  all_goals go_wp2
  all_goals go_ret
  refine ⟨0,rfl,D7,ks7,e.c,.slice (some ⟨g8,0,none⟩) k k,[(g8,.cells (bs r) 5)],(b7,.cells (enA e.s e.t e.c (.slice a k cap)) enT (0,0))::(K7++KK),⟨?_,Or.inl ⟨rfl,HFIN.out.1,HFIN.out.2.1,HFIN.out.2.2,rfl,?_⟩⟩⟩
  ·exact vD
  ·rw [HER.out]
   refine Or.inr ⟨Bk.mk g8 k (bs r) r,by rw [hr],rfl,⟨by rw [hr];exact Nat.le_refl _,by rw [bs_size,hr];exact Nat.le_refl _,?_,rfl,hb⟩,rfl⟩
   show List.take _ (List.map _ _)=_
   exact List.take_of_length_le (by simp)
 ·have H7:=hend.at_
  have HEND:Hid (∃ D' ks' c' v' X K,ApEnd w w7 p h m D hc (ks.map Bk.b) L pl t c v e 42 D' ks' c' v' X K):=by
   refine ⟨D7,ks7,c,v,[],(K7++((b7,.cells (enA e.s e.t e.c (.slice a k cap)) enT (0,0))::KK)),⟨?_,Or.inr ⟨rfl,z1,z2,z3,rfl,rfl,rfl⟩⟩⟩
   refine H7.on (H7.st.perm ?_)
   have e9:∀ (P B:Nat×Obj) (K Z L:List (Nat×Obj)),(K++(P::(B::(Z++L)))).Perm (P::([]++((K++(B::Z))++L))):=by
    intro P B K Z L
    refine List.perm_middle.trans (List.Perm.cons P ?_)
    simp
   exact e9 _ _ _ _ _
  clear hend H7 z1 z2 z3
  go_wp2
  go_ret
  exact ⟨42,rfl,HEND.out⟩
end
end Go.Proofs.YtdigofgjhaakmaaGreatDoor
namespace Go.Proofs.YtdigofgjhaakmaaGreatDoor
open Go.RowKit
open Sm
open Cf
theorem config_any {w W:World} {L:List (Nat×Obj)} (h:Mem w W L) :
  Calls Tryz.prog 124 #[] W fun e W'=>∃ f E,e=.returned f.val∧Mem w W' (E++L)∧Fw w E IC JC f spC:=by
 have hM0:Mem w (W.alloc (.cells #[.nilFunc,.nilFunc,.nilFunc] 189)) ((W.heap.size,.cells #[.nilFunc,.nilFunc,.nilFunc] 189)::([]++L)):=(h.push W.heap.size _ rfl).perm List.perm_append_comm
 obtain ⟨rb,hrb⟩:∃ rb,W.heap.size=rb:=⟨_,rfl⟩
 rw [hrb] at hM0
 clear h
 go_enter Tryz.func124,Tryz.ntmps124
 have C1:=c_CIp hM0
 go_wp2_with fail
 refine C1.mono ?_
 rintro e V1 ⟨⟨k1a,k1b,k1c,q1a,q1b,q1c⟩,E1,rfl,hM1,S1,hF1⟩
 have F1:Hid (Fw w E1 _ _ ⟨k1a,k1b,k1c,q1a,q1b,q1c⟩ _):=hF1
 have T1:Hid (Sub [] E1):=S1
 simp only [Fv.val]
 clear C1 hM0 hF1 S1
 have C2:=c_CMac hM1
 go_wp2_with fail
 refine C2.mono ?_
 rintro e V2 ⟨⟨k2a,k2b,k2c,q2a,q2b,q2c⟩,E2,rfl,hM2,S2,hF2⟩
 have F2:Hid (Fw w E2 _ _ ⟨k2a,k2b,k2c,q2a,q2b,q2c⟩ _):=hF2
 have T2:Hid (Sub E1 E2):=S2
 simp only [Fv.val]
 clear C2 hM1 hF2 S2
 have C3:=c_COut hM2
 go_wp2_with fail
 refine C3.mono ?_
 rintro e V3 ⟨⟨k3a,k3b,k3c,q3a,q3b,q3c⟩,E3,rfl,hM3,S3,hF3⟩
 have F3:Hid (Fw w E3 _ _ ⟨k3a,k3b,k3c,q3a,q3b,q3c⟩ _):=hF3
 have T3:Hid (Sub E2 E3):=S3
 simp only [Fv.val]
 clear C3 hM2 hF3 S3
 have C4:=c_CNext hM3
 go_wp2_with fail
 refine C4.mono ?_
 rintro e V4 ⟨⟨k4a,k4b,k4c,q4a,q4b,q4c⟩,E4,rfl,hM4,S4,hF4⟩
 have F4:Hid (Fw w E4 _ _ ⟨k4a,k4b,k4c,q4a,q4b,q4c⟩ _):=hF4
 have T4:Hid (Sub E3 E4):=S4
 simp only [Fv.val]
 clear C4 hM3 hF4 S4
 have C5:=c_CKey hM4
 go_wp2_with fail
 refine C5.mono ?_
 rintro e V5 ⟨⟨k5a,k5b,k5c,q5a,q5b,q5c⟩,E5,rfl,hM5,S5,hF5⟩
 have F5:Hid (Fw w E5 _ _ ⟨k5a,k5b,k5c,q5a,q5b,q5c⟩ _):=hF5
 have T5:Hid (Sub E4 E5):=S5
 simp only [Fv.val]
 clear C5 hM4 hF5 S5
 have C6:=c_CDrain hM5
 go_wp2_with fail
 refine C6.mono ?_
 rintro e V6 ⟨⟨k6a,k6b,k6c,q6a,q6b,q6c⟩,E6,rfl,hM6,S6,hF6⟩
 have F6:Hid (Fw w E6 _ _ ⟨k6a,k6b,k6c,q6a,q6b,q6c⟩ _):=hF6
 have T6:Hid (Sub E5 E6):=S6
 simp only [Fv.val]
 clear C6 hM5 hF6 S6
 have C7:=c_CCnt hM6
 go_wp2_with fail
 refine C7.mono ?_
 rintro e V7 ⟨⟨k7a,k7b,k7c,q7a,q7b,q7c⟩,E7,rfl,hM7,S7,hF7⟩
 have F7:Hid (Fw w E7 _ _ ⟨k7a,k7b,k7c,q7a,q7b,q7c⟩ _):=hF7
 have T7:Hid (Sub E6 E7):=S7
 simp only [Fv.val]
 clear C7 hM6 hF7 S7
 have C8:=c_tenant hM7
 go_wp2_with fail
 refine C8.mono ?_
 rintro e V8 ⟨⟨k8a,k8b,k8c,q8a,q8b,q8c⟩,E8,rfl,hM8,S8,hF8⟩
 have F8:Hid (Fd w E8 _ _ ⟨k8a,k8b,k8c,q8a,q8b,q8c⟩ _):=hF8
 have T8:Hid (Sub E7 E8):=S8
 simp only [Fv.val]
 clear C8 hM7 hF8 S8
 have C9:=c_CItm hM8 ⟨k8a,k8b,k8c,q8a,q8b,q8c⟩ F8.out
 simp only [Fv.val] at C9
 go_wp2_with fail
 refine C9.mono ?_
 rintro e V9 ⟨⟨k9a,k9b,k9c,q9a,q9b,q9c⟩,E9,rfl,hM9,S9,hF9⟩
 have F9:Hid (Fw w E9 _ _ ⟨k9a,k9b,k9c,q9a,q9b,q9c⟩ _):=hF9
 have T9:Hid (Sub E8 E9):=S9
 simp only
 clear C9 hM8 hF9 S9
 obtain ⟨lb,hlb⟩:∃ lb,V9.heap.size=lb:=⟨_,rfl⟩
 obtain ⟨fs,hfs⟩:∃ fs:List Fv,fs=[⟨k1a,k1b,k1c,q1a,q1b,q1c⟩,⟨k2a,k2b,k2c,q2a,q2b,q2c⟩,⟨k3a,k3b,k3c,q3a,q3b,q3c⟩,⟨k4a,k4b,k4c,q4a,q4b,q4c⟩,⟨k5a,k5b,k5c,q5a,q5b,q5c⟩,⟨k6a,k6b,k6c,q6a,q6b,q6c⟩,⟨k7a,k7b,k7c,q7a,q7b,q7c⟩,⟨k9a,k9b,k9c,q9a,q9b,q9c⟩]:=⟨_,rfl⟩
 have hMx:Mem w (V9.alloc (.cells (fs.flatMap Fv.cells).toArray 189)) ((lb,.cells (fs.flatMap Fv.cells).toArray 189)::(rb,.cells #[.nilFunc,.nilFunc,.nilFunc] 189)::(E9++L)) :=
  (hM9.push lb _ hlb.symm).perm List.perm_append_comm
 have Cx:=mk_all_C hMx lb 8
 have HA:Hid (FwAll w E9 IC JC fs csp):=by
  have U9:Sub E9 E9:=Sub.refl _
  have U8:Sub E8 E9:=T9.out.trans U9
  have U7:Sub E7 E9:=T8.out.trans U8
  have U6:Sub E6 E9:=T7.out.trans U7
  have U5:Sub E5 E9:=T6.out.trans U6
  have U4:Sub E4 E9:=T5.out.trans U5
  have U3:Sub E3 E9:=T4.out.trans U4
  have U2:Sub E2 E9:=T3.out.trans U3
  have U1:Sub E1 E9:=T2.out.trans U2
  rw [hfs]
  exact .cons (F1.out.more U1) (.cons (F2.out.more U2) (.cons (F3.out.more U3) (.cons (F4.out.more U4) (.cons (F5.out.more U5) (.cons (F6.out.more U6) (.cons (F7.out.more U7) (.cons (F9.out.more U9) (.nil))))))))
 clear hMx hM9 F1 T1 F2 T2 F3 T3 F4 T4 F5 T5 F6 T6 F7 T7 F8 T8 F9 T9
 rw [hfs] at Cx
 simp only [List.flatMap_cons,List.flatMap_nil,Fv.cells,List.cons_append,List.nil_append,List.append_nil] at Cx
 go_wp2_with fail
 refine Cx.mono ?_
 rintro e V ⟨cb,rfl,hM⟩
 obtain ⟨E,hE⟩:∃ E:List (Nat×Obj),E=(cb,.cells #[.slice (some ⟨lb,0,none⟩) 8 8] 248)::(lb,.cells (fs.flatMap Fv.cells).toArray 189)::E9:=⟨_,rfl⟩
 have hM2:Mem w V ((rb,.cells #[.nilFunc,.nilFunc,.nilFunc] 189)::(E++L)):=by
  rw [hE,hfs]
  simp only [List.flatMap_cons,List.flatMap_nil,Fv.cells,List.cons_append,List.nil_append,List.append_nil]
  exact hM.perm (List.perm_middle (l₁:=[_,_]))
 have HF:Hid (Fw w E IC JC (fvAll_C cb) spC):=by
  refine fw_all_C cb lb 8 fs csp (by rw [hfs];rfl) (by omega) (by rw [hE];exact List.mem_cons_self ..) (by rw [hE];exact List.mem_cons_of_mem _ (List.mem_cons_self ..)) ?_ ?_ ?_
  ·have:∀ fs ss,FwAll w E9 IC JC fs ss→FwAll w E IC JC fs ss:=by
    intro fs ss hA
    induction hA with
    | nil=>exact .nil
    | cons h1 _ ih=>exact .cons (h1.more (by rw [hE];exact fun q hq=>List.mem_cons_of_mem _ (List.mem_cons_of_mem _ hq))) ih
   exact this _ _ HA.out
  ·rintro x g T pre post V V' K ⟨h1,h2,h,zs,h3,h4,h5⟩ hB
   exact ⟨h1,h2,h,zs,h3,h4,h5.after hB⟩
  ·rintro x g T pre post V K ⟨h1,h2,h,zs,h3,h4,h5⟩
   exact h5.sub.dropA
 clear Cx hM hE hfs HA
 generalize fvAll_C cb=f at HF
 obtain ⟨m1,m2,m3,n1,n2,n3⟩:=f
 have hM3:=hM2.put3 (.func (.func m1) #[] n1) (.func (.func m2) #[] n2) (.func (.func m3) #[] n3)
 have e0:V.cell? ⟨rb,0,none⟩=some .nilFunc:=hM2.cell 0 rfl 0
 have e1:V.cell? ⟨rb,1,none⟩=some .nilFunc:=hM2.cell 0 rfl 1
 have e2:V.cell? ⟨rb,2,none⟩=some .nilFunc:=hM2.cell 0 rfl 2
 have e3:=hM2.free 0 rfl
 clear hM2
 simp only [Fv.val]
 go_wp2_with fail
 refine bodyPost_ret (v:=.agg #[.func (.func m1) #[] n1,.func (.func m2) #[] n2,.func (.func m3) #[] n3]) ?_ rfl ⟨⟨m1,m2,m3,n1,n2,n3⟩,_::E,rfl,hM3,HF.out.more (fun q hq=>List.mem_cons_of_mem _ hq)⟩
 exact results_cell_row (p:=0) (ty:=189) rfl _ _ rb 189 _ (0,0) _ rfl (hM3.get 0 rfl) Tryz.underlying189 rfl (by kernel_rfl)
end Go.Proofs.YtdigofgjhaakmaaGreatDoor
namespace Go.Proofs.YtdigofgjhaakmaaGreatDoor
open Sm
def Syn (B:Int) (all:List (List Int)) (bl:List (List Int)):Prop :=
 (all=[]∧rd bl 0=none∧rd bl 1=none) ∨
 ∃ q:En,q.s≤1∧rd bl q.s=some q∧q.c=all.length∧all.getLast? = some q.r∧1≤q.t∧q.t≤B ∧
  (rd bl (1 - q.s)=none∨∃ o:En,rd bl (1 - q.s)=some o∧0≤o.t∧o.t < q.t∧0≤o.c∧o.c≤1000000∧(o.c+1=q.c→all.dropLast.getLast? = some o.r))
theorem ltr_small {a b:Int} (ha:0≤a) (ha1:a≤1000000) (hb:0≤b) (hb1:b≤1000000):ltr a b=decide (b < a):=by
 unfold ltr
 have e:IntKind.u64.wrap (a - b)=(a - b) % 18446744073709551616:=by simp [IntKind.wrap,IntKind.bits,IntKind.signed]
 rw [e,IntKind.wrap_i64]
 by_cases h:b < a
 ·rw [decide_eq_true h,decide_eq_true (by omega)]
 ·rw [decide_eq_false h,decide_eq_false (by omega)]
theorem fd_of {bl:List (List Int)} {q:En} (hs:q.s≤1) (h:rd bl q.s=some q) (ho:rd bl (1 - q.s)=none∨∃ o:En,rd bl (1 - q.s)=some o∧0≤o.t∧o.t < q.t) (hq:q.t≤1000000):fd bl=(rd bl (1 - q.s)).toList++[q]:=by
 unfold fd
 rcases Nat.le_one_iff_eq_zero_or_eq_one.mp hs with e | e
 ·rw [e] at h ho ⊢
  rw [h]
  rcases ho with ho | ⟨o,ho,h1,h2⟩
  ·simp only [Nat.sub_zero] at ho ⊢;rw [ho];rfl
  ·simp only [Nat.sub_zero] at ho ⊢;rw [ho]
   simp only [ltr_small (a:=q.t) (b:=o.t) (by omega) hq h1 (by omega),decide_eq_true h2,if_true]
   rfl
 ·rw [e] at h ho ⊢
  rw [h]
  rcases ho with ho | ⟨o,ho,h1,h2⟩
  ·simp only [Nat.sub_self] at ho ⊢;rw [ho];rfl
  ·simp only [Nat.sub_self] at ho ⊢;rw [ho]
   have:¬ q.t < o.t:=by omega
   simp only [ltr_small (a:=o.t) (b:=q.t) h1 (by omega) (by omega) hq,decide_eq_false this]
   rfl
theorem syn_fd {B:Int} {all bl:List (List Int)} (h:Syn B all bl) (hB:B≤1000000):(all=[]∧fd bl=[])∨∃ q:En,q.s≤1∧rd bl q.s=some q∧q.c=all.length∧all.getLast? = some q.r∧1≤q.t∧q.t≤B∧(fd bl=[q]∨∃ o:En,fd bl=[o,q]∧rd bl (1 - q.s)=some o∧0≤o.c∧o.c≤1000000∧(o.c+1=q.c→all.dropLast.getLast? = some o.r)):=by
 rcases h with ⟨h1,h2,h3⟩ | ⟨q,h1,h2,h3,h4,h5,h6,h7⟩
 ·left;exact ⟨h1,by unfold fd;rw [h2,h3]⟩
 ·right
  refine ⟨q,h1,h2,h3,h4,h5,h6,?_⟩
  rcases h7 with h7 | ⟨o,h7,h8,h9,h10,h11,h12⟩
  ·left;rw [fd_of h1 h2 (Or.inl h7) (by omega),h7];rfl
  ·right;exact ⟨o,by rw [fd_of h1 h2 (Or.inr ⟨o,h7,h8,h9⟩) (by omega),h7];rfl,h7,h10,h11,h12⟩
theorem syn_nw {B:Int} {all bl:List (List Int)} (h:Syn B all bl) (hB:B≤1000000) (hB0:0≤B):(nw (fd bl)).c=all.length∧(nw (fd bl)).r=all.getLastD []∧0≤(nw (fd bl)).t∧(nw (fd bl)).t≤B:=by
 rcases syn_fd h hB with ⟨rfl,e⟩ | ⟨q,h1,h2,h3,h4,h5,h6,e | ⟨o,e,_⟩⟩
 ·rw [e];exact ⟨rfl,rfl,Int.le_refl _,hB0⟩
 ·rw [e,List.getLastD_eq_getLast?,h4];exact ⟨h3,rfl,by show 0≤q.t;omega,h6⟩
 ·rw [e,List.getLastD_eq_getLast?,h4];exact ⟨h3,rfl,by show 0≤q.t;omega,h6⟩
def Ends (got all:List (List Int)):Prop:=got.length≤all.length∧(got=[]→all=[])∧got=all.drop (all.length - got.length)
theorem ends_one {all:List (List Int)} {r:List Int} (h:all.getLast? = some r):Ends [r] all:=by
 rcases List.eq_nil_or_concat all with e | ⟨l,x,e⟩
 ·subst e;simp at h
 ·subst e
  simp at h;subst h
  refine ⟨by simp,by simp,?_⟩
  simp
theorem ends_two {all:List (List Int)} {r s:List Int} (h:all.getLast? = some r) (h2:all.dropLast.getLast? = some s):Ends [s,r] all:=by
 rcases List.eq_nil_or_concat all with e | ⟨l,x,e⟩
 ·subst e;simp at h
 ·subst e
  simp at h h2;subst h
  rcases List.eq_nil_or_concat l with e | ⟨l',y,e⟩
  ·subst e;simp at h2
  ·subst e
   simp at h2;subst h2
   refine ⟨by simp,by simp,?_⟩
   simp
theorem syn_kp {B:Int} {all bl:List (List Int)} (h:Syn B all bl) (hB:B≤1000000):Ends (kp (fd bl)) all:=by
 rcases syn_fd h hB with ⟨rfl,e⟩ | ⟨q,h1,h2,h3,h4,h5,h6,e | ⟨o,e,h7,h8,h9,h10⟩⟩
 ·rw [e];exact ⟨by simp [kp,kpL],fun _=>rfl,by simp [kp,kpL]⟩
 ·rw [e];exact ends_one h4
 ·rw [e]
  have e2:kp [o,q]=(if IntKind.i64.wrap (o.c+1)=q.c then [o.r] else [])++[q.r]:=rfl
  rw [e2,show IntKind.i64.wrap (o.c+1)=o.c+1 by rw [IntKind.wrap_i64];omega]
  by_cases hc:o.c+1=q.c
  ·rw [if_pos hc];exact ends_two h4 (h10 hc)
  ·rw [if_neg hc];exact ends_one h4
theorem unf_zeros (m:Nat) (hm:0 < m):unf (List.replicate m 0)=none:=by
 refine unf_no0 _ ?_
 obtain ⟨k,rfl⟩:∃ k,m=k+1:=⟨m - 1,by omega⟩
 simp [List.replicate_succ]
theorem unf_nil:unf []=none:=unf_no0 _ (by simp)
theorem rd_zeros (n m slot:Nat) (hm:0 < m):rd (List.replicate n (List.replicate m 0)) slot=none:=by
 refine rd_no ?_
 by_cases h:slot * sbk (List.replicate n (List.replicate m (0:Int))).length < n
 ·have:(List.replicate n (List.replicate m (0:Int))).getD (slot * sbk (List.replicate n (List.replicate m (0:Int))).length) []=List.replicate m 0:=by
   rw [List.getD,List.getElem?_replicate,if_pos h];rfl
  rw [this];exact unf_zeros m hm
 ·have:(List.replicate n (List.replicate m (0:Int))).getD (slot * sbk (List.replicate n (List.replicate m (0:Int))).length) []=[]:=by
   rw [List.getD,List.getElem?_replicate,if_neg h];rfl
  rw [this];exact unf_nil
theorem syn_new (n m:Nat) (hm:0 < m):Syn 0 [] (List.replicate n (List.replicate m 0)):=Or.inl ⟨rfl,rd_zeros n m 0 hm,rd_zeros n m 1 hm⟩
theorem syn_more {B C:Int} {all bl:List (List Int)} (h:Syn B all bl) (hC:B≤C):Syn C all bl:=by
 rcases h with h | ⟨q,h1,h2,h3,h4,h5,h6,h7⟩
 ·exact Or.inl h
 ·exact Or.inr ⟨q,h1,h2,h3,h4,h5,by omega,h7⟩
theorem syn_nxt {B:Int} {all bl:List (List Int)} (h:Syn B all bl) (hB:B≤900000) (hB0:0≤B) (hl:all.length≤900000) {t c:Int} (ht:t=(nw (fd bl)).t) (hc:c=(nw (fd bl)).c) (r:List Int) :
  (lnxt t c (nw (fd bl)) r).s=1 - (nw (fd bl)).s∧(lnxt t c (nw (fd bl)) r).t=t+1∧(lnxt t c (nw (fd bl)) r).c=all.length+1∧(lnxt t c (nw (fd bl)) r).r=r:=by
 obtain ⟨n1,n2,n3,n4⟩:=syn_nw h (by omega) hB0
 refine ⟨rfl,?_,?_,rfl⟩
 ·simp only [lnxt,ht]
  have e:IntKind.u64.wrap ((nw (fd bl)).t+1)=((nw (fd bl)).t+1) % 18446744073709551616:=by simp [IntKind.wrap,IntKind.bits,IntKind.signed]
  rw [e];omega
 ·have hlt:ltr (nw (fd bl)).t t=false:=by rw [ltr_small n3 (by omega) (by omega) (by omega)];exact decide_eq_false (by omega)
  simp only [lnxt,hlt,hc]
  rw [if_neg (by decide),IntKind.wrap_i64];omega
theorem nw_of {bl:List (List Int)} {q:En} (hs:q.s≤1) (h:rd bl q.s=some q) (ho:rd bl (1 - q.s)=none∨∃ o:En,rd bl (1 - q.s)=some o∧0≤o.t∧o.t < q.t) (hq:q.t≤1000000):nw (fd bl)=q:=by
 rw [fd_of hs h ho hq,nw,List.getLastD_eq_getLast?,List.getLast?_append]
 rfl
theorem syn_ahead {B:Int} {all bl:List (List Int)} (h:Syn B all bl) (hB:B≤1000000):(all=[]∧nw (fd bl)=En.zero∧rd bl 0=none∧rd bl 1=none)∨(rd bl (nw (fd bl)).s=some (nw (fd bl))∧(nw (fd bl)).s≤1∧all≠[]):=by
 rcases h with ⟨h1,h2,h3⟩ | ⟨q,h1,h2,h3,h4,h5,h6,h7⟩
 ·left;exact ⟨h1,by unfold fd;rw [h2,h3];rfl,h2,h3⟩
 ·right
  have:nw (fd bl)=q:=nw_of h1 h2 (by
   rcases h7 with h7 | ⟨o,h7,h8,h9,_⟩
   ·exact Or.inl h7
   ·exact Or.inr ⟨o,h7,h8,h9⟩) (by omega)
  rw [this]
  exact ⟨h2,h1,fun e=>by rw [e] at h4;simp at h4⟩
theorem syn_whole {B:Int} {all bl bl':List (List Int)} (h:Syn B all bl) (hB:B≤900000) (hB0:0≤B) (hl:all.length≤900000) {t c:Int} (ht:t=(nw (fd bl)).t) (hc:c=(nw (fd bl)).c) (r:List Int)
  (h1:rd bl' (lnxt t c (nw (fd bl)) r).s=some (lnxt t c (nw (fd bl)) r)) (h2:rd bl' (1 - (lnxt t c (nw (fd bl)) r).s)=rd bl (1 - (lnxt t c (nw (fd bl)) r).s)):Syn (B+1) (all++[r]) bl'∧nw (fd bl')=lnxt t c (nw (fd bl)) r:=by
 obtain ⟨x1,x2,x3,x4⟩:=syn_nxt h hB hB0 hl ht hc r
 obtain ⟨n1,n2,n3,n4⟩:=syn_nw h (by omega) hB0
 have hqs:=syn_ahead h (by omega)
 generalize hE:lnxt t c (nw (fd bl)) r=e at *
 have hes:e.s≤1:=by omega
 have hother:rd bl' (1 - e.s)=none∨∃ o:En,rd bl' (1 - e.s)=some o∧0≤o.t∧o.t < e.t∧0≤o.c∧o.c≤1000000∧(o.c+1=e.c→(all++[r]).dropLast.getLast? = some o.r):=by
  rw [h2]
  rcases hqs with ⟨a1,a2,a3,a4⟩ | ⟨a1,a2,a3⟩
  ·left
   rcases Nat.le_one_iff_eq_zero_or_eq_one.mp (show 1 - e.s≤1 by omega) with e0 | e0 <;> rw [e0]
   ·exact a3
   ·exact a4
  ·right
   have e0:1 - e.s=(nw (fd bl)).s:=by omega
   rw [e0]
   refine ⟨_,a1,n3,by omega,by omega,by omega,fun _=>?_⟩
   rw [List.dropLast_concat,n2]
   rw [List.getLastD_eq_getLast?]
   cases hx:all.getLast? with
   | none=>exact absurd (List.getLast?_eq_none_iff.mp hx) a3
   | some z=>rfl
 refine ⟨Or.inr ⟨e,hes,h1,by rw [x3];simp,by rw [List.getLast?_concat,x4],by omega,by omega,hother⟩,?_⟩
 exact nw_of hes h1 (by
  rcases hother with q | ⟨o,q1,q2,q3,_⟩
  ·exact Or.inl q
  ·exact Or.inr ⟨o,q1,q2,q3⟩) (by omega)
theorem syn_lost {B:Int} {all bl bl':List (List Int)} (h:Syn B all bl) (hB:B≤900000) {s:Nat} (hs:s=1 - (nw (fd bl)).s) (h1:rd bl' s=none) (h2:rd bl' (1 - s)=rd bl (1 - s)):Syn B all bl':=by
 have hqs:=syn_ahead h (by omega)
 rcases h with ⟨a1,a2,a3⟩ | ⟨q,b1,b2,b3,b4,b5,b6,b7⟩
 ·left
  refine ⟨a1,?_,?_⟩
  ·rcases Nat.le_one_iff_eq_zero_or_eq_one.mp (show s≤1 by omega) with e | e
   ·rw [e] at h1;exact h1
   ·rw [e] at h2;rw [show (0:Nat)=1 - 1 by rfl,h2];exact a2
  ·rcases Nat.le_one_iff_eq_zero_or_eq_one.mp (show s≤1 by omega) with e | e
   ·rw [e] at h2;rw [show (1:Nat)=1 - 0 by rfl,h2];exact a3
   ·rw [e] at h1;exact h1
 ·have hq:nw (fd bl)=q:=nw_of b1 b2 (by
   rcases b7 with h7 | ⟨o,h7,h8,h9,_⟩
   ·exact Or.inl h7
   ·exact Or.inr ⟨o,h7,h8,h9⟩) (by omega)
  rw [hq] at hs
  have e1:1 - s=q.s:=by omega
  have e2:1 - q.s=s:=by omega
  refine Or.inr ⟨q,b1,by rw [←e1,h2,e1];exact b2,b3,b4,b5,b6,Or.inl (by rw [e2];exact h1)⟩
theorem syn_same {B:Int} {all bl bl':List (List Int)} (h:Syn B all bl) {s:Nat} (hs:s≤1) (h1:rd bl' s=rd bl s) (h2:rd bl' (1 - s)=rd bl (1 - s)):Syn B all bl':=by
 have e0:rd bl' 0=rd bl 0:=by
  rcases Nat.le_one_iff_eq_zero_or_eq_one.mp hs with e | e
  ·rw [e] at h1;exact h1
  ·rw [e] at h2;exact h2
 have e1:rd bl' 1=rd bl 1:=by
  rcases Nat.le_one_iff_eq_zero_or_eq_one.mp hs with e | e
  ·rw [e] at h2;exact h2
  ·rw [e] at h1;exact h1
 have e2:∀ k,k≤1→rd bl' k=rd bl k:=by
  intro k hk
  rcases Nat.le_one_iff_eq_zero_or_eq_one.mp hk with e | e <;> rw [e]
  ·exact e0
  ·exact e1
 rcases h with ⟨a1,a2,a3⟩ | ⟨q,b1,b2,b3,b4,b5,b6,b7⟩
 ·exact Or.inl ⟨a1,by rw [e0];exact a2,by rw [e1];exact a3⟩
 ·exact Or.inr ⟨q,b1,by rw [e2 _ b1];exact b2,b3,b4,b5,b6,by rw [e2 _ (by omega)];exact b7⟩
theorem syn_ok {n m:Nat} {B:Int} {all bl:List (List Int)} (h:Syn B all bl) (hB:B≤900000) (hB0:0≤B) (hl:all.length≤900000) {t c:Int} (ht:t=(nw (fd bl)).t) (hc:c=(nw (fd bl)).c) {r:List Int} (he:EnOk n m (lnxt t c (nw (fd bl)) r)) (hn:bl.length=n) :
  Syn (B+1) (all++[r]) (lpart m (lnxt t c (nw (fd bl)) r) bl (npc (m - 64) (lnxt t c (nw (fd bl)) r).r.length))∧nw (fd (lpart m (lnxt t c (nw (fd bl)) r) bl (npc (m - 64) (lnxt t c (nw (fd bl)) r).r.length)))=lnxt t c (nw (fd bl)) r :=
 syn_whole h hB hB0 hl ht hc r (Left.whole he hn) (Left.other he hn .all)
theorem syn_fail {n m:Nat} {B:Int} {all bl bl':List (List Int)} (h:Syn B all bl) (hB:B≤900000) (hB0:0≤B) (hl:all.length≤900000) {t c:Int} (ht:t=(nw (fd bl)).t) (hc:c=(nw (fd bl)).c) {r:List Int} (he:EnOk n m (lnxt t c (nw (fd bl)) r)) (hn:bl.length=n) (hb:∀ b∈bl,b.length=m)
  (hL:Left m (lnxt t c (nw (fd bl)) r) bl bl'):Syn B all bl'∨Syn (B+1) (all++[r]) bl':=by
 have ho:=Left.other he hn hL
 have hs:=(syn_nxt h hB hB0 hl ht hc r).1
 rcases Left.own he hn hb hL with e | e | e
 ·left;exact syn_same h he.s e ho
 ·left;exact syn_lost h hB hs e ho
 ·right;exact (syn_whole h hB hB0 hl ht hc r e ho).1
end Go.Proofs.YtdigofgjhaakmaaGreatDoor
namespace Go.Proofs.YtdigofgjhaakmaaGreatDoor
open Go.RowKit
open Sm
open Cf
theorem Out.sl {w W:World} {u:Value} {l:List Int} {K:List (Nat×Obj)} (h:Out w W u l K) (hl:l.length≤1000000000):∃ a c,u=.slice a l.length c∧Sl W a l c:=by
 obtain ⟨hb,h1,h2⟩:=h
 rcases h2 with ⟨rfl,e,hm⟩ | ⟨g,cap,cur,rfl,hm,hnc,hcm,hcs,htake⟩
 ·have:l=[]:=List.length_eq_zero_iff.mp e
  subst this
  exact ⟨Option.none,0,rfl,⟨row_empty W Option.none,Nat.le_refl _,by omega,fun _=>rfl⟩⟩
 ·refine ⟨_,cap,rfl,⟨⟨hb,by omega,Or.inr ⟨g,0,rfl,fun i hi=>?_⟩⟩,hnc,by simpa [maxLen] using hcm,fun e=>by cases e⟩⟩
  rw [Nat.zero_add,hm.cell 0 rfl]
  have:=congrArg (fun x=>x[i]?) htake
  simp only [List.getElem?_take,Nat.mul_one,if_pos hi,List.getElem?_map,List.getElem?_eq_getElem hi,Option.map_some,Array.getElem?_toList] at this
  rw [this,getD_eq hi]
theorem whole_C {α ρ:Type} {w W:World} {E L:List (Nat×Obj)} {I:Rp α ρ} {J:St' α} {f:Fv} {s:Sp α} {a:Option Addr} {l:List Int} {c:Nat} (h:Mem w W (E++L)) (er:Ent f.kr)
  (hrd:∀ K,Sub E K→∀ x g T pre post a l c V,J w x g T pre post V K→Sl w a l c→Calls Tryz.prog f.kr (#[.slice a l.length c,.pointer (some ⟨g,pre.length,none⟩)]++f.cr) V (RPost w K (fun y V'=>J w y g T pre post V' K) (s.dec l x)))
  (hS:Sl w a l c) (x0:α) (hz:∀ g V K,Mem w V ((g,.cells cz 39)::K)→J w x0 g 39 [] [] V K) (Q:α→World→Value→Prop) (hJM:∀ x V K,J w x (W.heap.size+1+1) 39 [] [] V K→Mem w V K)
  (hfin:∀ x g rb z V K,Sub (E++L) K→J w x g 39 [] [] V ((rb,.cells z 39)::K)→∃ tl,V.heap[g]? = some (.cells tl 39)∧tl.size=29∧tl.all (·.oneCell')=true∧V.heap[rb]? = some (.cells z 39)∧Mem w (V.setRow rb tl) ((rb,.cells tl 39)::K)∧Q x (V.setRow rb tl) (.agg tl)) :
  Calls Tryz.prog 130 #[f.val,.slice a l.length c] W fun e W'=>Mem w W' (E++L)∧match s.dec l x0 with
   | some (x,[])=>∃ v,e=.returned (.tuple #[v,.int .i64 0])∧Q x W' v
   | _=>e=.returned (.tuple #[.agg cz,.int .i64 70]):=by
 obtain ⟨k1,k2,k3,c1,c2,c3⟩:=f
 obtain ⟨bf,hbf⟩:∃ bf,W.heap.size=bf:=⟨_,rfl⟩
 rw [hbf] at hJM
 have hM0:Mem w ((((W.alloc (.cells #[.func (.func k1) #[] c1,.func (.func k2) #[] c2,.func (.func k3) #[] c3] 189)).alloc (.cells cz 39)).alloc (.cells cz 39)).alloc (.cells cz 39))
   ((bf+1+1,.cells cz 39)::(bf+1,.cells cz 39)::(bf+1+1+1,.cells cz 39)::(bf,.cells #[.func (.func k1) #[] c1,.func (.func k2) #[] c2,.func (.func k3) #[] c3] 189)::(E++L)):=by
  have h1:=(((h.push bf (.cells #[.func (.func k1) #[] c1,.func (.func k2) #[] c2,.func (.func k3) #[] c3] 189) hbf.symm).push (bf+1) (.cells cz 39) (by simp;omega)).push (bf+1+1) (.cells cz 39) (by simp;omega)).push (bf+1+1+1) (.cells cz 39) (by simp;omega)
  refine h1.perm ?_
  classical
  rw [List.perm_iff_count]
  intro q
  simp only [List.count_append,List.count_cons,List.count_nil]
  omega
 have hJ0:=hz (bf+1+1) _ _ hM0
 have CR:=hrd ((bf+1,.cells cz 39)::(bf+1+1+1,.cells cz 39)::(bf,.cells #[.func (.func k1) #[] c1,.func (.func k2) #[] c2,.func (.func k3) #[] c3] 189)::(E++L)) (fun q hq=>List.mem_cons_of_mem _ (List.mem_cons_of_mem _ (List.mem_cons_of_mem _ (List.mem_append_left _ hq)))) x0 (bf+1+1) 39 [] [] a l c _ hJ0 hS
 have eg:∀ args V,(callFunc k2 args).run Tryz.prog V=.ok (.enter k2 args) V:=er
 simp only [List.length_nil] at CR
 obtain ⟨R,hR⟩:∃ R,s.dec l x0=R:=⟨_,rfl⟩
 rw [hR] at CR ⊢
 simp only [Fv.val]
 have HFIN:=hfin
 have HF:Hid (∀ x g rb z V K,Sub (E++L) K→J w x g 39 [] [] V ((rb,.cells z 39)::K)→∃ tl,V.heap[g]? = some (.cells tl 39)∧tl.size=29∧tl.all (·.oneCell')=true∧V.heap[rb]? = some (.cells z 39)∧Mem w (V.setRow rb tl) ((rb,.cells tl 39)::K)∧Q x (V.setRow rb tl) (.agg tl)):=hfin
 clear hrd hfin HFIN hz hJ0 hM0 hR h er
 have hsz:(Tryz.prog.info? 39).map (·.size)=some (cz).size:=by kernel_rfl
 generalize l.length=n at *
 have key:∀ V M,Mem w V ((bf+1,.cells cz 39)::(bf+1+1+1,.cells cz 39)::M)→V.heap[bf+1]? = some (.cells cz 39)∧V.heap[bf+1+1+1]? = some (.cells cz 39)∧Mem w (V.setRow (bf+1) cz) ((bf+1,.cells cz 39)::(bf+1+1+1,.cells cz 39)::M):=by
  intro V M hV
  exact ⟨hV.get 0 rfl,hV.get 1 rfl,hV.wrote 0 rfl (wrote_setRow V (bf+1) _ _ _ (hV.get 0 rfl))⟩
 have KY:Hid (∀ V M,Mem w V ((bf+1,.cells cz 39)::(bf+1+1+1,.cells cz 39)::M)→V.heap[bf+1]? = some (.cells cz 39)∧V.heap[bf+1+1+1]? = some (.cells cz 39)∧Mem w (V.setRow (bf+1) cz) ((bf+1,.cells cz 39)::(bf+1+1+1,.cells cz 39)::M)):=key
 clear key
 have hzone:(cz:Array Value).all (·.oneCell')=true:=by kernel_rfl
 have hsub:∀ V A,Mem w V ((bf+1,A)::(bf+1+1+1,.cells cz 39)::(bf,.cells #[.func (.func k1) #[] c1,.func (.func k2) #[] c2,.func (.func k3) #[] c3] 189)::(E++L))→Mem w V (E++L):=fun V A h=>h.sub.sub.sub
 have HS:Hid (∀ V A,Mem w V ((bf+1,A)::(bf+1+1+1,.cells cz 39)::(bf,.cells #[.func (.func k1) #[] c1,.func (.func k2) #[] c2,.func (.func k3) #[] c3] 189)::(E++L))→Mem w V (E++L)):=hsub
 clear hsub
 cases R with
 | none =>
  go_enter Tryz.func130,Tryz.ntmps130
  go_wp2_with fail
  refine CR.mono ?_
  rintro e V ⟨rfl,hM⟩
  obtain ⟨g1,g2,hM4⟩:=KY.out V _ hM
  clear CR
  go_wp2_with (first | (refine wpList_load_row rfl 39 (.tmp 7) (by with_reducible rfl) (bf+1+1+1) rfl 39 _ (0,0) _ g2 Tryz.underlying39 rfl hsz ?_) | (refine wpList_store_row rfl 39 (.tmp 4) (.tmp 24) (by with_reducible rfl) (bf+1) cz rfl rfl 39 _ g1 hsz rfl hzone ?_))
  refine bodyPost_ret (v:=.tuple #[.agg cz,.int .i64 70]) ?_ rfl ⟨HS.out _ _ hM4,rfl⟩
  exact results_two' (p:=4) (q:=5) (ty:=39) rfl _ _ (bf+1) _ rfl (run_loadVar_row _ _ 39 39 _ (0,0) _ (hM4.get 0 rfl) Tryz.underlying39 rfl hsz)
 | some y =>
  obtain ⟨x,l'⟩:=y
  cases l' with
  | nil =>
   go_enter Tryz.func130,Tryz.ntmps130
   go_wp2_with fail
   refine CR.mono ?_
   rintro e V ⟨a2,c2',rfl,hS2,hJ⟩
   obtain ⟨tl,hg,htl,hone,hgr,hM4,hQ⟩:=HF.out _ _ _ _ _ _ (fun q hq=>List.mem_cons_of_mem _ (List.mem_cons_of_mem _ hq)) hJ
   have hi33:(Tryz.prog.info? 39).map (·.size)=some tl.size:=by rw [htl];kernel_rfl
   have HQ:Hid (Q x (V.setRow (bf+1) tl) (.agg tl)):=hQ
   clear CR hJ hS2 HF hQ KY
   go_wp2_with (first | (refine wpList_load_row rfl 39 (.tmp 6) (by with_reducible rfl) (bf+1+1) rfl 39 tl (0,0) _ hg Tryz.underlying39 rfl hi33 ?_) | (refine wpList_store_row rfl 39 (.tmp 4) (.tmp 25) (by with_reducible rfl) (bf+1) tl rfl rfl 39 _ hgr hi33 (by rw [htl];rfl) hone ?_))
   refine bodyPost_ret (v:=.tuple #[.agg tl,.int .i64 0]) ?_ rfl ⟨HS.out _ _ hM4,_,rfl,HQ.out⟩
   exact results_two' (p:=4) (q:=5) (ty:=39) rfl _ _ (bf+1) _ rfl (run_loadVar_row _ _ 39 39 _ (0,0) _ (hM4.get 0 rfl) Tryz.underlying39 rfl hi33)
  | cons b r =>
   go_enter Tryz.func130,Tryz.ntmps130
   go_wp2_with fail
   refine CR.mono ?_
   rintro e V ⟨a2,c2',rfl,hS2,hJ⟩
   have hM:=hJM _ _ _ hJ
   obtain ⟨g1,g2,hM4⟩:=KY.out V _ hM
   have hpos:(0:Int) < ((b::r).length:Int):=by simp only [List.length_cons];omega
   clear CR hJ hS2 HF hM
   generalize (b::r).length=m at *
   go_wp2_with (first | (refine wpList_load_row rfl 39 (.tmp 7) (by with_reducible rfl) (bf+1+1+1) rfl 39 _ (0,0) _ g2 Tryz.underlying39 rfl hsz ?_) | (refine wpList_store_row rfl 39 (.tmp 4) (.tmp 24) (by with_reducible rfl) (bf+1) cz rfl rfl 39 _ g1 hsz rfl hzone ?_))
   refine bodyPost_ret (v:=.tuple #[.agg cz,.int .i64 70]) ?_ rfl ⟨HS.out _ _ hM4,rfl⟩
   exact results_two' (p:=4) (q:=5) (ty:=39) rfl _ _ (bf+1) _ rfl (run_loadVar_row _ _ 39 39 _ (0,0) _ (hM4.get 0 rfl) Tryz.underlying39 rfl hsz)
end Go.Proofs.YtdigofgjhaakmaaGreatDoor
namespace Go.Proofs.YtdigofgjhaakmaaGreatDoor
open Go.RowKit
open Sm
structure Sd (w W:World) (p h m N:Nat) (D:Dk) (B:Int) (all:List (List Int)) (L:List (Nat×Obj)):Prop where
 at_:∃ hc ks K,DkAt w W p h m D hc ks (L++K)∧ks.length=N∧Syn B all (ks.map Bk.b)
structure Sy (w W:World) (p h m N:Nat) (D:Dk) (pl:Nat) (B:Int) (all:List (List Int)) (L:List (Nat×Obj)):Prop where
 at_:∃ hc ks v X K,DkAt w W p h m D hc ks ((pl,.cells (lgA p (nw (fd (ks.map Bk.b))).t (nw (fd (ks.map Bk.b))).c v) lgT (0,0))::(X++(L++K)))∧ks.length=N∧Syn B all (ks.map Bk.b)∧OwnV v (all.getLastD []) X
structure So (w W:World) (p h m N:Nat) (D:Dk) (pl:Nat) (L:List (Nat×Obj)):Prop where
 at_:∃ hc ks t c v K,DkAt w W p h m D hc ks ((pl,.cells (lgA p t c v) lgT (0,0))::(L++K))∧ks.length=N
section
variable {w W:World} {p h m N:Nat} {D:Dk} {pl:Nat} {B:Int} {all:List (List Int)} {L:List (Nat×Obj)}
theorem Sy.sd (H:Sy w W p h m N D pl B all L):Sd w W p h m N D B all L:=by
 obtain ⟨hc,ks,v,X,K,h1,h2,h3,h4⟩:=H.at_
 refine ⟨hc,ks,K++((pl,.cells (lgA p (nw (fd (ks.map Bk.b))).t (nw (fd (ks.map Bk.b))).c v) lgT (0,0))::X),h1.on (h1.st.perm ?_),h2,h3⟩
 have e9:∀ (P:Nat×Obj) (X L K:List (Nat×Obj)),(P::(X++(L++K))).Perm (L++(K++(P::X))):=by
  intro P X L K
  have e1:(P::(X++(L++K)))=(P::X)++(L++K):=rfl
  have e2:L++(K++(P::X))=(L++K)++(P::X):=by simp
  rw [e1,e2];exact List.perm_append_comm
 exact e9 _ _ _ _
theorem Sd.join (H:Sd w W p h m N D B all L) {W':World} {K:List (Nat×Obj)} (k:Mem W W' K):Sd w W' p h m N D B all L:=by
 obtain ⟨hc,ks,K2,h1,h2,h3⟩:=H.at_
 have h4:=h1.join k
 exact ⟨hc,ks,K2++K,h4.on (h4.st.perm (by rw [show L++(K2++K)=(L++K2)++K by simp];exact List.perm_append_comm)),h2,h3⟩
theorem Sy.join (H:Sy w W p h m N D pl B all L) {W':World} {K:List (Nat×Obj)} (k:Mem W W' K):Sy w W' p h m N D pl B all L:=by
 obtain ⟨hc,ks,v,X,K2,h1,h2,h3,h4⟩:=H.at_
 have h5:=h1.join k
 refine ⟨hc,ks,v,X,K2++K,h5.on (h5.st.perm ?_),h2,h3,h4⟩
 have e9:∀ (P:Nat×Obj) (K X L K2:List (Nat×Obj)),(K++(P::(X++(L++K2)))).Perm (P::(X++(L++(K2++K)))):=by
  intro P K X L K2
  refine List.perm_middle.trans (List.Perm.cons P ?_)
  have e2:X++(L++(K2++K))=(X++(L++K2))++K:=by simp
  rw [e2];exact List.perm_append_comm
 exact e9 _ _ _ _ _
theorem Sd.has (H:Sd w W p h m N D B all L) {x:Nat×Obj} (hx:x∈L):W.heap[x.1]? = some x.2:=by
 obtain ⟨hc,ks,K2,h1,h2,h3⟩:=H.at_
 exact h1.has (List.mem_append_left _ hx)
theorem Sy.has (H:Sy w W p h m N D pl B all L) {x:Nat×Obj} (hx:x∈L):W.heap[x.1]? = some x.2:=H.sd.has hx
theorem Sd.below (H:Sd w W p h m N D B all L):Below w.heap.size w W:=by
 obtain ⟨hc,ks,K2,h1,h2,h3⟩:=H.at_
 exact h1.st.below
theorem Sy.push (H:Sy w W p h m N D pl B all L) {W':World} {K:List (Nat×Obj)} (k:Mem W W' K):Sy w W' p h m N D pl B all (K++L):=by
 obtain ⟨hc,ks,v,X,K2,h1,h2,h3,h4⟩:=H.at_
 have h5:=h1.join k
 refine ⟨hc,ks,v,X,K2,h5.on (h5.st.perm ?_),h2,h3,h4⟩
 have e9:∀ (P:Nat×Obj) (K X L K2:List (Nat×Obj)),(K++(P::(X++(L++K2)))).Perm (P::(X++((K++L)++K2))):=by
  intro P K X L K2
  refine List.perm_middle.trans (List.Perm.cons P ?_)
  rw [List.append_assoc];exact perm_front _ _ _
 exact e9 _ _ _ _ _
theorem Sd.sub {Y:List (Nat×Obj)} (H:Sd w W p h m N D B all (Y++L)):Sd w W p h m N D B all L:=by
 obtain ⟨hc,ks,K2,h1,h2,h3⟩:=H.at_
 exact ⟨hc,ks,K2++Y,h1.on (h1.st.perm (by rw [←List.append_assoc,List.append_assoc];exact List.perm_append_comm)),h2,h3⟩
theorem Sy.sub {Y:List (Nat×Obj)} (H:Sy w W p h m N D pl B all (Y++L)):Sy w W p h m N D pl B all L:=by
 obtain ⟨hc,ks,v,X,K2,h1,h2,h3,h4⟩:=H.at_
 refine ⟨hc,ks,v,X,K2++Y,h1.on (h1.st.perm (List.Perm.cons _ (List.Perm.append_left X ?_))),h2,h3,h4⟩
 rw [←List.append_assoc,List.append_assoc];exact List.perm_append_comm
theorem sd_new {x y:Int} {n m:Nat} (hx:dbd x 1 64=n) (hy:dbd y 64 65536=m) (W:World) :
  Calls Tryz.prog 10 #[.int .i64 x,.int .i64 y] W fun e W'=>∃ p,e=.returned (.pointer (some ⟨p,0,none⟩))∧∃ h,Sd W W' p h m n ⟨false,false,0,0⟩ 0 [] []:=by
 refine (dnew_any (Mem.nil W) x y).mono ?_
 rintro e W' ⟨p,rfl,h,hc,ks,H,hb⟩
 rw [hx,hy,Int.toNat_natCast,Int.toNat_natCast] at hb
 rw [hy,Int.toNat_natCast] at H
 refine ⟨p,rfl,h,hc,ks,[],H,?_,?_⟩
 ·have:=congrArg List.length hb;simpa using this
 ·rw [hb];exact syn_new n m (by have:=H.mlo;omega)
theorem sy_big (H:Sy w W p h m N D pl B all L) (a:Option Addr) (k cap:Nat) (hk:room N m < k) :
  Calls Tryz.prog 60 #[.pointer (some ⟨pl,0,none⟩),.slice a k cap] W fun e W'=>e=.returned (.int .i64 51)∧W=W':=by
 obtain ⟨hc,ks,v,X,K,h1,h2,h3,h4⟩:=H.at_
 subst h2
 exact append_big h1 a k cap hk
theorem room_le (n m:Nat):room n m≤16384:=by unfold room;split <;> omega
end
end Go.Proofs.YtdigofgjhaakmaaGreatDoor
namespace Go.Proofs.YtdigofgjhaakmaaGreatDoor
open Go.RowKit
open Sm
open Cf
instance (t z:Ten):Decidable (TSame t z):=by unfold TSame;infer_instance
theorem Rw.at_ {w V:World} {n:Nat} {v:Value} {xs:List (List Value)} (h:Rw w n v xs) (hne:∀ x∈xs,x≠[]) (hb:Below w.heap.size w V):Rw V n v xs:=h.below hne hb (Nat.le_refl _)
end Go.Proofs.YtdigofgjhaakmaaGreatDoor
