/-
  Settings as bytes: the document's own Tenant, at every tenant.
  What package log's write leaves.
  Settings as bytes: the field of the tenants.
  Settings as bytes: a tenant that was written is read back, but for what was cut off, and no part of it is read.
  Settings as bytes: the program's whole (lych/api.Change): what all bytes are.
  Settings as bytes: the document's own reader: pairs.
  Settings held against one another: lychhelp.Tenant, at any two tenants.
-/
import Derived.Test.YtdigofgjhaakmaaGreatDoorW13
import Derived.Test.YtdigofgjhaakmaaGreatDoorW14
import Derived.Deep.DeepCutAuto
import Derived.Test.YtdigofgjhaakmaaGreatDoorW11
import Derived.Test.YtdigofgjhaakmaaGreatDoorW08
set_option linter.unusedVariables false
set_option linter.unusedSimpArgs false
set_option maxRecDepth 20000
set_option maxHeartbeats 40000000
namespace Go.Proofs.YtdigofgjhaakmaaGreatDoor
open Go.RowKit
open Sm
open Cf
theorem Ob.drop {w W:World} {v:Value} {l:List Int} {L:List (Nat×Obj)} {n:Nat} {p:Nat×Obj} (h:Ob w W v l (p::L) n):Ob w W v l L n:=⟨h.1.drop,h.2⟩
def thead (t:Ten):List Int:=cat (fun i=>(tsp.getD i sp0).enc t) 13
theorem thead_eq (t:Ten):thead t=(((((((((((([]++nm t.name)++be 4 t.vni)++t.key)++be 4 t.vtep)++t.vmac)++t.host)++be 2 t.lo)++be 2 t.hi)++be 1 t.filter)++be 2 t.sess)++be 2 t.queue)++be 4 t.rate)++be 4 t.burst:=rfl
theorem tenc_eq (t:Ten):tenc t=(((thead t++[((min t.pool.length 255:Nat):Int),((min t.stat.length 255:Nat):Int),((min t.twi.length 255:Nat):Int)])++cat (fun i=>be 4 (t.pool.getD i 0)) (min t.pool.length 255))++cat (fun i=>spP.enc (t.stat.getD i (0,0))) (min t.stat.length 255))++cat (fun i=>spP.enc (t.twi.getD i (0,0))) (min t.twi.length 255):=by
 have:thead t++[((min t.pool.length 255:Nat):Int),((min t.stat.length 255:Nat):Int),((min t.twi.length 255:Nat):Int)]=((thead t++[((min t.pool.length 255:Nat):Int)])++[((min t.stat.length 255:Nat):Int)])++[((min t.twi.length 255:Nat):Int)]:=by simp
 rw [this]
 rfl
end Go.Proofs.YtdigofgjhaakmaaGreatDoor
namespace Go.Proofs.YtdigofgjhaakmaaGreatDoor
open Go.RowKit
open Sm
def Beside (w:World) (p h m:Nat) (L:List (Nat×Obj)) (a:Option Addr) (r:List Int):Prop :=
 ∀ W' D' hc' ks' L',DkAt w W' p h m D' hc' ks' L'→(∀ x∈L,x∈L')→Row W' a r
def gone:Dk:=⟨true,false,0,0⟩
def went (D:Dk):Dk:=if D.set then ⟨false,true,D.left - 1,D.pre⟩ else ⟨false,false,D.left,D.pre⟩
theorem went_dead (D:Dk):(went D).dead=false:=by unfold went;split <;> rfl
theorem went_set {D:Dk} (hd:D.dead=false) (h:D.set=false):went D=D:=by
 obtain ⟨d,s,l,q⟩:=D
 simp only at h hd
 subst h;subst hd
 rfl
section
variable {w W:World} {p h m:Nat} {D:Dk} {hc:Array Value} {ks:List Bk} {L:List (Nat×Obj)}
theorem DkAt.has (H:DkAt w W p h m D hc ks L) {x:Nat×Obj} (hx:x∈L):W.heap[x.1]? = some x.2:=H.st.mem.at_ x (List.mem_cons_of_mem _ (List.mem_cons_of_mem _ (List.mem_append_right _ hx)))
structure WrAt (w W:World) (p h m:Nat) (D0:Dk) (hc:Array Value) (bl:List (List Int)) (L:List (Nat×Obj)) (e:En) (k:Nat) (D:Dk) (ks:List Bk) (K:List (Nat×Obj)):Prop where
 at_:DkAt w W p h m D hc ks (K++L)
 live:D.dead=false
 off:D0.set=false→D=D0
 rows:ks.map Bk.b=lpart m e bl k
structure WrEnd (w W:World) (p h m:Nat) (D0:Dk) (hc:Array Value) (bl:List (List Int)) (L:List (Nat×Obj)) (e:En) (err:Int) (D:Dk) (ks:List Bk) (K:List (Nat×Obj)):Prop where
 at_:DkAt w W p h m D hc ks (K++L)
 ok:(err=0∧D.dead=false∧(D0.set=false→D=D0)∧ks.map Bk.b=lpart m e bl (npc (m - 64) e.r.length))∨(err=42∧D=gone∧D0.set=true∧Left m e bl (ks.map Bk.b))
set_option maxRecDepth 20000 in
theorem write_any (H:DkAt w W p h m D hc ks L) (hd:D.dead=false) (e:En) (he:EnOk ks.length m e) {a:Option Addr} {k cap:Nat} (hk:e.r.length=k) (hcap:k≤cap) (hsh:(a=none∧cap=0)∨∃ b off,a=some ⟨b,off,none⟩) (hB:Beside w p h m L a e.r) :
  Calls Tryz.prog 86 #[.pointer (some ⟨p,0,none⟩),.agg (enA e.s e.t e.c (.slice a k cap))] W fun ev W'=>∃ err,ev=.returned (.int .i64 err)∧∃ D' ks' K,WrEnd w W' p h m D hc (ks.map Bk.b) L e err D' ks' K:=by
 have hA:Mem W (W.alloc (.cells (enA e.s e.t e.c (.slice a k cap)) enT)) [(W.heap.size,.cells (enA e.s e.t e.c (.slice a k cap)) enT (0,0))]:=(Mem.nil W).push1 rfl
 have H1:=H.join hA
 have hn:=npc_le he
 have hm0:=he.m0
 have hm1:=he.m1
 have hs1:=he.s
 have kE:∀ j,(W.alloc (.cells (enA e.s e.t e.c (.slice a k cap)) enT)).cell? ⟨W.heap.size,j,none⟩=(enA e.s e.t e.c (.slice a k cap))[j]?:=hA.cell 0 rfl
 have k0:=kE 0
 have k1:=kE 1
 have k2:=kE 2
 have k3:=kE 3
 generalize hw1:W.alloc (.cells (enA e.s e.t e.c (.slice a k cap)) enT)=w1 at *
 simp at k0 k1 k2 k3
 obtain ⟨M,hM⟩:∃ M,M=m - 64:=⟨_,rfl⟩
 have hMi:(m:Int) - 64=(M:Int):=by omega
 have hMw:IntKind.i64.wrap (M:Int)=M:=by rw [IntKind.wrap_i64];omega
 have hre:e.r.length≤31 * 65536:=Nat.le_trans he.len (Nat.mul_le_mul hn.2.2.1 (by omega))
 have hsp:=lsplit_any (W:=w1.drew) e hk hcap hsh (most:=M) (by omega) (by omega) (by omega) (by rw [hM,← hk];omega)
 have hsb:=lsb_any (H1.on H1.st.drew)
 have hsz:=dsize_any (H1.on H1.st.drew)
 have hy:(e.s:Int) * (sbk ks.length:Int)=((e.s * sbk ks.length:Nat):Int):=by rw [Int.natCast_mul]
 have hyl:e.s * sbk ks.length < ks.length:=by have:=slot_in he.s he.n0 (show 0 < sbk ks.length by omega);simpa using this
 have htop:=H.top
 obtain ⟨n,hN⟩:∃ n,n=npc M k:=⟨_,rfl⟩
 rw [←hN] at hsp
 rw [hM,← hk] at hN
 have HSP:Hid (Calls Tryz.prog 121 #[.agg (enA e.s e.t e.c (.slice a k cap)),.int .i64 M] w1.drew _):=hsp
 have HSB:Hid (Calls Tryz.prog 49 #[.pointer (some ⟨p,0,none⟩)] w1.drew _):=hsb
 have HSZ:Hid (Calls Tryz.prog 50 #[.pointer (some ⟨p,0,none⟩)] w1.drew _):=hsz
 generalize hyy:e.s * sbk ks.length=y at *
 generalize hxx:sbk ks.length=x at *
 have HH:Hid (DkAt w w1 p h m D hc ks ([(W.heap.size,.cells (enA e.s e.t e.c (.slice a k cap)) enT (0,0))]++L)):=H1
 have HY:Hid (e.s * sbk ks.length=y):=by rw [hxx];exact hyy
 have k0d:w1.drew.cell? ⟨W.heap.size,0,none⟩=some (.int .i64 e.s):=k0
 have k1d:w1.drew.cell? ⟨W.heap.size,1,none⟩=some (.int .u64 e.t):=k1
 have k2d:w1.drew.cell? ⟨W.heap.size,2,none⟩=some (.int .i64 e.c):=k2
 have k3d:w1.drew.cell? ⟨W.heap.size,3,none⟩=some (.slice a k cap):=k3
 have hrl:W.heap.size < w1.drew.heap.size:=cell_lt k0d
 have HMM:Hid (M=m - 64):=hM
 have HNN:Hid (n=npc (m - 64) e.r.length):=hN
 have hyw:IntKind.i64.wrap (y:Int)=y:=by rw [IntKind.wrap_i64];omega
 clear hsp hsb hsz H1 hA kE hyy hxx hM hN
 go_enter Tryz.func86,Tryz.ntmps86
 go_upto_region 1 with fail
 go_region_held3 (fun w'=>w'.cell? ⟨W.heap.size,0,none⟩=some (.int .i64 e.s)∧w'.cell? ⟨W.heap.size,1,none⟩=some (.int .u64 e.t)∧w'.cell? ⟨W.heap.size,2,none⟩=some (.int .i64 e.c)∧w'.cell? ⟨W.heap.size,3,none⟩=some (.slice a k cap))
  (first | go_keep | assumption | exact ⟨(q5.old hrl).trans k0d,(q5.old hrl).trans k1d,(q5.old hrl).trans k2d,(q5.old hrl).trans k3d⟩)
  (first
   | (go_at_call 49;with_reducible refine HSB.out.mono ?_;rintro e3 w3 ⟨rfl,rfl⟩)
   | (go_at_call 50;with_reducible refine HSZ.out.mono ?_;rintro e3 w3 ⟨rfl,rfl⟩)
   | (go_at_call 121;with_reducible refine HSP.out.mono ?_;rintro e3 w5 ⟨gp,rfl,xs,hxl,hxs,cur,hcur,K5,q5⟩))
 have H5:DkAt w w5 p h m D hc ks (((gp,.cells cur pcT (0,0))::K5)++([(W.heap.size,.cells (enA e.s e.t e.c (.slice a k cap)) enT (0,0))]++L)):=(HH.out.on HH.out.st.drew).join q5
 have hsz5:=dsize_any H5
 have hmk:=make_bytes m (by omega) w5
 have hA6:Mem w5 (w5.alloc (.cells (madeCells #[.int .u8 0] m) 5)) [(w5.heap.size,.cells (bs (List.replicate m 0)) 5)]:=by rw [←bs_made];exact (Mem.nil w5).push1 rfl
 have H6:=H5.join hA6
 have hr6:Row (w5.alloc (.cells (madeCells #[.int .u8 0] m) 5)) (some ⟨w5.heap.size,0,none⟩) (List.replicate m 0):=hA6.own 0 rfl (bytes_rep m 0 (by omega)) (by simp;omega)
 obtain ⟨kk,hkk⟩:∃ kk,ks[y]? = some kk:=⟨_,List.getElem?_eq_getElem hyl⟩
 have hkb:(ks.map Bk.b).getD y []=kk.b:=by simp [List.getD,hkk]
 have HXS:Hid (xs.length=n∧(∀ j x,xs[j]? = some x→Part a e.r x.1 (lspc e M j).b∧(lspc e M j).b.length≤x.2)∧cur.toList=pcL e M 0 xs):=⟨hxl,hxs,hcur⟩
 have HPRE:Hid (0≤D.pre∧D.pre≤m):=H.pre
 have HE:Hid (EnOk ks.length m e):=he
 clear hxl hxs hcur H5 HH q5 HSP HSB HSZ k0d k1d k2d k3d hrl k0 k1 k2 k3
 by_cases hcut:D.set=true∧D.left=0
 ·have hW:=dwrite_cut H6 hr6 (Nat.le_refl m) (by simp) y hkk hd hcut.1 hcut.2
  have HSET:Hid (D.set=true):=hcut.1
  have HKB:Hid ((ks.map Bk.b).getD y []=kk.b):=hkb
  clear hkb
  clear H6 hr6 hA6 hkk hcut hd hB he H
  generalize w5.alloc (.cells (madeCells #[.int .u8 0] m) 5)=w6 at hmk hW
  go_wp2_with fail
  refine hsz5.mono ?_
  rintro e3 w3 ⟨rfl,rfl⟩
  go_wp2_with fail
  refine hW.mono ?_
  rintro e3 w7 ⟨rfl,ks',H7,hb7⟩
  have HEND:Hid (∃ D' ks' K,WrEnd w w7 p h m D hc (ks.map Bk.b) L e 42 D' ks' K):=by
   refine ⟨gone,ks',[(w5.heap.size,.cells (bs (List.replicate m 0)) 5)]++(((gp,.cells cur pcT (0,0))::K5)++[(W.heap.size,.cells (enA e.s e.t e.c (.slice a k cap)) enT (0,0))]),⟨?_,Or.inr ⟨rfl,rfl,HSET.out,?_⟩⟩⟩
   ·have e9:([(w5.heap.size,Obj.cells (bs (List.replicate m 0)) 5)]++(((gp,.cells cur pcT (0,0))::K5)++([(W.heap.size,.cells (enA e.s e.t e.c (.slice a k cap)) enT (0,0))]++L)))=([(w5.heap.size,.cells (bs (List.replicate m 0)) 5)]++(((gp,.cells cur pcT (0,0))::K5)++[(W.heap.size,.cells (enA e.s e.t e.c (.slice a k cap)) enT (0,0))]))++L:=by simp
    rw [←e9];exact H7
   ·rw [hb7,← HKB.out,← HY.out]
    have h9:=Left.blank (m:=m) (e:=e) (bl:=ks.map Bk.b) D.pre.toNat (by have:=HPRE.out;omega)
    rw [List.length_map] at h9
    exact h9
  clear H7 hb7 hW
  go_wp2
  go_ret
  exact ⟨42,rfl,HEND.out⟩
 ·have hgo:D.set=false∨D.left≠0:=by
   cases hD:D.set
   ·exact Or.inl rfl
   ·exact Or.inr fun e0=>hcut ⟨hD,e0⟩
  have hW:=dwrite_ok (cap:=m) H6 hr6 (by simp) y hkk hd hgo
  clear H6 hr6 hA6 hkk hcut hgo hkb
  generalize w5.alloc (.cells (madeCells #[.int .u8 0] m) 5)=w6 at hmk hW
  go_wp2_with fail
  refine hsz5.mono ?_
  rintro e3 w3 ⟨rfl,rfl⟩
  go_wp2_with fail
  refine hW.mono ?_
  rintro e3 w7 ⟨rfl,ks7,H7,hb7⟩
  have H0:∃ D' ks' K,WrAt w w7 p h m D hc (ks.map Bk.b) ((gp,.cells cur pcT (0,0))::L) e 0 D' ks' K:=by
   refine ⟨went D,ks7,[(w5.heap.size,.cells (bs (List.replicate m 0)) 5)]++(K5++[(W.heap.size,.cells (enA e.s e.t e.c (.slice a k cap)) enT (0,0))]),⟨?_,went_dead D,fun h0=>went_set hd h0,?_⟩⟩
   ·refine H7.on (H7.st.perm ?_)
    have e9:∀ (A K5 R L:List (Nat×Obj)) (P:Nat×Obj),(A++((P::K5)++(R++L))).Perm ((A++(K5++R))++(P::L)):=by
     intro A K5 R L P
     rw [List.append_assoc]
     refine List.Perm.append_left A ?_
     rw [List.cons_append]
     have:(K5++R)++P::L=(K5++R)++P::L:=rfl
     refine List.Perm.trans ?_ List.perm_middle.symm
     rw [List.append_assoc]
    exact e9 _ _ _ _ _
   ·rw [hb7,lpart,List.length_map,HY.out]
  have HW0:Hid (∃ D' ks' K,WrAt w w7 p h m D hc (ks.map Bk.b) ((gp,.cells cur pcT (0,0))::L) e 0 D' ks' K):=H0
  have HBE:Hid (Beside w p h m L a e.r):=hB
  have HTOP:Hid (ks.length≤64):=htop
  have hnpos:0 < n:=by rw [HNN.out];exact hn.1
  have hn31:n≤31:=by rw [HNN.out];omega
  have HSI:Hid (∀ j,j < n→y+j < ks.length):=fun j hj=>by
   have:=slot_in HE.out.s HE.out.n0 (show j < sbk ks.length by have:=HNN.out;have:=(npc_le HE.out).2.1;omega)
   rw [HY.out] at this;exact this
  clear H7 hb7 hW H0 hB hsz5 hmk H he hd
  go_wp2_with fail
  go_loopw [8] (fun u wr=>∃ j:Nat,u=.int .i64 ((j:Int) - 1)∧j≤n∧∃ D' ks' K,WrAt w wr p h m D hc (ks.map Bk.b) ((gp,.cells cur pcT (0,0))::L) e (n - j) D' ks' K) (fun u _=>(intOf u+1).toNat)
  case atStart=>exact ⟨n,rfl,Nat.le_refl _,by rw [Nat.sub_self];exact HW0.out⟩
  case round =>
   obtain ⟨j,rfl,hj,D',ks',K,hR⟩:=hrel
   clear HW0
   by_cases hj0:j=0
   ·subst hj0
    have HEND:Hid (∃ D' ks' K,WrEnd w wr p h m D hc (ks.map Bk.b) L e 0 D' ks' K):=by
     refine ⟨D',ks',K++[(gp,.cells cur pcT (0,0))],⟨?_,Or.inl ⟨rfl,hR.live,hR.off,?_⟩⟩⟩
     ·rw [List.append_assoc];exact hR.at_
     ·have:=hR.rows;rw [Nat.sub_zero,HNN.out] at this;exact this
    clear hR
    go_wp2
    go_ret
    exact ⟨0,rfl,HEND.out⟩
   ·obtain ⟨i,rfl⟩:∃ i,j=i+1:=⟨j - 1,by omega⟩
    rw [show (((i+1:Nat):Int) - 1)=(i:Int) by omega]
    have hin:i < n:=by omega
    obtain ⟨⟨xa,xc⟩,hx⟩:∃ x,xs[i]? = some x:=⟨_,List.getElem?_eq_getElem (by rw [HXS.out.1];exact hin)⟩
    obtain ⟨hpart,hxc⟩:=HXS.out.2.1 i _ hx
    have hkn:npc M e.r.length=n:=by rw [HMM.out,HNN.out]
    obtain ⟨kb,hkb⟩:∃ kb,(lspc e M i).b.length=kb:=⟨_,rfl⟩
    have HS:Hid (∀ V:World,V.heap[gp]? = some (.cells cur pcT (0,0))→V.cell? ⟨gp,i * 5,none⟩=some (.int .u64 e.t)∧V.cell? ⟨gp,i * 5+1,none⟩=some (.int .i64 e.c)∧V.cell? ⟨gp,i * 5+2,none⟩=some (.int .i64 i)∧V.cell? ⟨gp,i * 5+3,none⟩=some (.int .i64 n)∧V.cell? ⟨gp,i * 5+4,none⟩=some (.slice xa kb xc)):=by
     intro V hV
     have hq:∀ f,f < 5→V.cell? ⟨gp,i * 5+f,none⟩=(pcQ e M i (xa,xc))[f]?:=by
      intro f hf
      rw [cell_of hV,← Array.getElem?_toList,HXS.out.2.2,pcL_get e M xs i f _ hx hf 0,Nat.zero_add]
     refine ⟨?_,?_,?_,?_,?_⟩
     ·have:=hq 0 (by omega);simpa [pcQ] using this
     ·have:=hq 1 (by omega);simpa [pcQ] using this
     ·have:=hq 2 (by omega);simpa [pcQ] using this
     ·have:=hq 3 (by omega);rw [this];simp [pcQ,hkn]
     ·have:=hq 4 (by omega);rw [this];simp [pcQ,hkb]
    have hgr:wr.heap[gp]? = some (.cells cur pcT (0,0)):=hR.at_.has (x:=(gp,.cells cur pcT (0,0))) (by simp)
    have hgd:wr.drew.heap[gp]? = some (.cells cur pcT (0,0)):=hgr
    have hglt:gp < wr.drew.heap.size:=(Array.getElem?_eq_some_iff.mp hgd).1
    have HS6:Hid (∀ V K,Mem wr.drew V K→V.cell? ⟨gp,i * 5,none⟩=some (.int .u64 e.t)∧V.cell? ⟨gp,i * 5+1,none⟩=some (.int .i64 e.c)∧V.cell? ⟨gp,i * 5+2,none⟩=some (.int .i64 i)∧V.cell? ⟨gp,i * 5+3,none⟩=some (.int .i64 n)∧V.cell? ⟨gp,i * 5+4,none⟩=some (.slice xa kb xc)):=fun V K hV=>HS.out V (by rw [hV.below.block gp hglt];exact hgd)
    obtain ⟨j0,j1,j2,j3,j4⟩:=HS.out wr hgr
    have HRD:DkAt w wr.drew p h m D' hc ks' (K++((gp,.cells cur pcT (0,0))::L)):=hR.at_.on hR.at_.st.drew
    have HSZ:Hid (Calls Tryz.prog 50 #[.pointer (some ⟨p,0,none⟩)] wr.drew fun e W'=>e=.returned (.int .i64 m)∧wr.drew=W'):=dsize_any HRD
    have hpok:PcOk m (lspc e M i):=by rw [HMM.out];exact spc_ok HE.out i (by rw [←HNN.out];exact hin)
    have HFR:Hid (Calls Tryz.prog 123 #[.agg (pcA e.t e.c i n (.slice xa kb xc)),.int .i64 m] wr.drew fun e3 W'=>∃ g,e3=.returned (.slice (some ⟨g,0,none⟩) m m)∧∃ K,Mem wr.drew W' ((g,.cells (bs (frm m (lspc e M i))) 5)::K)):=by
     have h9:=framed_any hpok hm0 (a:=xa) (cap:=xc) hkb (by rw [←hkb];exact hxc) (hpart _ (HBE.out _ _ _ _ _ HRD (fun q hq=>by simp [hq])))
     have e9:pcA (lspc e M i).t (lspc e M i).c (lspc e M i).i (lspc e M i).n (.slice xa kb xc)=pcA e.t e.c i n (.slice xa kb xc):=by simp only [lspc,hkn]
     rw [e9] at h9;exact h9
    obtain ⟨z,hz⟩:∃ z,z=y+i:=⟨_,rfl⟩
    have hzl:z < ks'.length:=by
     have h9:=HSI.out i hin
     have h8:ks'.length=ks.length:=by have:=congrArg List.length hR.rows;rw [part_length,List.length_map,List.length_map] at this;exact this
     omega
    have hzi:(y:Int)+i=(z:Int):=by omega
    have hzw:IntKind.i64.wrap (z:Int)=z:=by have:=hR.at_.top;rw [IntKind.wrap_i64];omega
    obtain ⟨kk,hkk⟩:∃ kk,ks'[z]? = some kk:=⟨_,List.getElem?_eq_getElem hzl⟩
    have hfl:(frm m (lspc e M i)).length=m:=frm_length hpok.len
    have HPT:Hid (lpart m e (ks.map Bk.b) (n - i)=(ks'.map Bk.b).set z (frm m (lspc e M i))):=by
     show _=_
     rw [show n - i=(n - (i+1))+1 by omega,lpart,← hR.rows,List.length_map,HY.out,← HNN.out,show n - 1 - (n - (i+1))=i by omega,← HMM.out,hz]
    have q0:(0:Int)≤(i:Int):=by omega
    have qn:(i:Int) < (n:Int):=by omega
    by_cases hcut:D'.set=true∧D'.left=0
    ·have HWR:Hid (∀ w6 K6 g6,Mem wr.drew w6 ((g6,.cells (bs (frm m (lspc e M i))) 5)::K6)→Calls Tryz.prog 122 #[.pointer (some ⟨p,0,none⟩),.int .i64 z,.slice (some ⟨g6,0,none⟩) m m] w6 fun e3 W'=>e3=.returned (.int .i64 42)∧W'.heap[gp]? = some (.cells cur pcT (0,0))∧∃ D' ks' K,WrEnd w W' p h m D hc (ks.map Bk.b) L e 42 D' ks' K):=by
      intro w6 K6 g6 h6
      have H6:=HRD.join h6
      refine (dwrite_cut H6 (h6.own 0 rfl (frm_bytes hpok.bytes) (by rw [hfl];omega)) (Nat.le_refl m) hfl z hkk hR.live hcut.1 hcut.2).mono ?_
      rintro e3 W' ⟨rfl,ks2,H7,hb7⟩
      refine ⟨rfl,H7.has (x:=(gp,.cells cur pcT (0,0))) (by simp),gone,ks2,((g6,.cells (bs (frm m (lspc e M i))) 5)::K6)++(K++[(gp,.cells cur pcT (0,0))]),⟨?_,Or.inr ⟨rfl,rfl,?_,?_⟩⟩⟩
      ·have e9:((g6,Obj.cells (bs (frm m (lspc e M i))) 5)::K6)++(K++((gp,.cells cur pcT (0,0))::L))=(((g6,.cells (bs (frm m (lspc e M i))) 5)::K6)++(K++[(gp,.cells cur pcT (0,0))]))++L:=by simp
       rw [←e9];exact H7
      ·cases hD:D.set
       ·have:=hR.off hD;rw [this,hD] at hcut;simp at hcut
       ·rfl
      ·have h9:=Left.mid (m:=m) (e:=e) (bl:=ks.map Bk.b) (n - (i+1)) D'.pre.toNat (by rw [←HNN.out];omega) (by have:=hR.at_.pre;omega)
       rw [List.length_map,HY.out,← HNN.out,show n - 1 - (n - (i+1))=i by omega,← HMM.out,← hz,← hR.rows] at h9
       rw [hb7]
       have e8:(ks'.map Bk.b).getD z []=kk.b:=by simp [List.getD,hkk]
       rw [e8] at h9
       exact h9
     clear hR HRD hpart hxc hx hpok hgr hgd hcut hkk hzl hz hfl hkn hkb HBE
     go_upto_region 8 with fail
     go_region_held3 (fun w'=>w'.cell? ⟨gp,i * 5,none⟩=some (.int .u64 e.t)∧w'.cell? ⟨gp,i * 5+1,none⟩=some (.int .i64 e.c)∧w'.cell? ⟨gp,i * 5+2,none⟩=some (.int .i64 i)∧w'.cell? ⟨gp,i * 5+3,none⟩=some (.int .i64 n)∧w'.cell? ⟨gp,i * 5+4,none⟩=some (.slice xa kb xc))
      (first | go_keep | assumption | exact HS6.out _ _ q6 | exact HS.out _ hg7)
      (first
       | (go_at_call 50;with_reducible refine HSZ.out.mono ?_;rintro e3 w3 ⟨rfl,rfl⟩)
       | (go_at_call 123;with_reducible refine HFR.out.mono ?_;rintro e3 w6 ⟨g6,rfl,K6,q6⟩)
       | (go_at_call 122;with_reducible refine (HWR.out _ _ _ q6).mono ?_;rintro e3 w7 ⟨rfl,hg7,hpost⟩))
     go_wp2
     go_ret
     exact ⟨42,rfl,hpost⟩
    ·have hgo:D'.set=false∨D'.left≠0:=by
      cases hD:D'.set
      ·exact Or.inl rfl
      ·exact Or.inr fun e0=>hcut ⟨hD,e0⟩
     have HWR:Hid (∀ w6 K6 g6,Mem wr.drew w6 ((g6,.cells (bs (frm m (lspc e M i))) 5)::K6)→Calls Tryz.prog 122 #[.pointer (some ⟨p,0,none⟩),.int .i64 z,.slice (some ⟨g6,0,none⟩) m m] w6 fun e3 W'=>e3=.returned (.int .i64 0)∧W'.heap[gp]? = some (.cells cur pcT (0,0))∧∃ D' ks' K,WrAt w W' p h m D hc (ks.map Bk.b) ((gp,.cells cur pcT (0,0))::L) e (n - i) D' ks' K):=by
      intro w6 K6 g6 h6
      have H6:=HRD.join h6
      refine (dwrite_ok (cap:=m) H6 (h6.own 0 rfl (frm_bytes hpok.bytes) (by rw [hfl];omega)) hfl z hkk hR.live hgo).mono ?_
      rintro e3 W' ⟨rfl,ks2,H7,hb7⟩
      refine ⟨rfl,H7.has (x:=(gp,.cells cur pcT (0,0))) (by simp),went D',ks2,((g6,.cells (bs (frm m (lspc e M i))) 5)::K6)++K,⟨?_,went_dead D',fun h0=>?_,?_⟩⟩
      ·rw [List.append_assoc];exact H7
      ·have:=hR.off h0;rw [this] at hR ⊢;exact went_set hR.live h0
      ·rw [hb7,HPT.out]
     clear hR HRD hpart hxc hx hpok hgr hgd hcut hkk hzl hz hfl hkn hkb hgo
     go_upto_region 8 with fail
     go_region_held3 (fun w'=>w'.cell? ⟨gp,i * 5,none⟩=some (.int .u64 e.t)∧w'.cell? ⟨gp,i * 5+1,none⟩=some (.int .i64 e.c)∧w'.cell? ⟨gp,i * 5+2,none⟩=some (.int .i64 i)∧w'.cell? ⟨gp,i * 5+3,none⟩=some (.int .i64 n)∧w'.cell? ⟨gp,i * 5+4,none⟩=some (.slice xa kb xc))
      (first | go_keep | assumption | exact HS6.out _ _ q6 | exact HS.out _ hg7)
      (first
       | (go_at_call 50;with_reducible refine HSZ.out.mono ?_;rintro e3 w3 ⟨rfl,rfl⟩)
       | (go_at_call 123;with_reducible refine HFR.out.mono ?_;rintro e3 w6 ⟨g6,rfl,K6,q6⟩)
       | (go_at_call 122;with_reducible refine (HWR.out _ _ _ q6).mono ?_;rintro e3 w7 ⟨rfl,hg7,hpost⟩))
     go_wp2_with fail
     go_roundw
     case rel=>exact ⟨i,rfl,by omega,hpost⟩
     case measure=>simp [intOf]
end
end Go.Proofs.YtdigofgjhaakmaaGreatDoor
namespace Go.Proofs.YtdigofgjhaakmaaGreatDoor
open Go.RowKit
open Sm
open Cf
def fvItm_CT (bo bi:Nat):Fv:=⟨222,223,224,#[.pointer (some ⟨bo,0,none⟩),.pointer (some ⟨bi,0,none⟩)],#[.pointer (some ⟨bo,0,none⟩),.pointer (some ⟨bi,0,none⟩)],#[.pointer (some ⟨bo,0,none⟩),.pointer (some ⟨bi,0,none⟩)]⟩
def spTenants:Sp Cgf:=⟨fun c=>cat (fun i=>tenc (c.ten.getD i ten0)) (min c.ten.length 255),fun l c=>(sq (itd ten0 spT) 0 c.ten.length l c.ten).map (fun q=>({ c with ten:=q.1 },q.2)),fun _ _=>false⟩
theorem pick {α:Type}:∀ (l:List α) (i:Nat),i < l.length→∃ A z B,l=A++z::B∧A.length=i
 | z::l,0,_=>⟨[],z,l,rfl,rfl⟩
 | y::l,i+1,h=>by
  obtain ⟨A,z,B,e,hA⟩:=pick l i (by simpa using h)
  exact ⟨y::A,z,B,by rw [e];rfl,by simp [hA]⟩
theorem fw_Itm_CT {w:World} {L:List (Nat×Obj)} (bo bi ko:Nat) (fi:Fv) (hfi:Fd w L IT JT fi spT)
  (mo:(bo,.cells #[.func (.func ko) #[] #[]] 233)∈L) (mi:(bi,.cells fi.cells.toArray 246)∈L)
  (eo:Ent ko) (ho:∀ V g off,Calls Tryz.prog ko #[.pointer (some ⟨g,off,none⟩)] V fun e V'=>e=.returned (.pointer (some ⟨g,off+28,none⟩))∧V=V') :
  Fw w L IC JC (fvItm_CT bo bi) spTenants:=by
 have ci:∀ K,Sub L K→∀ V,Mem w V K→V.cell? ⟨bi,0,none⟩=some (.func (.func fi.kw) #[] fi.cw)∧V.cell? ⟨bi,1,none⟩=some (.func (.func fi.kr) #[] fi.cr)∧V.cell? ⟨bi,2,none⟩=some (.func (.func fi.ks) #[] fi.cs) :=
  fun K hK V hV=>⟨by rw [mem_box hV (hK _ mi)];rfl,by rw [mem_box hV (hK _ mi)];rfl,by rw [mem_box hV (hK _ mi)];rfl⟩
 refine ⟨enters_of Tryz.func222 (by kernel_rfl) rfl,enters_of Tryz.func223 (by kernel_rfl) rfl,?_,?_⟩
 ·rintro K hK x ⟨sv,zs⟩ g off hx v l V hO hb
  have h0:=hx V hO.mem
  have hlen:(zs.map zc).length=x.ten.length:=by rw [List.length_map,← h0.2.2.1,List.length_map]
  have:=iwr_CT hO bo bi ko fi.kw fi.kr fi.ks fi.cw fi.cr fi.cs ⟨g,off,none⟩ ⟨g,off+28,none⟩ sv (zs.map zc) ?hx (fun V hV=>by rw [mem_box hV (hK _ mo)];rfl) (ci K hK) eo (fun V=>ho V g off) hfi.ew
   (fun V hV=>(hx V hV).cell 28 (cget (hx V hV).1.len (by rintro ip a b c d f g a1 b1 c1 d1 f1 g1 a2 b2 c2 d2 f2 g2 k1 k2 k3 k4 k5 k6 k7 k8 dr te rfl;rfl))) (fun V hV=>(hx V hV).2.2.2.1) (fun i=>tenc (x.ten.getD i ten0)) ?hw (by rw [hlen];exact hb)
  case hx =>
   intro q hq
   obtain ⟨z,hz,rfl⟩:=List.mem_map.mp hq
   have h1:=h0.2.2.2.2 z hz
   exact ⟨tc_len h1.1.len _ _ _,zc_one h1.2⟩
  case hw =>
   intro i hi ge v l V hV hbb
   rw [hlen] at hi
   have hil:i < zs.length:=by rw [List.length_map] at hlen;omega
   obtain ⟨z,hz⟩:∃ z,zs[i]? = some z:=⟨_,List.getElem?_eq_getElem hil⟩
   have hzm:z∈zs:=List.mem_of_getElem? hz
   have ez:(zs.map zc).getD i []=zc z:=by simp [List.getD,hz]
   have ed:x.ten.getD i ten0=z.1:=by rw [←h0.2.2.1];simp [List.getD,hz]
   rw [ez] at hV
   simp only [ed] at hbb ⊢
   refine (hfi.wr _ (hK.cons _) z.1 z.2 ge 0 (fun V hV=>?_) v l V hV hbb).mono ?_
   ·obtain ⟨h1,h2⟩:=(hx V hV.sub).2.2.2.2 z hzm
    refine ⟨h1,fun j u hj=>?_,h2⟩
    rw [Nat.zero_add,hV.cell 0 rfl,List.getElem?_toArray]
    exact hj
   ·rintro e V' ⟨v',h1,h2⟩
    exact ⟨v',h1,h2.drop⟩
  rw [hlen] at this
  exact this
 ·intro K hK x g T pre post a l c V hj hS
  obtain ⟨hle,hb,M,sa,sc,hsa,hsub,hback,hcell,hIM,hset⟩:=lens_Iten x g T pre post V K hj
  have:=ird_CT (σ:=List Ten) (w:=w) (L:=M) (J:=fun ys V=>ys.length=x.ten.length∧IMT w hb M V ys) ?st (fun ys V h=>by obtain ⟨-,zs,-,-,h⟩:=h;exact h.dropA) bo bi ko fi.kw fi.kr fi.ks fi.cw fi.cr fi.cs ⟨g,pre.length,none⟩ ⟨g,pre.length+28,none⟩ sa x.ten.length sc hle hb hsa
   (fun V hV=>by rw [mem_box hV (hsub _ (hK _ mo))];rfl) (ci M (hK.trans hsub)) eo (fun V=>ho V g pre.length) hfi.er (itd ten0 spT) ?hr x.ten l a c V ⟨rfl,hIM⟩ hS hcell
  case st =>
   rintro ys V V' ⟨h1,zs,h2,h3,h4⟩ hB
   exact ⟨h1,zs,h2,h3,h4.after hB⟩
  case hr =>
   rintro i hi ys l a c V ⟨h1,zs,rfl,h3,h4⟩ hS
   rw [List.length_map] at h1
   obtain ⟨A,z,B,rfl,hA⟩:=pick zs i (by omega)
   have ed:((A++z::B).map Prod.fst).getD i ten0=z.1:=by
    subst hA;simp [List.getD]
   have es:∀ q:Ten,∀ n:Nat×Nat×Nat,((A++z::B).map Prod.fst).set i q=(A++(q,n)::B).map Prod.fst:=by
    intro q n;subst hA;simp [List.set_append_right]
   have hokA:∀ z∈A,tok z:=fun z hz=>h3 z (List.mem_append_left _ hz)
   have hpl:(A.flatMap tcs).length=i * 33:=by rw [tcs_len hokA,hA]
   have ft:∀ u:Tz,(A++u::B).flatMap tcs=A.flatMap tcs++(tcs u++B.flatMap tcs):=fun u=>by simp
   have fb:∀ u:Tz,((A++u::B).flatMap tbs++M).Perm (lb u.2.1 33 (ux u.1.pool)++(lb u.2.2.1 122 (px u.1.stat)++(lb u.2.2.2 122 (px u.1.twi)++(A.flatMap tbs++(B.flatMap tbs++M))))):=by
    intro u
    classical
    rw [List.perm_iff_count]
    intro q
    simp only [List.flatMap_append,List.flatMap_cons,tbs,List.count_append]
    omega
   rw [tbk_ne (by simp),ft] at h4
   have hz:=h3 z (by simp)
   have hJ:JT w z.1 hb 46 (A.flatMap tcs) (B.flatMap tcs) V (A.flatMap tbs++(B.flatMap tbs++M)):=⟨hz.1,hz.2,z.2.1,z.2.2.1,z.2.2.2,h4.perm ((fb z).cons _)⟩
   have:=hfi.rd (A.flatMap tbs++(B.flatMap tbs++M)) (((hK.trans hsub).app _).app _) z.1 hb 46 (A.flatMap tcs) (B.flatMap tcs) a l c V hJ hS
   rw [hpl] at this
   refine this.mono ?_
   intro e V' hR
   refine hR.mono (fun q=>((A++z::B).map Prod.fst).set i q) (by simp only [itd,ed]) (fun h=>h.dropA.dropA) (fun q hq=>⟨by rw [List.length_set,List.length_map];exact h1,?_⟩)
   obtain ⟨j1,j2,hp,hs,hq',j3⟩:=hq
   refine ⟨A++(q,hp,hs,hq')::B,(es q _).symm,fun u hu=>?_,?_⟩
   ·rcases List.mem_append.mp hu with hu | hu
    ·exact hokA u hu
    ·rcases List.mem_cons.mp hu with rfl | hu
     ·exact ⟨j1,j2⟩
     ·exact h3 u (List.mem_append_right _ (List.mem_cons_of_mem _ hu))
   ·rw [tbk_ne (by simp),ft]
    exact j3.perm ((fb (q,hp,hs,hq')).symm.cons _)
  refine this.mono ?_
  intro e V' hR
  exact hR.mono (fun ys=>{ x with ten:=ys }) rfl (hback V') (fun ys hy=>hset ys V' hy.1 hy.2)
theorem mk_Itm_CT {w W:World} {L:List (Nat×Obj)} (h:Mem w W L) (ko:Nat) (fi:Fv) :
  Calls Tryz.prog 159 #[.func (.func ko) #[] #[],fi.val] W fun e W'=>∃ bo bi,e=.returned (fvItm_CT bo bi).val∧Mem w W' ((bo,.cells #[.func (.func ko) #[] #[]] 233)::(bi,.cells fi.cells.toArray 246)::L):=by
 obtain ⟨k1,k2,k3,c1,c2,c3⟩:=fi
 have hM:Mem w ((W.alloc (.cells #[.func (.func ko) #[] #[]] 233)).alloc (.cells #[.func (.func k1) #[] c1,.func (.func k2) #[] c2,.func (.func k3) #[] c3] 246)) ((W.heap.size,.cells #[.func (.func ko) #[] #[]] 233)::(W.heap.size+1,.cells #[.func (.func k1) #[] c1,.func (.func k2) #[] c2,.func (.func k3) #[] c3] 246)::L):=by
  have h1:=(h.push W.heap.size (.cells #[.func (.func ko) #[] #[]] 233) rfl).push (W.heap.size+1) (.cells #[.func (.func k1) #[] c1,.func (.func k2) #[] c2,.func (.func k3) #[] c3] 246) (by simp)
  refine h1.perm ?_
  rw [List.append_assoc]
  exact List.perm_append_comm
 have hmf:∀ (fn:Fn) (first cap:Array Value) (w:World),(Instr.makeFunc fn first cap).run Tryz.prog w=.ok (.func fn first cap) w:=fun _ _ _ _=>rfl
 have HM:Hid (Mem w ((W.alloc (.cells #[.func (.func ko) #[] #[]] 233)).alloc (.cells #[.func (.func k1) #[] c1,.func (.func k2) #[] c2,.func (.func k3) #[] c3] 246)) ((W.heap.size,.cells #[.func (.func ko) #[] #[]] 233)::(W.heap.size+1,.cells #[.func (.func k1) #[] c1,.func (.func k2) #[] c2,.func (.func k3) #[] c3] 246)::L)):=hM
 clear hM h
 simp only [Fv.val]
 go_enter Tryz.func159,Tryz.ntmps159
 go_wp2_with fail
 refine bodyPost_ret (v:=(fvItm_CT W.heap.size (W.heap.size+1)).val) ?_ rfl ⟨_,_,rfl,HM.out.after ((Below.refl _ _).alloc (Nat.le_refl _) _)⟩
 exact results_cell_row (p:=4) (ty:=189) rfl _ _ (W.heap.size+1+1) 189 _ (0,0) _ rfl (heap_alloc3_new _ _ _ _) Tryz.underlying189 rfl (by kernel_rfl)
theorem rb_pair (y z:Int×Int):RB spP.dec (spP.enc y) z (num (be 4 y.1),num (be 4 y.2)):=by
 obtain ⟨x',h,e⟩:=sq_rb (dec:=fun i=>([spA,spB].getD i sp0).dec) (enc:=fun i=>([spA,spB].getD i sp0).enc y)
  (Inv:=fun k x=>x=(if 0 < k then num (be 4 y.1) else z.1,if 1 < k then num (be 4 y.2) else z.2)) 2 0 z (fun k _ hk x hx=>by
   subst hx
   match k,hk with
   | 0,_=>exact ⟨_,(rb_num 4 _ _ y _:RB spA.dec (spA.enc y) _ _),rfl⟩
   | 1,_=>exact ⟨_,(rb_num 4 _ _ y _:RB spB.dec (spB.enc y) _ _),rfl⟩) rfl
 subst e
 rw [←cat_eq] at h
 exact h
theorem rb_u (y z:Int):RB spU.dec (spU.enc y) z (num (be 4 y)):=rb_num 4 id (fun _ y=>y) y z
def tcut (t:Ten):Ten:=⟨strOfNums ((sb t.name).take 255),num (be 4 t.vni),t.key,num (be 4 t.vtep),t.vmac,t.host,(t.pool.take 255).map (fun v=>num (be 4 v)),num (be 2 t.lo),num (be 2 t.hi),num (be 1 t.filter),
 (t.stat.take 255).map (fun v=>(num (be 4 v.1),num (be 4 v.2))),(t.twi.take 255).map (fun v=>(num (be 4 v.1),num (be 4 v.2))),num (be 2 t.sess),num (be 2 t.queue),num (be 4 t.rate),num (be 4 t.burst)⟩
def stt (t:Ten) (k:Nat):Ten:=⟨if 0 < k then (tcut t).name else ten0.name,if 1 < k then (tcut t).vni else ten0.vni,if 2 < k then t.key else ten0.key,if 3 < k then (tcut t).vtep else ten0.vtep,if 4 < k then t.vmac else ten0.vmac,if 5 < k then t.host else ten0.host,
 if 16 < k then (tcut t).pool else if 13 < k then List.replicate (min t.pool.length 255) 0 else [],if 6 < k then (tcut t).lo else ten0.lo,if 7 < k then (tcut t).hi else ten0.hi,if 8 < k then (tcut t).filter else ten0.filter,
 if 17 < k then (tcut t).stat else if 14 < k then List.replicate (min t.stat.length 255) (0,0) else [],if 18 < k then (tcut t).twi else if 15 < k then List.replicate (min t.twi.length 255) (0,0) else [],
 if 9 < k then (tcut t).sess else ten0.sess,if 10 < k then (tcut t).queue else ten0.queue,if 11 < k then (tcut t).rate else ten0.rate,if 12 < k then (tcut t).burst else ten0.burst⟩
theorem set_pool_eq (x:Ten) (m:Nat) (h:x.pool=[]):set_pool x m={ x with pool:=List.replicate m 0 }:=by
 unfold set_pool
 split
 ·rename_i e;subst e;cases x;simp only at h;subst h;rfl
 ·rfl
theorem set_stat_eq (x:Ten) (m:Nat) (h:x.stat=[]):set_stat x m={ x with stat:=List.replicate m (0,0) }:=by
 unfold set_stat
 split
 ·rename_i e;subst e;cases x;simp only at h;subst h;rfl
 ·rfl
theorem set_twi_eq (x:Ten) (m:Nat) (h:x.twi=[]):set_twi x m={ x with twi:=List.replicate m (0,0) }:=by
 unfold set_twi
 split
 ·rename_i e;subst e;cases x;simp only at h;subst h;rfl
 ·rfl
theorem tenc_rb (t:Ten) (hl:TLen t):RB spT.dec (spT.enc t) ten0 (tcut t):=by
 obtain ⟨x',h,e⟩:=sq_rb (dec:=fun i=>(tsp.getD i sp0).dec) (enc:=fun i=>(tsp.getD i sp0).enc t) (Inv:=fun k x=>x=stt t k) 19 0 ten0 (fun k _ hk x hx=>by
   subst hx
   match k,hk with
   | 0,_=>exact ⟨_,(rb_txt _ _ t _ (sb_len _):RB spName.dec (spName.enc t) _ _),rfl⟩
   | 1,_=>exact ⟨_,(rb_num 4 _ _ t _:RB spVni.dec (spVni.enc t) _ _),rfl⟩
   | 2,_=>exact ⟨_,(rb_oct 8 _ _ t _ hl.key:RB spKey.dec (spKey.enc t) _ _),rfl⟩
   | 3,_=>exact ⟨_,(rb_num 4 _ _ t _:RB spVtep.dec (spVtep.enc t) _ _),rfl⟩
   | 4,_=>exact ⟨_,(rb_oct 6 _ _ t _ hl.vmac:RB spVtepMac.dec (spVtepMac.enc t) _ _),rfl⟩
   | 5,_=>exact ⟨_,(rb_oct 6 _ _ t _ hl.host:RB spHost.dec (spHost.enc t) _ _),rfl⟩
   | 6,_=>exact ⟨_,(rb_num 2 _ _ t _:RB spLo.dec (spLo.enc t) _ _),rfl⟩
   | 7,_=>exact ⟨_,(rb_num 2 _ _ t _:RB spHi.dec (spHi.enc t) _ _),rfl⟩
   | 8,_=>exact ⟨_,(rb_num 1 _ _ t _:RB spFilter.dec (spFilter.enc t) _ _),rfl⟩
   | 9,_=>exact ⟨_,(rb_num 2 _ _ t _:RB spSess.dec (spSess.enc t) _ _),rfl⟩
   | 10,_=>exact ⟨_,(rb_num 2 _ _ t _:RB spQueue.dec (spQueue.enc t) _ _),rfl⟩
   | 11,_=>exact ⟨_,(rb_num 4 _ _ t _:RB spRate.dec (spRate.enc t) _ _),rfl⟩
   | 12,_=>exact ⟨_,(rb_num 4 _ _ t _:RB spBurst.dec (spBurst.enc t) _ _),rfl⟩
   | 13,_=>exact ⟨_,(rb_cnt _ _ t _:RB spPool.dec (spPool.enc t) _ _),set_pool_eq _ _ rfl⟩
   | 14,_=>exact ⟨_,(rb_cnt _ _ t _:RB spStatics.dec (spStatics.enc t) _ _),set_stat_eq _ _ rfl⟩
   | 15,_=>exact ⟨_,(rb_cnt _ _ t _:RB spTwices.dec (spTwices.enc t) _ _),set_twi_eq _ _ rfl⟩
   | 16,_=>exact ⟨_,(rb_itm 0 spU _ rb_u _ _ t _ (List.length_replicate ..):RB spPoolI.dec (spPoolI.enc t) _ _),rfl⟩
   | 17,_=>exact ⟨_,(rb_itm (0,0) spP _ rb_pair _ _ t _ (List.length_replicate ..):RB spStaticsI.dec (spStaticsI.enc t) _ _),rfl⟩
   | 18,_=>exact ⟨_,(rb_itm (0,0) spP _ rb_pair _ _ t _ (List.length_replicate ..):RB spTwicesI.dec (spTwicesI.enc t) _ _),rfl⟩
   | n+19,h=>exact absurd (show n+19 < 0+19 from h) (by omega)) rfl
 subst e
 rw [←cat_eq] at h
 exact h
def prs:Nat→Option (List Int)→List (Int×Int)×Option (List Int)
 | 0,σ=>([],σ)
 | _+1,none=>([],none)
 | n+1,some r=>((num (tk 4 (some r)),num (tk 4 (nx 4 (some r))))::(prs n (nx 4 (nx 4 (some r)))).1,(prs n (nx 4 (nx 4 (some r)))).2)
def OwB (T:TypeId) (sz:Nat) (v:Value) (n:Nat) (xs:List Value) (B:List (Nat×Obj)):Prop :=
 xs.length=n * sz∧((v=.slice none 0 0∧n=0∧B=[])∨∃ g cap cur,v=.slice (some ⟨g,0,none⟩) n cap∧B=[(g,.cells cur T (0,0))]∧n≤cap∧cap≤maxLen∧cur.size=cap * sz∧cur.toList.take (n * sz)=xs)
theorem OwB.nil (T:TypeId) (sz:Nat):OwB T sz (.slice none 0 0) 0 [] []:=⟨by simp,Or.inl ⟨rfl,rfl,rfl⟩⟩
theorem OwB.ow {w V:World} {T:TypeId} {sz n:Nat} {v:Value} {xs:List Value} {B L:List (Nat×Obj)} (h:OwB T sz v n xs B) (hM:Mem w V (B++L)):Ow w V T sz v n xs L:=by
 obtain ⟨h1,h2⟩:=h
 refine ⟨h1,?_⟩
 rcases h2 with ⟨rfl,e,rfl⟩ | ⟨g,cap,cur,rfl,rfl,r⟩
 ·exact Or.inl ⟨rfl,e,hM⟩
 ·exact Or.inr ⟨g,cap,cur,rfl,hM,r⟩
theorem Ow.owb {w V:World} {T:TypeId} {sz n:Nat} {v:Value} {xs:List Value} {L:List (Nat×Obj)} (h:Ow w V T sz v n xs L):∃ B,OwB T sz v n xs B∧Mem w V (B++L):=by
 obtain ⟨h1,h2⟩:=h
 rcases h2 with ⟨rfl,e,hM⟩ | ⟨g,cap,cur,rfl,hM,r⟩
 ·exact ⟨[],⟨h1,Or.inl ⟨rfl,e,rfl⟩⟩,hM⟩
 ·exact ⟨[(g,.cells cur T (0,0))],⟨h1,Or.inr ⟨g,cap,cur,rfl,rfl,r⟩⟩,hM⟩
theorem px_snoc (acc:List (Int×Int)) (x:Int×Int):(px (acc++[x])).flatten=(px acc).flatten++[.int .u32 x.1,.int .u32 x.2]:=by simp [px]
theorem ux_snoc (acc:List Int) (x:Int):(ux (acc++[x])).flatten=(ux acc).flatten++[.int .u32 x]:=by simp [ux]
theorem addr_mid (b off j:Nat):(Addr.mk b off none).add j=⟨b,off+j,none⟩:=Addr.add_mid b off j
def TSame (t z:Ten):Prop:=sb t.name=sb z.name∧t.vni=z.vni∧t.key=z.key∧t.vtep=z.vtep∧t.vmac=z.vmac∧t.host=z.host∧t.pool=z.pool∧t.lo=z.lo∧t.hi=z.hi∧t.filter=z.filter∧t.stat=z.stat∧t.twi=z.twi∧t.sess=z.sess∧t.queue=z.queue∧t.rate=z.rate∧t.burst=z.burst
end Go.Proofs.YtdigofgjhaakmaaGreatDoor
