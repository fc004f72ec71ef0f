/-
  Which settings may be: a tenant in a box; what it owns.
  What is changed: the names that stand in maps, in order, each once (names).
  Two digits as a byte, and keys: the document's own two and Key, at every text.
  Hardware addresses as text: the program's Mac, at every text.
  Which settings may be: rules out of questions; lists of addresses.
  What is changed: changes in a slice, tenants and changes that are appended to a list of the call's own.
  What is changed: Apply, for whatever tenants and changes.
  Plain mathematics: each number, each address has its one text.
  What is changed: changes that come in.
-/
import Derived.Test.YtdigofgjhaakmaaGreatDoorW24
import Derived.Test.YtdigofgjhaakmaaGreatDoorW19
import Derived.Test.YtdigofgjhaakmaaGreatDoorW17
import Derived.Test.YtdigofgjhaakmaaGreatDoorW21
import Derived.Sort.OwnSorted
import Derived.Test.YtdigofgjhaakmaaGreatDoorW22
import Derived.Test.YtdigofgjhaakmaaGreatDoorW23
import Derived.Test.YtdigofgjhaakmaaGreatDoorW20
import Derived.Lib.ItoaNum
import Derived.Lib.Join
set_option linter.unusedVariables false
set_option linter.unusedSimpArgs false
set_option maxRecDepth 20000
set_option maxHeartbeats 40000000
namespace Go.Proofs.YtdigofgjhaakmaaGreatDoor
open Go.RowKit
open Va
structure TBx (w:World) (tl:List Value) (t:Ten) (pa sa qa:Option Addr) (pc sc qc:Nat):Prop where
 len:tl.length=33
 one:tl.toArray.all (·.oneCell')=true
 name:tl[0]? = some (.string t.name)
 vni:tl[1]? = some (.int .u32 t.vni)
 vtep:tl[10]? = some (.int .u32 t.vtep)
 pool:tl[23]? = some (.slice pa t.pool.length pc)
 lo:tl[24]? = some (.int .u16 t.lo)
 hi:tl[25]? = some (.int .u16 t.hi)
 filter:tl[26]? = some (.int .i64 t.filter)
 stat:tl[27]? = some (.slice sa t.stat.length sc)
 twi:tl[28]? = some (.slice qa t.twi.length qc)
 sess:tl[29]? = some (.int .i64 t.sess)
 queue:tl[30]? = some (.int .i64 t.queue)
 rate:tl[31]? = some (.int .u32 t.rate)
 burst:tl[32]? = some (.int .u32 t.burst)
 tv:TV w (.agg tl.toArray) t
 rp:Rw w 1 (.slice pa t.pool.length pc) (ux t.pool)
 rs:Rw w 2 (.slice sa t.stat.length sc) (px t.stat)
 rq:Rw w 2 (.slice qa t.twi.length qc) (px t.twi)
theorem TV.tb {w:World} {v:Value} {t:Ten} (h:TV w v t):∃ tl pa sa qa pc sc qc,v=.agg tl.toArray∧TBx w tl t pa sa qa pc sc qc:=by
 have h0:=h
 obtain ⟨hl,p,s,q,rfl,hp,hs,hq⟩:=h
 have hp0:=hp
 have hs0:=hs
 have hq0:=hq
 obtain ⟨pa,pc,rfl,-⟩:=hp
 obtain ⟨sa,sc,rfl,-⟩:=hs
 obtain ⟨qa,qc,rfl,-⟩:=hq
 have k1:(ux t.pool).length=t.pool.length:=by simp [ux]
 have k2:(px t.stat).length=t.stat.length:=by simp [px]
 have k3:(px t.twi).length=t.twi.length:=by simp [px]
 rw [k1] at hp0 h0 ⊢
 rw [k2] at hs0 h0 ⊢
 rw [k3] at hq0 h0 ⊢
 refine ⟨_,pa,sa,qa,pc,sc,qc,rfl,tc_len hl _ _ _,?_,?_,?_,?_,?_,?_,?_,?_,?_,?_,?_,?_,?_,?_,h0,hp0,hs0,hq0⟩
 ·exact tc_one3 _ rfl rfl rfl
 all_goals
  obtain ⟨n,vn,key,vt,vm,ho,po,lo,hi,fi,st,tw,se,qu,ra,bu⟩:=t
  obtain ⟨h1,h2,h3⟩:=hl
  obtain ⟨a,b,c,d,f,g,x,y,rfl⟩:=eight8 h1
  obtain ⟨a1,b1,c1,d1,f1,g1,rfl⟩:=six6 h2
  obtain ⟨a2,b2,c2,d2,f2,g2,rfl⟩:=six6 h3
  rfl
theorem TV.at_' {w V:World} {v:Value} {t:Ten} (h:TV w v t) (hb:Below w.heap.size w V):TV V v t:=by
 obtain ⟨hl,p,s,q,e,h1,h2,h3⟩:=h
 exact ⟨hl,p,s,q,e,h1.below ux_ne hb (Nat.le_refl _),h2.below px_ne hb (Nat.le_refl _),h3.below px_ne hb (Nat.le_refl _)⟩
theorem TBx.later {w V:World} {tl:List Value} {t:Ten} {pa sa qa:Option Addr} {pc sc qc:Nat} (h:TBx w tl t pa sa qa pc sc qc) (hb:Below w.heap.size w V):TBx V tl t pa sa qa pc sc qc :=
 { h with tv:=h.tv.at_' hb,rp:=h.rp.below ux_ne hb (Nat.le_refl _),rs:=h.rs.below px_ne hb (Nat.le_refl _),rq:=h.rq.below px_ne hb (Nat.le_refl _) }
def TBo (W:World) (g:Nat) (t:Ten):Prop:=∃ tl pa sa qa pc sc qc,W.heap[g]? = some (.cells tl.toArray 46)∧TBx W tl t pa sa qa pc sc qc
theorem TBo.later {W V:World} {g:Nat} {t:Ten} (h:TBo W g t) (hb:Below W.heap.size W V):TBo V g t:=by
 obtain ⟨tl,pa,sa,qa,pc,sc,qc,h1,h2⟩:=h
 exact ⟨tl,pa,sa,qa,pc,sc,qc,by rw [hb.block g (Array.getElem?_eq_some_iff.mp h1).1];exact h1,h2.later hb⟩
theorem cell_tl {W:World} {g:Nat} {tl:List Value} {T:TypeId} (h:W.heap[g]? = some (.cells tl.toArray T (0,0))) {i:Nat} {v:Value} (hv:tl[i]? = some v):W.cell? ⟨g,i,none⟩=some v:=by
 rw [cell_of h];simpa using hv
theorem i33_of {tl:List Value} (h:tl.length=33):(Tryz.prog.info? 46).map (·.size)=some tl.toArray.size:=by rw [List.size_toArray,h];kernel_rfl
theorem mkf:∀ (fn:Fn) (first cap:Array Value) (w:World),(Instr.makeFunc fn first cap).run Tryz.prog w=.ok (.func fn first cap) w:=fun _ _ _ _=>rfl
theorem own1_any {W:World} {g:Nat} {x:Int} (h:W.cell? ⟨g,0,none⟩=some (.int .u32 x)):PrU W 139 #[.pointer (some ⟨g,0,none⟩)] (fun y=>y == x):=by
 refine ⟨enters_of Tryz.func139 (by kernel_rfl) rfl,fun y V hV=>?_⟩
 have c:V.cell? ⟨g,0,none⟩=some (.int .u32 x):=by rw [hV.cell (p:=⟨g,0,none⟩) (cell_lt h)];exact h
 simp only [List.append_toArray,List.cons_append,List.nil_append]
 go_enter Tryz.func139,Tryz.ntmps139
 go_wp2_with fail
 go_ret
 exact ⟨by simp,Below.refl _ _⟩
theorem one1_any {W:World} {g k:Nat} {caps:Array Value} {f:Int→Bool} (hf:PrU W k caps f) (h:W.cell? ⟨g,0,none⟩=some (.func (.func k) #[] caps)):PrP W 143 #[.pointer (some ⟨g,0,none⟩)] (fun p=>f p.2):=by
 refine ⟨enters_of Tryz.func143 (by kernel_rfl) rfl,fun y z V hV=>?_⟩
 have hlt:=cell_lt h
 have c:V.cell? ⟨g,0,none⟩=some (.func (.func k) #[] caps):=by rw [hV.cell (p:=⟨g,0,none⟩) hlt];exact h
 have hB1:Below V.heap.size V (V.alloc (.cells #[.int .u32 y,.int .u32 z] 122)):=(Below.refl _ _).alloc (Nat.le_refl _) _
 have C:=hf.2 z _ (hV.trans (hB1.mono hV.size))
 have eg:∀ args V,(callFunc k args).run Tryz.prog V=.ok (.enter k args) V:=hf.1
 have HB1:Hid (Below V.heap.size V (V.alloc (.cells #[.int .u32 y,.int .u32 z] 122))):=hB1
 have hg:g < V.heap.size:=by have:=hV.size;simp at hlt;omega
 clear hf h hV hB1 hlt
 simp only [List.append_toArray,List.cons_append,List.nil_append]
 generalize f z=B at *
 go_enter Tryz.func143,Tryz.ntmps143
 go_wp2_with fail
 refine C.mono ?_
 rintro e W1 ⟨rfl,hb⟩
 go_wp2_with fail
 go_ret
 exact ⟨rfl,HB1.out.trans (hb.mono HB1.out.size)⟩
theorem ownsOne_any {w:World} {v:Value} {t:Ten} (h:TV w v t) (hm:TSm t) {k:Nat} {caps:Array Value} {f:Int→Bool} (hf:PrU w k caps f) :
  Calls Tryz.prog 119 #[v,.func (.func k) #[] caps] w fun e w'=>e=.returned (.bool (ow1 t f))∧Below w.heap.size w w':=by
 unfold ow1
 obtain ⟨B1,hB1⟩:∃ B,t.pool.any f=B:=⟨_,rfl⟩
 obtain ⟨B2,hB2⟩:∃ B,(t.stat.any fun p=>f p.2)=B:=⟨_,rfl⟩
 rw [hB1,hB2]
 obtain ⟨tl,pa,sa,qa,pc,sc,qc,rfl,hx⟩:=h.tb
 obtain ⟨g,hg⟩:∃ g,w.heap.size=g:=⟨_,rfl⟩
 have hM:Mem w ((w.alloc (.cells tl.toArray 46)).alloc (.cells #[.func (.func k) #[] caps] 176)) [(g+1,.cells #[.func (.func k) #[] caps] 176),(g,.cells tl.toArray 46)]:=by
  rw [←hg];exact two_blocks' w _ _
 go_enter Tryz.func119,Tryz.ntmps119
 go_upto_region 1 with fail
 refine wp_letter (fun X=>Mem w X [(g+1,.cells #[.func (.func k) #[] caps] 176),(g,.cells tl.toArray 46)]) (by exact hM) ?_
 intro V hV
 try simp only [hg]
 clear hM hg
 have k1:V.cell? ⟨g+1,0,none⟩=some (.func (.func k) #[] caps):=hV.cell 0 rfl 0
 have c23:=cell_tl (hV.get 1 rfl) hx.pool
 have C1:=containsf_u (hx.later hV.below).rp hm.2.1 (hf.later hV.below)
 rw [hB1] at C1
 have H2:Hid (∀ X,Below V.heap.size V X→X.cell? ⟨g+1,0,none⟩=some (.func (.func k) #[] caps)∧X.cell? ⟨g,27,none⟩=some (.slice sa t.stat.length sc)∧Calls Tryz.prog 142 #[.slice sa t.stat.length sc,.func (.func 143) #[] #[.pointer (some ⟨g+1,0,none⟩)]] X fun e w'=>e=.returned (.bool B2)∧Below X.heap.size X w'):=by
  intro X hX
  have hX2:=hV.after hX
  have kk:X.cell? ⟨g+1,0,none⟩=some (.func (.func k) #[] caps):=hX2.cell 0 rfl 0
  have C:=containsf_p (hx.later hX2.below).rs hm.2.2.1 (one1_any (hf.later hX2.below) kk)
  rw [hB2] at C
  exact ⟨kk,cell_tl (hX2.get 1 rfl) hx.stat,C⟩
 have HB:Hid (Below w.heap.size w V):=hV.below
 have hmf:=mkf
 clear hx hm hf hV h hB1 hB2
 generalize t.pool.length=n1 at *
 generalize t.stat.length=n2 at *
 go_wp2_with fail
 refine C1.mono ?_
 rintro e V2 ⟨rfl,hb⟩
 obtain ⟨k2,c27,C2⟩:=H2.out V2 hb
 have HB2:Hid (Below w.heap.size w V2):=HB.out.trans (hb.mono HB.out.size)
 clear H2 HB hb C1 c23 k1
 cases B1 with
 | true =>
  go_wp2_with fail
  go_ret
  exact ⟨rfl,HB2.out⟩
 | false =>
  go_wp2_with fail
  refine C2.mono ?_
  rintro e V3 ⟨rfl,hb3⟩
  go_wp2_with fail
  go_ret
  exact ⟨by simp,HB2.out.trans (hb3.mono HB2.out.size)⟩
theorem owns_any {w:World} {v:Value} {t:Ten} (h:TV w v t) (hm:TSm t) (x:Int) :
  Calls Tryz.prog 113 #[v,.int .u32 x] w fun e w'=>e=.returned (.bool (owns t x))∧Below w.heap.size w w':=by
 unfold owns
 obtain ⟨tl,pa,sa,qa,pc,sc,qc,rfl,hx⟩:=h.tb
 obtain ⟨g,hg⟩:∃ g,w.heap.size=g:=⟨_,rfl⟩
 have hM:Mem w ((w.alloc (.cells tl.toArray 46)).alloc (.cells #[.int .u32 x] 33)) [(g+1,.cells #[.int .u32 x] 33),(g,.cells tl.toArray 46)]:=by
  rw [←hg];exact two_blocks' w _ _
 have hmf:=mkf
 go_enter Tryz.func113,Tryz.ntmps113
 go_upto_region 1 with fail
 refine wp_letter (fun X=>Mem w X [(g+1,.cells #[.int .u32 x] 33),(g,.cells tl.toArray 46)]) (by exact hM) ?_
 intro V hV
 try simp only [hg]
 clear hM hg
 have k1:=hV.get 1 rfl
 have C:=ownsOne_any (hx.later hV.below).tv hm (own1_any (hV.cell 0 rfl 0))
 have HB:Hid (Below w.heap.size w V):=hV.below
 have i33:=i33_of hx.len
 clear hx hm hV h
 generalize tl.toArray=A at *
 go_wp2_with (refine wpList_load_row rfl 46 (.tmp 2) (by with_reducible rfl) g (by first | rfl | simp [Act.eval]) 46 A (0,0) _ k1 Tryz.underlying46 rfl i33 ?_)
 refine C.mono ?_
 rintro e V2 ⟨rfl,hb⟩
 go_wp2_with fail
 go_ret
 exact ⟨rfl,HB.out.trans (hb.mono HB.out.size)⟩
end Go.Proofs.YtdigofgjhaakmaaGreatDoor
namespace Go.Proofs.YtdigofgjhaakmaaGreatDoor
open Go.RowKit
open Sm
open Cf
open Df
open Go.Sort
namespace Df
theorem info9:(Tryz.prog.info? 9).map (fun i=>(i.zero,i.size,i.bytes))=some (some (.string ⟨#[]⟩),1,16):=by kernel_rfl
theorem sort_some (blk off cap:Nat) (ss:List (List UInt8)) (w:World) (hH:Holds encStr w blk off ss.toArray) (hblk:blk < w.heap.size) (hsz:ss.length < 4611686018427387904) :
  Calls Tryz.prog 102 #[.slice (some ⟨blk,off,none⟩) ss.length cap] w fun e w' =>
   e=.returned (.tuple #[])∧∃ n os,w'=grow (putRow encStr (Sort.ahead w n) blk off (ss.mergeSort fun x y=>decide (x≤y)).toArray) os :=
 calls_of_every_depth fun D=>AnyS.slices_Sort_string_in Tryz.lays190 D blk off cap ss w hH hblk hsz
theorem sort_none (p:Option Addr) (cap:Nat) (w:World):Calls Tryz.prog 102 #[.slice p 0 cap] w fun e w'=>e=.returned (.tuple #[])∧w'=w :=
 Any.slices_Sort_string_none Tryz.lays190 p cap w
theorem comp_some (blk off cap:Nat) (zs:List (List UInt8)) (w:World) (hH:Holds encStr w blk off zs.toArray) (hsz:zs.length≤9223372036854775807) (hcap:zs.length≤cap) :
  Calls Tryz.prog 103 #[.slice (some ⟨blk,off,none⟩) zs.length cap] w fun e w'=>e=.returned (.slice (some ⟨blk,off,none⟩) (Lib.compact zs).length cap)∧∃ q,w'=putRow encStr (Sort.ahead w q) blk off (Lib.compact zs++List.replicate (zs.length - (Lib.compact zs).length) []).toArray :=
 Any.slices_Compact_string Tryz.lays194 blk off cap zs w hH hsz hcap
theorem comp_none (p:Option Addr) (cap:Nat) (w:World):Calls Tryz.prog 103 #[.slice p 0 cap] w fun e w'=>e=.returned (.slice p 0 cap)∧w'=w :=
 Any.slices_Compact_string_empty Tryz.lays194 p cap w
theorem comp_le (zs:List (List UInt8)):(Lib.compact zs).length≤zs.length:=by
 unfold Lib.compact Lib.compactUpTo
 rw [List.length_map]
 have:=List.length_filter_le (Lib.keeps zs.toArray) (List.range zs.length)
 simpa using this
theorem grow_nil (w:World):grow w #[]=w:=by unfold grow;simp
def NV (V:World) (v:Value) (ns:List (List UInt8)):Prop:=Rw V 1 v (ns.map fun n=>[encStr n])
theorem own_names {V:World} {base g cap n:Nat} {ts ns rs:List (List UInt8)} (h:V.ownsRow base 9 1 (.slice (some ⟨g,0,none⟩) n cap) n (ts.map encStr)) (e:ts=ns++rs) (hn:n=ts.length):NV V (.slice (some ⟨g,0,none⟩) ns.length cap) ns:=by
 have hle:ns.length≤n:=by rw [hn,e,List.length_append];omega
 obtain ⟨hk,hh⟩:=h
 rcases hh with ⟨h0,_⟩ | ⟨g',cap',cur,hv,hbase,hb,h1,h2,h3,h4⟩
 ·cases h0
 cases hv
 refine ⟨some ⟨g,0,none⟩,cap,by rw [List.length_map],by rw [List.length_map];omega,by unfold maxLen at h2;omega,nofun,Or.inr ⟨g,0,rfl,fun i hi j u hj=>?_⟩⟩
 rw [List.length_map] at hi
 have hj':([encStr (ns.getD i [])])[j]? = some u:=by
  rw [←hj]
  simp [List.getD,List.getElem?_eq_getElem hi]
 have hj0:j=0:=by
  have:=(List.getElem?_eq_some_iff.mp hj').1
  simp at this
  exact this
 subst hj0
 simp only [List.getElem?_cons_zero,Option.some.injEq] at hj'
 rw [cell_of hb]
 have h5:(cur.toList.take (n * 1))[i]? = (ts.map encStr)[i]?:=by rw [h4]
 rw [List.getElem?_take_of_lt (by omega)] at h5
 rw [←Array.getElem?_toList]
 simp only [Nat.mul_one,Nat.zero_add,Nat.add_zero] at h5 ⊢
 rw [h5,e,← hj']
 rw [List.map_append,List.getElem?_append_left (by rw [List.length_map];exact hi)]
 simp [List.getD,List.getElem?_eq_getElem hi]
theorem ended {w wr:World} {b n:Nat} {M:List Tv} {left:Lit→Bool} {ss:List (List UInt8)} (hC:Collected (DM M) left ss) (h:MV wr b n M) (hl:∀ kl,left kl=false) (x:List UInt8):x∈ss ↔ x∈M.map fk:=by
 have:=hC.perm h.1 law9 Tryz.underlying9 hl
 rw [dm_keys] at this
 exact this.mem_iff
theorem names_any {w:World} {v:Value} {gs:List (Nat×Nat×List Tv)} (hr:Rw w 1 v (gs.map fun p=>[.map (some p.1)])) (hm:∀ p∈gs,MV w p.1 p.2.1 p.2.2) (hk:gs.length≤2) (hn:∀ p∈gs,p.2.1≤10000) (ns:List (List UInt8)) (hns:Srt id ns) (hmem:∀ x,x∈ns ↔ ∃ p∈gs,x∈p.2.2.map fk) :
  Calls Tryz.prog 78 #[v] w fun e V=>∃ a c,e=.returned (.slice a ns.length c)∧NV V (.slice a ns.length c) ns∧Below w.heap.size w V:=by
 have hr0:=hr
 obtain ⟨sa,sc,rfl,hlc,hcb,-⟩:=hr0
 rw [List.length_map] at hlc hr ⊢
 have HX:Hid (∀ i (hi:i < gs.length),(∃ b off,sa=some ⟨b,off,none⟩∧∀ V,Below w.heap.size w V→V.cell? ⟨b,off+i,none⟩=some (.map (some gs[i].1)))∧MV w gs[i].1 gs[i].2.1 gs[i].2.2∧gs[i].2.1≤10000):=by
  intro i hi
  have hz:=List.getElem_mem hi
  obtain ⟨b,off,e1,hc⟩:=rw_at hr i (by rw [List.length_map];exact hi)
  refine ⟨⟨b,off,e1,fun V hV=>?_⟩,hm _ hz,hn _ hz⟩
  have:=hc 0 (.map (some gs[i].1)) (by simp [List.getD,List.getElem?_eq_getElem hi])
  rw [Nat.mul_one,Nat.add_zero] at this
  rw [hV.cell (p:=⟨b,off+i,none⟩) (cell_lt this)]
  exact this
 have HT:Hid (∀ i (hi:i < gs.length) (x:List UInt8),(∃ p∈gs.take (i+1),x∈p.2.2.map fk) ↔ ((∃ p∈gs.take i,x∈p.2.2.map fk)∨x∈gs[i].2.2.map fk)):=by
  intro i hi x
  rw [List.take_add_one,List.getElem?_eq_getElem hi,Option.toList_some]
  simp only [List.mem_append,List.mem_singleton]
  constructor
  ·rintro ⟨p,hp | hp,h⟩
   ·exact Or.inl ⟨p,hp,h⟩
   ·subst hp;exact Or.inr h
  ·rintro (⟨p,hp,h⟩ | h)
   ·exact ⟨p,Or.inl hp,h⟩
   ·exact ⟨_,Or.inr rfl,h⟩
 have HE:Hid (∀ ss:List (List UInt8),(∀ x,x∈ss ↔ ∃ p∈gs.take gs.length,x∈p.2.2.map fk)→Lib.compact (ss.mergeSort (fun x y=>decide (x≤y)))=ns):=by
  intro ss h
  refine names_of hns fun x=>?_
  rw [h x,hmem x,List.take_length]
 have HE0:Hid ((∀ x:List UInt8,¬ ∃ p∈gs.take gs.length,x∈p.2.2.map fk)→ns=[]):=by
  intro h
  rw [List.take_length] at h
  cases hh:ns with
  | nil=>rfl
  | cons x r=>exact absurd ((hmem x).1 (by rw [hh];simp)) (h x)
 clear hr hm hn hmem
 obtain ⟨i0,hi0,hz0,hz1,hz2⟩:=info_parts info9
 obtain ⟨N,hN⟩:∃ N,gs.length=N:=⟨_,rfl⟩
 rw [hN] at HE HE0 hlc hk
 simp only [hN] at HX HT ⊢
 have H0:Hid (w.ownsRow w.heap.size 9 1 (.slice none 0 0) ([]:List (List UInt8)).length (([]:List (List UInt8)).map encStr)∧Below w.heap.size w w):=⟨⟨rfl,Or.inl ⟨rfl,rfl⟩⟩,Below.refl _ _⟩
 go_enter Tryz.func78,Tryz.ntmps78
 go_wp2_with fail
 go_loopw [3,9] (fun u3 u9 w'=>∃ (i:Nat) (ss:List (List UInt8)),i≤N∧u9=.int .i64 i∧Hid (w'.ownsRow w.heap.size 9 1 u3 ss.length (ss.map encStr)∧ss.length≤10000 * i∧(∀ x,x∈ss ↔ ∃ p∈gs.take i,x∈p.2.2.map fk)∧Below w.heap.size w w')) (fun u3 u9 w'=>N - (intOf u9).toNat)
 case atStart=>exact ⟨0,[],Nat.zero_le _,rfl,H0.out.1,Nat.zero_le _,by simp,H0.out.2⟩
 case round =>
  obtain ⟨i,ss,hi,rfl,HR⟩:=hrel
  clear H0
  by_cases hlt:i < N
  ·have h1:(i:Int) < N:=by omega
   obtain ⟨⟨b,off,rfl,hc⟩,hMVw,hnb⟩:=HX.out i hlt
   have hT:=HT.out i hlt
   have hcell:=hc _ HR.out.2.2.2
   have HSS:=HR.out.2.2.1
   have HLL:=HR.out.2.1
   obtain ⟨hrow0,-,-,hbel0⟩:=HR.out
   have hMV:=hMVw.below hbel0 (Nat.le_refl _)
   have hbl:=hMVw.1.lt
   clear HX HT HE HE0 hc hMVw HR
   generalize hge:gs[i]'(by omega)=ge at *
   obtain ⟨bm,nm,M⟩:=ge
   simp only at hcell hMV hbl hT hnb
   obtain ⟨gr,hgr⟩:∃ g,wr.heap.size=g:=⟨_,rfl⟩
   have hml:=hMV.size
   go_wp2_with (first | (at_range;refine wpList_range_own _ rfl _ 138 rfl 9 46 law9 Tryz.underlying138 _ bm nm (DM M) rfl hMV.1 ?_;intro w0 hrg0 hg0 hs0) | fail)
   go_frame
   have hsz0:=hbel0.size
   have hsz:Go.Maps.size (DM M)=M.length:=by simp [DM,Go.Maps.size]
   rw [hgr] at hrg0 hsz0
   have HA:Hid (w0.ranges Tryz.prog 9 RH bm gr nm (DM M) (Go.Maps.has (DM M)) (Go.Maps.size (DM M))∧w0.ownsRow w.heap.size 9 1 u3 (ss++[]).length ((ss++[]).map encStr)∧Below w.heap.size w w0):=by
    refine ⟨hrg0,by rw [List.append_nil];exact hrow0.kept hg0 (by cases hbk:u3.ownBlock with | none=>exact Or.inl rfl | some k=>exact Or.inr (by simp)),hbel0.grown hg0 (by rw [hgr];exact hsz0) (fun j hj=>by cases hj)⟩
   simp only [hgr]
   clear hrg0 hg0 hs0 hrow0 hcell
   go_loopw [3] (fun v3 w'=>∃ (left:Lit→Bool) (cnt:Nat) (tt:List (List UInt8)),Hid (w'.ranges Tryz.prog 9 RH bm gr nm (DM M) left cnt∧tt.length+cnt≤M.length∧w'.ownsRow w.heap.size 9 1 v3 (ss++tt).length ((ss++tt).map encStr)∧Collected (DM M) left tt∧Below w.heap.size w w')) (fun _ w'=>w'.rangeLeft bm gr)
   case atStart=>exact ⟨_,_,[],HA.out.1,by rw [hsz];simp,HA.out.2.1,Collected.start _,HA.out.2.2⟩
   case round =>
    obtain ⟨left,cnt,tt,HR⟩:=hrel
    clear HA
    obtain ⟨hrg,hcs,hrow,hC,hnx⟩:=HR.out
    clear HR
    go_wp2_with (first
     | (at_next;refine wpList_next_ranges _ rfl _ rfl 9 law9 RH encStr id (fun key kl hk=>by obtain ⟨x,hx,_⟩:=Maps.keyOf_str Tryz.underlying9 hk;exact ⟨x,hx⟩) (fun v y hv=>⟨v,rfl⟩) bm gr nm _ _ _ rfl hrg ?_ ?_)
     | fail)
    ·intro hc0 hl0
     have HF:Hid (wr.ownsRow w.heap.size 9 1 u3 (ss++tt).length ((ss++tt).map encStr)∧(ss++tt).length≤10000 * (i+1)∧(∀ x,x∈ss++tt ↔ ∃ p∈gs.take (i+1),x∈p.2.2.map fk)∧Below w.heap.size w wr):=by
      refine ⟨hrow,by rw [List.length_append];omega,fun x=>?_,hnx⟩
      rw [List.mem_append,HSS x,hT x,ended (w:=w) hC ⟨hrg.owns,hMV.2⟩ hl0 x]
     clear hrg hrow hC hnx hT HSS hMV hl0
     go_wp2_with fail
     go_roundw
     case rel=>exact ⟨i+1,ss++tt,by omega,by go_num,HF⟩
     case measure=>simp [intOf];omega
    ·intro x c kl yd yp w2 cnt2 hkey hlk hv hat hrg2 hlt2 hg2 hs2 hen
     obtain ⟨x',ex,rfl,_⟩:=Maps.keyOf_str Tryz.underlying9 hkey
     obtain rfl:x=x':=encStr_inj ex
     have hrow2:=hrow.kept hg2 (Or.inr (row_ne_iter hrow hrg).symm)
     clear hs2
     have hlen:(ss++tt).length≤40000:=by rw [List.length_append];omega
     go_wp2_with (first
      | (at_builtin;refine wpList_append_own _ rfl _ _ 140 rfl w.heap.size 9 i0 (.string ⟨#[]⟩) 1 16 Tryz.underlying140 hi0 hz0 hz1 hz2 rfl (by decide) _ _ _ rfl (hrow2.alloc _) ⟨w2.heap.size,0,none⟩ 1 1 [encStr x] rfl rfl (cell_one_new _ _ _) (by simp [Value.oneCell',encStr]) (by unfold maxLen at *;omega) (by omega) (by have:=hnx.size;have:=hg2.size;simp;omega) ?_;intro v' w3 hown' hg3 hnil3)
      | fail)
     have hrg3:=(hrg2.alloc _).kept hg3 (row_ne_low hrow2 hbl) (row_ne_iter hrow2 hrg2)
     have HF:Hid (w3.ranges Tryz.prog 9 RH bm gr nm (DM M) (fun z=>left z && !z.sameKey (.string x)) cnt2∧(tt++[x]).length+cnt2≤M.length∧w3.ownsRow w.heap.size 9 1 v' (ss++(tt++[x])).length ((ss++(tt++[x])).map encStr)∧Collected (DM M) (fun z=>left z && !z.sameKey (.string x)) (tt++[x])∧Below w.heap.size w w3):=by
      refine ⟨hrg3,by simp;omega,by simpa [Nat.add_assoc] using hown',hC.step hlk hat,?_⟩
      exact ((hnx.grown hg2 hnx.size (fun j hj=>by cases hj;omega)).alloc (by have:=hnx.size;have:=hg2.size;omega) _).grown hg3 (by have:=hnx.size;have:=hg2.size;simp;omega) (fun j hj=>(hrow2.lt j hj).1)
     have e1:=hrg3.left_eq
     have e2:=hrg.left_eq
     clear hrg hrow hC hnx hT HSS hMV hrg2 hrg3 hown' hg3 hnil3 hrow2 hlk hat hen hg2 hv
     go_roundw
     case rel=>exact ⟨_,cnt2,tt++[x],HF⟩
     case measure=>rw [e1,e2];exact hlt2
  ·have h1:¬ ((i:Int) < N):=by omega
   obtain rfl:i=N:=by omega
   obtain ⟨hrow,hll,hss,hnx⟩:=HR.out
   clear HX HT HR
   rcases hrow.2 with ⟨rfl,h0⟩ | ⟨g,cap,cur,rfl,hbase,hb,k1,k2,k3,k4⟩
   ·have hs0:ss=[]:=List.eq_nil_of_length_eq_zero h0
    have hns0:ns=[]:=HE0.out fun x hx=>by
     have:=(hss x).2 hx
     rw [hs0] at this
     cases this
    subst hns0
    have HF:Hid (NV wr (.slice none 0 0) []∧Below w.heap.size w wr):=⟨⟨none,0,rfl,Nat.le_refl _,by omega,fun _=>rfl,Or.inl rfl⟩,hnx⟩
    clear hrow hss hnx HE HE0
    go_wp2_with fail
    refine (sort_none none 0 wr).mono ?_
    rintro e w' ⟨rfl,rfl⟩
    go_wp2_with fail
    refine (comp_none none 0 w').mono ?_
    rintro e w'' ⟨rfl,rfl⟩
    go_wp2_with fail
    go_ret
    exact ⟨none,0,rfl,HF.out.1,HF.out.2⟩
   ·have hH:Holds encStr wr g 0 ss.toArray:=holds_of_block hb (by simpa using k4)
    have hgl:g < wr.heap.size:=(Array.getElem?_eq_some_iff.1 hb).1
    have C1:=sort_some g 0 cap ss wr hH hgl (by omega)
    have hcomp:=HE.out ss hss
    have HB:Hid (Below w.heap.size w wr):=hnx
    clear hrow hss hnx HE HE0 hH
    go_wp2_with fail
    refine C1.mono ?_
    rintro e w' ⟨rfl,nn,os,hw'⟩
    clear C1
    have hrow':=ownsRow_sorted (n:=nn) (os:=os) (ss:=ss) (ts:=ss.mergeSort fun x y=>decide (x≤y)) (by simp) hbase hb k1 k2 k3
    have hb':wr.grownBy w' (some g):=by rw [hw'];exact grownBy_sorted _
    rw [←hw'] at hrow'
    clear hw' hb k3 k4
    have hlen:(ss.mergeSort fun x y=>decide (x≤y)).length=ss.length:=List.length_mergeSort ..
    generalize (ss.mergeSort fun x y=>decide (x≤y))=ts at *
    have HB2:Hid (Below w.heap.size w w'):=HB.out.grown hb' HB.out.size (fun j hj=>by cases hj;exact hbase)
    have hrow2:=hrow'
    rcases hrow2.2 with ⟨h0,_⟩ | ⟨g',cap',cur',hv,hbase',hbk,j1,j2,j3,j4⟩
    ·cases h0
    cases hv
    have hH:Holds encStr w' g 0 ts.toArray:=holds_of_block hbk (by rw [hlen];simpa using j4)
    have C2:=comp_some g 0 cap ts w' hH (by omega) (by omega)
    rw [hlen,hcomp] at C2
    have HF:Hid (∀ q V,V=putRow encStr (Sort.ahead w' q) g 0 (ns++List.replicate (ss.length - ns.length) []).toArray→NV V (.slice (some ⟨g,0,none⟩) ns.length cap) ns∧Below w.heap.size w V):=by
     intro q V hV
     have hle:ns.length≤ss.length:=by rw [←hcomp,← hlen];exact comp_le ts
     have hts:(ns++List.replicate (ss.length - ns.length) ([]:List UInt8)).length=ss.length:=by simp;omega
     have o1:=ownsRow_sorted (n:=q) (os:=#[]) (ss:=ss) (ts:=ns++List.replicate (ss.length - ns.length) []) hts hbase hbk j1 j2 j3
     have o2:w'.grownBy (grow (putRow encStr (Sort.ahead w' q) g 0 (ns++List.replicate (ss.length - ns.length) []).toArray) #[]) (some g):=grownBy_sorted _
     rw [grow_nil,← hV] at o1 o2
     exact ⟨own_names o1 rfl hts.symm,HB2.out.grown o2 HB2.out.size (fun j hj=>by cases hj;exact hbase)⟩
    clear hrow' hrow2 hb' HB HB2 hH hbk j3 j4 hcomp
    go_wp2_with fail
    refine C2.mono ?_
    rintro e w'' ⟨rfl,q,hw2⟩
    have HG:=HF.out q w'' hw2
    clear HF hw2 C2
    go_wp2_with fail
    go_ret
    exact ⟨_,_,rfl,HG.1,HG.2⟩
end Df
end Go.Proofs.YtdigofgjhaakmaaGreatDoor
namespace Go.Proofs.YtdigofgjhaakmaaGreatDoor
open Go.RowKit
open Ad
open Sm (IsBytes)
namespace Ad
def fill:Nat→List Int→List (List UInt8)→Option (List Int)
 | _,l,[]=>some l
 | i,l,p::r=>match two p with
  | none=>none
  | some x=>fill (i+1) (l.set i (x:Int)) r
def mac (s:List UInt8):Option (List Int):=if (cut 58 s).length=6 then fill 0 [0,0,0,0,0,0] (cut 58 s) else none
end Ad
abbrev z6:List Int:=[0,0,0,0,0,0]
end Go.Proofs.YtdigofgjhaakmaaGreatDoor
namespace Go.Proofs.YtdigofgjhaakmaaGreatDoor
open Go.RowKit
open Va
open Ad (nam)
theorem unless1_any {W:World} {g h k:Nat} {caps:Array Value} {b:Bool} {e:Int} (hf:Ask W k caps b) (c1:W.cell? ⟨h,0,none⟩=some (.func (.func k) #[] caps)) (c2:W.cell? ⟨g,0,none⟩=some (.int .i64 e)) :
  Rul W 137 #[.pointer (some ⟨h,0,none⟩),.pointer (some ⟨g,0,none⟩)] (ul e b):=by
 refine ⟨enters_of Tryz.func137 (by kernel_rfl) rfl,fun V hV=>?_⟩
 have d1:V.cell? ⟨h,0,none⟩=some (.func (.func k) #[] caps):=by rw [hV.cell (p:=⟨h,0,none⟩) (cell_lt c1)];exact c1
 have HD:Hid (∀ X,Below V.heap.size V X→X.cell? ⟨g,0,none⟩=some (.int .i64 e)):=by
  intro X hX
  have hb:=hV.trans (hX.mono hV.size)
  rw [hb.cell (p:=⟨g,0,none⟩) (cell_lt c2)];exact c2
 have C:=hf.2 V hV
 have eg:∀ args V,(callFunc k args).run Tryz.prog V=.ok (.enter k args) V:=hf.1
 clear hf c1 c2 hV
 simp only [List.append_toArray,List.cons_append,List.nil_append,Array.empty_append]
 simp only [List.append_toArray,List.cons_append,List.nil_append,Array.empty_append] at C
 cases b with
 | true =>
  go_enter Tryz.func137,Tryz.ntmps137
  go_wp2_with fail
  refine C.mono ?_
  rintro _ X ⟨rfl,hb⟩
  clear HD
  go_wp2_with fail
  go_ret
  exact ⟨rfl,hb⟩
 | false =>
  go_enter Tryz.func137,Tryz.ntmps137
  go_wp2_with fail
  refine C.mono ?_
  rintro _ X ⟨rfl,hb⟩
  have d2:=HD.out X hb
  clear HD
  go_wp2_with fail
  go_ret
  exact ⟨rfl,hb⟩
def Mkd (W:World) (r:Int) (e:Ending) (V:World):Prop:=∃ k caps,e=.returned (.func (.func k) #[] caps)∧Rul V k caps r∧Below W.heap.size W V
theorem unless_any {W:World} {k:Nat} {caps:Array Value} {b:Bool} (hf:Ask W k caps b) (e:Int):Calls Tryz.prog 105 #[.int .i64 e,.func (.func k) #[] caps] W (Mkd W (ul e b)):=by
 have hmf:=mkf
 obtain ⟨g,hg⟩:∃ g,W.heap.size=g:=⟨_,rfl⟩
 have hM:=two_blocks' W (.cells #[.int .i64 e] 28) (.cells #[.func (.func k) #[] caps] 23)
 have hr:Rul ((W.alloc (.cells #[.int .i64 e] 28)).alloc (.cells #[.func (.func k) #[] caps] 23)) 137 #[.pointer (some ⟨W.heap.size+1,0,none⟩),.pointer (some ⟨W.heap.size,0,none⟩)] (ul e b):=unless1_any (hf.later hM.below) (hM.cell 0 rfl 0) (hM.cell 1 rfl 0)
 have HR:Hid (Rul ((W.alloc (.cells #[.int .i64 e] 28)).alloc (.cells #[.func (.func k) #[] caps] 23)) 137 #[.pointer (some ⟨W.heap.size+1,0,none⟩),.pointer (some ⟨W.heap.size,0,none⟩)] (ul e b)∧Below W.heap.size W ((W.alloc (.cells #[.int .i64 e] 28)).alloc (.cells #[.func (.func k) #[] caps] 23))):=⟨hr,hM.below⟩
 clear hf hM hr hg
 generalize ul e b=R at *
 go_enter Tryz.func105,Tryz.ntmps105
 go_wp2_with fail
 go_ret
 exact ⟨_,_,rfl,HR.out.1,HR.out.2⟩
theorem when1_any {W:World} {h k:Nat} {caps:Array Value} {b:Bool} (hf:Ask W k caps b) (c1:W.cell? ⟨h,0,none⟩=some (.func (.func k) #[] caps)) :
  Ask W 140 #[.pointer (some ⟨h,0,none⟩)] (!b):=by
 refine ⟨enters_of Tryz.func140 (by kernel_rfl) rfl,fun V hV=>?_⟩
 have d1:V.cell? ⟨h,0,none⟩=some (.func (.func k) #[] caps):=by rw [hV.cell (p:=⟨h,0,none⟩) (cell_lt c1)];exact c1
 have C:=hf.2 V hV
 have eg:∀ args V,(callFunc k args).run Tryz.prog V=.ok (.enter k args) V:=hf.1
 clear hf c1 hV
 simp only [List.append_toArray,List.cons_append,List.nil_append,Array.empty_append]
 simp only [List.append_toArray,List.cons_append,List.nil_append,Array.empty_append] at C
 go_enter Tryz.func140,Tryz.ntmps140
 go_wp2_with fail
 refine C.mono ?_
 rintro _ X ⟨rfl,hb⟩
 go_wp2_with fail
 go_ret
 exact ⟨rfl,hb⟩
theorem when_any {W:World} {k:Nat} {caps:Array Value} {b:Bool} (hf:Ask W k caps b) (e:Int):Calls Tryz.prog 116 #[.int .i64 e,.func (.func k) #[] caps] W (Mkd W (wn e b)):=by
 have hmf:=mkf
 have hM:Mem W (W.alloc (.cells #[.func (.func k) #[] caps] 23)) [(W.heap.size,.cells #[.func (.func k) #[] caps] 23)]:=(Mem.nil W).push1 rfl
 have C:=unless_any (when1_any (hf.later hM.below) (hM.cell 0 rfl 0)) e
 have HB:Hid (Below W.heap.size W (W.alloc (.cells #[.func (.func k) #[] caps] 23))):=hM.below
 unfold wn
 clear hf hM
 generalize ul e (!b)=R at *
 go_enter Tryz.func116,Tryz.ntmps116
 go_wp2_with fail
 refine C.mono ?_
 rintro _ X ⟨k2,cs2,rfl,hr,hb⟩
 have HR:Hid (Rul X k2 cs2 R∧Below W.heap.size W X):=⟨hr,HB.out.trans (hb.mono HB.out.size)⟩
 clear hr hb HB C
 go_wp2_with fail
 go_ret
 exact ⟨_,_,rfl,HR.out.1,HR.out.2⟩
theorem fnz_drop {es:List Int} {i:Nat} (hi:i < es.length) (h0:es.getD i 0=0):fnz (es.drop i)=fnz (es.drop (i+1)):=by
 rw [List.drop_eq_getElem_cons hi,fnz_yes]
 simpa [List.getD,List.getElem?_eq_getElem hi] using h0
theorem fnz_at {es:List Int} {i:Nat} (hi:i < es.length) (h0:es.getD i 0≠0):fnz (es.drop i)=es.getD i 0:=by
 rw [List.drop_eq_getElem_cons hi,fnz_no]
 ·simp [List.getD,List.getElem?_eq_getElem hi]
 ·simpa [List.getD,List.getElem?_eq_getElem hi] using h0
theorem first_any {W:World} {g n:Nat} {es:List Int} (hn:es.length=n) (hn2:n≤1000) (h:∀ i,i < n→∃ k caps,W.cell? ⟨g,i,none⟩=some (.func (.func k) #[] caps)∧Rul W k caps (es.getD i 0)) :
  Calls Tryz.prog 82 #[.slice (some ⟨g,0,none⟩) n n] W fun e V=>e=.returned (.int .i64 (fnz es))∧Below W.heap.size W V:=by
 have HX:Hid (∀ i,i < n→∃ k caps,W.cell? ⟨g,i,none⟩=some (.func (.func k) #[] caps)∧Rul W k caps (es.getD i 0)):=h
 have HN:Hid (∀ i,i < n→es.getD i 0=0→fnz (es.drop i)=fnz es→fnz (es.drop (i+1))=fnz es):=fun i hi h0 h1=>by rw [←fnz_drop (by omega) h0];exact h1
 have HY:Hid (∀ i,i < n→es.getD i 0≠0→fnz (es.drop i)=fnz es→fnz es=es.getD i 0):=fun i hi h0 h1=>by rw [←h1];exact fnz_at (by omega) h0
 have HE:Hid (fnz (es.drop n)=fnz es→fnz es=0):=fun h1=>by rw [←h1,List.drop_eq_nil_of_le (by omega)];rfl
 have H0:Hid (fnz (es.drop 0)=fnz es∧Below W.heap.size W W):=⟨rfl,Below.refl _ _⟩
 clear h hn
 generalize fnz es=R at *
 go_enter Tryz.func82,Tryz.ntmps82
 go_wp2_with fail
 go_loopw [8] (fun u8 w'=>∃ i:Nat,i≤n∧u8=.int .i64 i∧Hid (fnz (es.drop i)=R∧Below W.heap.size W w')) (fun u8 w'=>n - (intOf u8).toNat)
 case atStart=>exact ⟨0,Nat.zero_le _,rfl,H0⟩
 case round =>
  obtain ⟨i,hi,rfl,HR⟩:=hrel
  by_cases hlt:i < n
  ·have h1:(i:Int) < n:=by omega
   obtain ⟨k,caps,c0,hr⟩:=HX.out i hlt
   have hbw:=HR.out.2
   have d0:wr.cell? ⟨g,i,none⟩=some (.func (.func k) #[] caps):=by rw [hbw.cell (p:=⟨g,i,none⟩) (cell_lt c0)];exact c0
   have C:=hr.2 wr hbw
   have eg:∀ args V,(callFunc k args).run Tryz.prog V=.ok (.enter k args) V:=hr.1
   simp only [List.append_toArray,List.cons_append,List.nil_append,Array.empty_append] at C
   have HN1:Hid (es.getD i 0=0→fnz (es.drop (i+1))=R):=fun h0=>HN.out i hlt h0 HR.out.1
   have HY1:Hid (es.getD i 0≠0→R=es.getD i 0):=fun h0=>HY.out i hlt h0 HR.out.1
   have HB:Hid (Below W.heap.size W wr):=hbw
   clear HX HN HY HE H0 HR hr hbw c0
   generalize es.getD i 0=x at *
   by_cases hx:x=0
   ·have hq:=HN1.out hx
    subst hx
    go_wp2_with fail
    refine C.mono ?_
    rintro _ X ⟨rfl,hb⟩
    have HF:Hid (fnz (es.drop (i+1))=R∧Below W.heap.size W X):=⟨hq,HB.out.trans (hb.mono HB.out.size)⟩
    clear hq hb C HB HN1 HY1 d0
    go_wp2_with fail
    go_roundw
    case rel=>exact ⟨i+1,by omega,by go_num,HF⟩
    case measure=>simp [intOf];omega
   ·obtain rfl:=HY1.out hx
    have hx2:(R != 0)=true:=by simp [hx]
    go_wp2_with fail
    refine C.mono ?_
    rintro _ X ⟨rfl,hb⟩
    have HF:Hid (Below W.heap.size W X):=HB.out.trans (hb.mono HB.out.size)
    clear hb C HB HN1 HY1 d0
    go_wp2_with fail
    go_ret
    exact ⟨rfl,HF.out⟩
  ·have h1:¬ ((i:Int) < n):=by omega
   obtain rfl:i=n:=by omega
   obtain rfl:=HE.out HR.out.1
   have HB:Hid (Below W.heap.size W wr):=HR.out.2
   clear HX HN HY HE H0 HR
   go_wp2_with fail
   go_ret
   exact ⟨rfl,HB.out⟩
end Go.Proofs.YtdigofgjhaakmaaGreatDoor
namespace Go.Proofs.YtdigofgjhaakmaaGreatDoor
open Go.RowKit
open Sm
open Cf
open Df
namespace Df
abbrev Hv:=Chg×Value×Value×Value
def yc (y:Hv):List Value:=hc y.1 y.2.1 y.2.2.1 y.2.2.2
def yz (y:Hv):Tv:=(y.1.t,y.2)
theorem yc_eq (y:Hv):yc y=.bool y.1.put::.string y.1.name::zc (yz y):=rfl
theorem yc_len {y:Hv} (h:TLen y.1.t):(yc y).length=35:=by
 have:=tc_len h y.2.1 y.2.2.1 y.2.2.2
 rw [yc_eq]
 simp only [List.length_cons]
 show (tc y.1.t y.2.1 y.2.2.1 y.2.2.2).length+1+1=35
 omega
theorem yc_ne {ys:List Hv}:∀ x∈ys.map yc,x≠[]:=by
 intro x hx
 obtain ⟨y,-,rfl⟩:=List.mem_map.mp hx
 simp [yc_eq]
structure YV (w:World) (v:Value) (ys:List Hv):Prop where
 row:Rw w 35 v (ys.map yc)
 each:∀ y∈ys,TLen y.1.t∧Rws w (yz y)
theorem YV.at_ {w V:World} {v:Value} {ys:List Hv} (h:YV w v ys) (hb:Below w.heap.size w V):YV V v ys:=⟨h.row.below yc_ne hb (Nat.le_refl _),fun y hy=>⟨(h.each y hy).1,Rws.at_ (h.each y hy).2 hb⟩⟩
theorem yc_all {w:World} {y:Hv} (h:Rws w (yz y)):(yc y).toArray.all (·.oneCell')=true:=by
 have:=zc_all h
 rw [Array.all_eq_true_iff_forall_mem] at this ⊢
 intro x hx
 rw [yc_eq] at hx
 simp only [List.mem_toArray,List.mem_cons] at hx
 rcases hx with rfl | rfl | hx
 ·rfl
 ·rfl
 ·exact this x (by simpa using hx)
theorem YV.parts {w:World} {v:Value} {ys:List Hv} (h:YV w v ys):∃ sa sc,v=.slice sa ys.length sc∧ys.length≤sc∧sc≤9223372036854775807∧∀ i (hi:i < ys.length),∃ b off,sa=some ⟨b,off,none⟩∧∀ V,Below w.heap.size w V→V.rangeAt b (off+i * 35) (yc ys[i]):=by
 obtain ⟨hr,hq⟩:=h
 have hrr:=hr
 obtain ⟨sa,sc,rfl,hl,hb,-⟩:=hrr
 rw [List.length_map] at hl hr ⊢
 refine ⟨sa,sc,rfl,hl,hb,fun i hi=>?_⟩
 obtain ⟨b,off,e1,hc⟩:=rw_at hr i (by rw [List.length_map];exact hi)
 refine ⟨b,off,e1,fun V hV j u hj=>?_⟩
 have hx:(ys.map yc).getD i []=yc ys[i]:=by simp [List.getD,List.getElem?_eq_getElem hi]
 rw [hx] at hc
 have h:=hc j u hj
 rw [hV.cell (p:=⟨b,off+i * 35+j,none⟩) (cell_lt h)]
 exact h
def stz (M:List Tv) (y:Hv):List Tv:=if y.1.put then put fk (yz y) true M else del fk y.1.name.data.toList M
def apz (zs:List Tv) (ys:List Hv):List Tv:=ys.foldl stz (byn fk zs)
theorem stz_fst (M:List Tv) (y:Hv):(stz M y).map Prod.fst=stp (M.map Prod.fst) y.1:=by
 unfold stz stp
 split
 ·exact map_put (f:=fk) (g:=nk) (h:=Prod.fst) (fun _=>rfl) (yz y) true M
 ·exact map_del (f:=fk) (g:=nk) (h:=Prod.fst) (fun _=>rfl) _ M
theorem stzs_fst (ys:List Hv):∀ M:List Tv,(ys.foldl stz M).map Prod.fst=(ys.map Prod.fst).foldl stp (M.map Prod.fst):=by
 induction ys with
 | nil=>intro M;rfl
 | cons y ys ih=>intro M;rw [List.foldl_cons,ih,stz_fst];rfl
theorem byz_fst (zs:List Tv):(byn fk zs).map Prod.fst=byn nk (zs.map Prod.fst):=map_byn (f:=fk) (g:=nk) (h:=Prod.fst) (fun _=>rfl) zs
theorem apz_fst (zs:List Tv) (ys:List Hv):(apz zs ys).map Prod.fst=app (zs.map Prod.fst) (ys.map Prod.fst):=by
 unfold apz app
 rw [stzs_fst,byz_fst]
theorem apz_take {zs:List Tv} {ys:List Hv} {i:Nat} (hi:i < ys.length):apz zs (ys.take (i+1))=stz (apz zs (ys.take i)) ys[i]:=by
 unfold apz
 rw [List.take_add_one,List.getElem?_eq_getElem hi,Option.toList_some,List.foldl_append]
 rfl
theorem mem_stz {M:List Tv} {y:Hv} {x:Tv} (h:x∈stz M y):x∈M∨x=yz y:=by
 unfold stz at h
 split at h
 ·rcases mem_put h with h | h
  ·exact Or.inr h
  ·exact Or.inl h
 ·exact Or.inl (mem_del.1 h).1
theorem mem_apz {zs:List Tv} {ys:List Hv} {x:Tv} (h:x∈apz zs ys):x∈zs∨∃ y∈ys,x=yz y:=by
 unfold apz at h
 have key:∀ (ys:List Hv) (M:List Tv),x∈ys.foldl stz M→x∈M∨∃ y∈ys,x=yz y:=by
  intro ys
  induction ys with
  | nil=>intro M h;exact Or.inl h
  | cons y ys ih =>
   intro M h
   rcases ih _ h with h | ⟨z,hz,e⟩
   ·rcases mem_stz h with h | h
    ·exact Or.inl h
    ·exact Or.inr ⟨y,by simp,h⟩
   ·exact Or.inr ⟨z,by simp [hz],e⟩
 rcases key ys _ h with h | h
 ·exact Or.inl (mem_byn h)
 ·exact Or.inr h
theorem _root_.Go.Proofs.YtdigofgjhaakmaaGreatDoor.Ow.join {w W V:World} {e:TypeId} {sz n:Nat} {v:Value} {xs:List Value} {L K:List (Nat×Obj)} (h:Ow w W e sz v n xs L) (k:Mem W V K):Ow w V e sz v n xs (L++K):=by
 refine ⟨h.1,?_⟩
 rcases h.2 with ⟨rfl,rfl,hm⟩ | ⟨g,cap,cur,rfl,hm,r⟩
 ·exact Or.inl ⟨rfl,rfl,hm.join k⟩
 ·exact Or.inr ⟨g,cap,cur,rfl,hm.join k,r⟩
theorem ow_ten {w W V:World} {v:Value} {xs:List Tv} {C C':List (Nat×Obj)} {z:Tv} (hO:Ow w W 46 33 v xs.length (xs.map zc).flatten C) (hZ:∀ z∈xs,ZB z C) (hM:Mem W V C') (hz:ZB z C') (hn:xs.length≤100000) {gs:Nat} (hg:V.heap.size=gs) :
  ∃ a m c V',(Builtin.append_ #[37,37] 37 #[v,.slice (some ⟨gs,0,none⟩) 1 1]).run Tryz.prog (V.alloc (.cells (zc z).toArray 46))=.ok (.slice a m c) V' ∧
   Ow w V' 46 33 (.slice a m c) (xs++[z]).length ((xs++[z]).map zc).flatten (C++C')∧∀ y∈xs++[z],ZB y (C++C'):=by
 subst hg
 have h1:=(hO.join hM).after ((Below.refl V.heap.size V).alloc (Nat.le_refl _) (.cells (zc z).toArray 46))
 obtain ⟨v',V',hr,hO'⟩:=ow_append (ty:=37) Tryz.underlying37 infoT (by kernel_rfl) (by decide) h1 ⟨V.heap.size,0,none⟩ 1 1 (zc z) (by rw [show (zc z).length=33 from tc_len hz.1 _ _ _]) (fun j u hj=>by
  rw [Addr.add_mid,Nat.zero_add,World.cell?_alloc_new]
  simpa using hj) (zb_one hz) (by unfold maxLen;omega) (by omega)
 obtain ⟨B,hB,-⟩:=hO'.owb
 obtain ⟨a,m,c,rfl⟩:=owb_slice hB
 refine ⟨a,m,c,V',hr,?_,fun y hy=>?_⟩
 ·rw [List.length_append,List.map_append,List.flatten_append]
  simpa using hO'
 ·rcases List.mem_append.1 hy with hy | hy
  ·exact (hZ y hy).more fun x hx=>by simp [hx]
  ·rw [List.mem_singleton] at hy
   subst hy
   exact hz.more fun x hx=>by simp [hx]
end Df
namespace Df
def Nf (t:Ten):Prop:=t.name.size≤1000000∧TFew t
theorem one_map {w:World} {g:Nat} (h:Below w.heap.size w w):Rw (w.alloc (.cells #[.map (some g)] 138)) 1 (.slice (some ⟨w.heap.size,0,none⟩) 1 1) [[.map (some g)]]:=by
 refine ⟨some ⟨w.heap.size,0,none⟩,1,rfl,Nat.le_refl _,by omega,nofun,Or.inr ⟨w.heap.size,0,rfl,fun i hi j u hj=>?_⟩⟩
 have hi0:i=0:=by simp at hi;exact hi
 subst hi0
 have hj0:j=0:=by
  have:=(List.getElem?_eq_some_iff.mp hj).1
  simp [List.getD] at this
  exact this
 subst hj0
 rw [World.cell?_alloc_new]
 simpa [List.getD] using hj
theorem vat_at {M:List Tv} (h:Srt fk M) {j:Nat} (hj:j < M.length):vat M (fk M[j])=tv M[j]:=by
 unfold vat
 rw [look_mem h (List.getElem_mem hj)]
theorem enc_name (z:Tv):encStr (fk z)=.string z.1.name:=by
 show Value.string ⟨(nk z.1).toArray⟩=_
 rw [nk_name]
theorem apply_own {w:World} {v u:Value} {zs:List Tv} {ys:List Hv} (hz:ZV w v zs) (hy:YV w u ys) (hzn:∀ z∈zs,Nf z.1) (hyn:∀ y∈ys,Nf y.1.t∧y.1.name.size≤1000000) (hm:zs.length≤1000) (hk:ys.length≤1000) :
  Calls Tryz.prog 55 #[v,u] w fun e V=>∃ r,e=.returned r∧∃ B C,TsB r (app (zs.map Prod.fst) (ys.map Prod.fst)) B C∧Mem w V (B++C):=by
 have CB:=byName_any hz (fun z h=>(hzn z h).1) hm
 obtain ⟨za,zk,rfl,-,-,-⟩:=hz.parts
 obtain ⟨sa,sc,rfl,hlc,hcb,hx⟩:=hy.parts
 have HX:Hid (∀ i (hi:i < ys.length),(∃ b off,sa=some ⟨b,off,none⟩∧∀ V,Below w.heap.size w V→V.rangeAt b (off+i * 35) (yc ys[i]))∧TLen ys[i].1.t∧(yc ys[i]).toArray.all (·.oneCell')=true∧ys[i].1.t.name.size≤maxLen∧ys[i].1.name.size≤maxLen):=by
  intro i hi
  have hm:=List.getElem_mem hi
  have:=hyn _ hm
  exact ⟨hx i hi,(hy.each _ hm).1,yc_all (hy.each _ hm).2,by have:=this.1.1;unfold maxLen;omega,by have:=this.2;unfold maxLen;omega⟩
 have HT:Hid (∀ i (hi:i < ys.length),apz zs (ys.take (i+1))=stz (apz zs (ys.take i)) ys[i]):=fun i hi=>apz_take hi
 have HT0:Hid (apz zs (ys.take ys.length)=apz zs ys):=by show _=_;rw [List.take_length]
 have HM:Hid (∀ z∈apz zs ys,TLen z.1∧Rws w z∧TFew z.1∧z.1.name.size≤maxLen):=by
  intro z h
  rcases mem_apz h with h | ⟨y,h1,e⟩
  ·exact ⟨(hz.each z h).1,(hz.each z h).2,(hzn z h).2,by have:=(hzn z h).1;unfold maxLen;omega⟩
  ·subst e
   exact ⟨(hy.each y h1).1,(hy.each y h1).2,(hyn y h1).1.2,by have:=(hyn y h1).1.1;show y.1.t.name.size≤_;unfold maxLen;omega⟩
 have HR0:Hid ((apz zs ys).map Prod.fst=app (zs.map Prod.fst) (ys.map Prod.fst)):=apz_fst zs ys
 rw [←HR0.out]
 clear hx hz hy hzn hyn HR0
 obtain ⟨N,hN⟩:∃ N,zs.length=N:=⟨_,rfl⟩
 obtain ⟨K,hK⟩:∃ K,ys.length=K:=⟨_,rfl⟩
 rw [hN] at CB hm ⊢
 rw [hK] at HT0 hlc hk
 simp only [hK] at HX HT ⊢
 go_enter Tryz.func55,Tryz.ntmps55
 go_wp2_with fail
 refine CB.mono ?_
 rintro e V0 ⟨g,rfl,hgw,hMV0,hb0⟩
 have HV0:Hid (MV V0 g (N+0) (apz zs (ys.take 0))∧Below w.heap.size w V0):=⟨hMV0,hb0⟩
 clear CB hMV0 hb0
 go_wp2_with fail
 go_loopw [15] (fun u15 w'=>∃ i:Nat,i≤K∧u15=.int .i64 i∧Hid (MV w' g (N+i) (apz zs (ys.take i))∧Below w.heap.size w w')) (fun u15 w'=>K - (intOf u15).toNat)
 case atStart=>exact ⟨0,Nat.zero_le _,rfl,HV0⟩
 case round =>
  obtain ⟨i,hi,rfl,HR⟩:=hrel
  clear HV0
  by_cases hlt:i < K
  ·have h1:(i:Int) < K:=by omega
   obtain ⟨⟨b,off,rfl,hV⟩,hl,ho,hs,hs'⟩:=HX.out i hlt
   have hra:=hV _ HR.out.2
   have hT:=HT.out i hlt
   clear hV HX HT HT0 HM
   generalize hye:ys[i]'(by omega)=y at *
   obtain ⟨M,hMe⟩:∃ M,apz zs (ys.take i)=M:=⟨_,rfl⟩
   rw [hMe] at HR hT
   clear hMe
   have hi35:(Tryz.prog.info? 48).map (·.size)=some (yc y).length:=by rw [yc_len hl];kernel_rfl
   have hj35:(Tryz.prog.info? 48).map (·.size)=some (yc y).toArray.size:=by rw [List.size_toArray,yc_len hl];kernel_rfl
   have hs35:hz0.size=(yc y).toArray.size:=by rw [show (yc y).toArray.size=35 by rw [List.size_toArray];exact yc_len hl];rfl
   obtain ⟨gt,hgt⟩:∃ g,wr.heap.size=g:=⟨_,rfl⟩
   have hk1:(wr.alloc (.cells hz0 48)).heap[gt]? = some (.cells hz0 48):=by rw [←hgt];exact heap_alloc_new _ _
   have HF:Hid (Mem wr ((wr.alloc (.cells hz0 48)).setRow gt (yc y).toArray) [(gt,.cells (yc y).toArray 48)]):=by
    rw [←hgt,World.setRow_alloc_new]
    exact (Mem.nil wr).push1 rfl
   go_upto_region 5 with (first | (refine wpList_load_mid rfl 48 (.tmp 17) (by with_reducible rfl) b (off+i * 35) (by simp [Act.eval]) (yc y) _ hra Tryz.underlying48 rfl hi35 ?_) | (refine wpList_store_row rfl 48 (.tmp 7) (.tmp 18) (by with_reducible rfl) gt (yc y).toArray (by simp [Act.eval];try exact hgt) (by first | rfl | simp [Act.eval]) 48 hz0 hk1 hj35 hs35 ho ?_) | fail)
   refine wp_letter (fun X=>Mem wr X [(gt,.cells (yc y).toArray 48)]) (by exact HF.out) ?_
   intro V1 hM1
   try simp only [hgt]
   clear HF hk1 hra hi35 hj35 hs35 ho
   have hMV1:MV V1 g (N+i) M:=HR.out.1.below hM1.below (Nat.le_refl _)
   have hc0:V1.cell? ⟨gt,0,none⟩=some (.bool y.1.put):=by rw [hM1.cell 0 rfl];rfl
   have hc1:V1.cell? ⟨gt,1,none⟩=some (.string y.1.name):=by rw [hM1.cell 0 rfl];rfl
   have hc2:V1.cell? ⟨gt,2,none⟩=some (.string y.1.t.name):=by rw [hM1.cell 0 rfl];rfl
   have hra2:V1.rangeAt gt 2 (zc (yz y)):=fun j x hj=>by
    rw [hM1.cell 0 rfl,List.getElem?_toArray,yc_eq]
    rw [show 2+j=j+1+1 by omega,List.getElem?_cons_succ,List.getElem?_cons_succ]
    exact hj
   have HB1:Hid (Below w.heap.size w V1):=HR.out.2.trans (hM1.below.mono HR.out.2.size)
   have hil:N+i < maxLen:=by unfold maxLen;omega
   have hi33:(Tryz.prog.info? 46).map (·.size)=some (zc (yz y)).length:=by rw [show (zc (yz y)).length=33 from tc_len hl _ _ _];kernel_rfl
   clear hM1 HR
   by_cases hp:y.1.put=true
   ·rw [hp] at hc0
    have HF:Hid (∀ W,MV W g (N+i+1) (put fk (yz y) true M)→V1.grownBy W (some g)→MV W g (N+(i+1)) (apz zs (ys.take (i+1)))∧Below w.heap.size w W):=by
     intro W k1 k2
     refine ⟨by rw [hT,stz,if_pos hp];exact k1,HB1.out.grown k2 HB1.out.size (fun j hj=>by cases hj;exact hgw)⟩
    clear HB1 hT
    go_wp2_with (first | (refine wpList_load_mid rfl 46 (.tmp 25) (by with_reducible rfl) gt 2 (by simp [Act.eval]) (zc (yz y)) _ hra2 Tryz.underlying46 rfl hi33 ?_) | (at_mapUpdate;refine wp_store rfl _ _ _ rfl (b:=g) (n:=N+i) (M:=M) (by first | rfl | simp [Act.eval]) hMV1 hil (yz y) hs (by first | rfl | simp [Act.eval,yz]) (by first | rfl | simp [Act.eval,tv]) ?_;intro W hW1 hW2) | fail)
    have HF2:=HF.out W hW1 hW2
    clear HF hW1 hW2 hMV1 hra2
    go_roundw
    case rel=>exact ⟨i+1,by omega,by go_num,HF2⟩
    case measure=>simp [intOf];omega
   ·have hp':y.1.put=false:=by simpa using hp
    rw [hp'] at hc0
    have HF:Hid (∀ W,MV W g (N+i) (del fk y.1.name.data.toList M)→V1.grownBy W (some g)→MV W g (N+(i+1)) (apz zs (ys.take (i+1)))∧Below w.heap.size w W):=by
     intro W k1 k2
     refine ⟨by rw [hT,stz,if_neg hp];exact k1.mono (by omega),HB1.out.grown k2 HB1.out.size (fun j hj=>by cases hj;exact hgw)⟩
    clear HB1 hT
    go_wp2_with (first | (at_delete;refine wp_drop rfl _ _ rfl (b:=g) (n:=N+i) (M:=M) (by first | rfl | simp [Act.eval]) hMV1 (s:=y.1.name) hs' (by first | rfl | simp [Act.eval]) ?_;intro W hW1 hW2) | fail)
    have HF2:=HF.out W hW1 hW2
    clear HF hW1 hW2 hMV1 hra2
    go_roundw
    case rel=>exact ⟨i+1,by omega,by go_num,HF2⟩
    case measure=>simp [intOf];omega
  ·have h1:¬ ((i:Int) < K):=by omega
   obtain rfl:i=K:=by omega
   have hMV:=HR.out.1
   have hbel:=HR.out.2
   rw [HT0.out] at hMV
   clear HX HT HT0 HR
   obtain ⟨M,hMe⟩:∃ M,apz zs ys=M:=⟨_,rfl⟩
   rw [hMe] at hMV HM
   have HMe:Hid (apz zs ys=M):=hMe
   clear hMe
   have hle:=hMV.size
   have hM1:MV (wr.alloc (.cells #[.map (some g)] 138)) g (N+i) M:=hMV.below ((Below.refl wr.heap.size wr).alloc (Nat.le_refl _) _) (Nat.le_refl _)
   have CN:=names_any (gs:=[(g,N+i,M)]) (one_map (w:=wr) (g:=g) (Below.refl _ _)) (by intro p hp;rw [List.mem_singleton] at hp;subst hp;exact hM1) (by simp) (by intro p hp;rw [List.mem_singleton] at hp;subst hp;simp;omega) (M.map fk) (List.pairwise_map.2 hMV.2) (by intro x;simp)
   rw [List.length_map] at CN
   have hb1:Below w.heap.size w (wr.alloc (.cells #[.map (some g)] 138)):=hbel.alloc hbel.size _
   have HN:Hid (∀ V a c,NV V (.slice a M.length c) (M.map fk)→Below (wr.alloc (.cells #[.map (some g)] 138)).heap.size (wr.alloc (.cells #[.map (some g)] 138)) V→MV V g (N+i) M∧Below w.heap.size w V∧∀ j (hj:j < M.length),∃ b off,a=some ⟨b,off,none⟩∧∀ X,Below V.heap.size V X→X.cell? ⟨b,off+j,none⟩=some (.string M[j].1.name)):=by
    intro V a c k1 k2
    refine ⟨hM1.below k2 (Nat.le_refl _),hb1.trans (k2.mono hb1.size),fun j hj=>?_⟩
    have k1':Rw V 1 (.slice a M.length c) ((M.map fk).map fun n=>[encStr n]):=k1
    obtain ⟨b,off,e,hc⟩:=rw_at k1' j (by simpa using hj)
    refine ⟨b,off,e,fun X hX=>?_⟩
    have:=hc 0 (.string M[j].1.name) (by simp [List.getD,List.getElem?_eq_getElem hj,enc_name])
    rw [Nat.mul_one,Nat.add_zero] at this
    rw [hX.cell (p:=⟨b,off+j,none⟩) (cell_lt this)]
    exact this
   clear hM1 hb1 hbel
   have hsrt:=hMV.2
   clear hMV
   go_wp2_with fail
   refine CN.mono ?_
   rintro e W0 ⟨na,nc,rfl,hNV,hbN⟩
   obtain ⟨hMV0,hbw,hcell⟩:=HN.out W0 na nc hNV hbN
   clear HN CN hNV hbN
   have HC:Hid (∀ j (hj:j < M.length),∃ b off,na=some ⟨b,off,none⟩∧∀ X,Below W0.heap.size W0 X→X.cell? ⟨b,off+j,none⟩=some (.string M[j].1.name)):=hcell
   have HV0:Hid (MV W0 g (N+i) M∧Below w.heap.size w W0):=⟨hMV0,hbw⟩
   have H0:Hid (Ow W0 W0 46 33 (.slice none 0 0) ([]:List Tv).length ((([]:List Tv)).map zc).flatten []):=Ow.nil (Mem.nil W0)
   have HZ:Hid (∀ j (hj:j < M.length),TLen M[j].1∧TFew M[j].1∧M[j].1.name.size≤maxLen∧Rws W0 M[j]∧vat M M[j].1.name.data.toList=tv M[j]):=by
    intro j hj
    have:=HM.out _ (List.getElem_mem hj)
    exact ⟨this.1,this.2.2.1,this.2.2.2,Rws.at_ this.2.1 hbw,vat_at hsrt hj⟩
   have HT:Hid (∀ j (hj:j < M.length),(M.map Prod.fst).take (j+1)=(M.map Prod.fst).take j++[M[j].1]):=by
    intro j hj
    rw [List.take_add_one,List.getElem?_map,List.getElem?_eq_getElem hj]
    rfl
   have HTE:Hid ((M.map Prod.fst).take M.length=M.map Prod.fst):=by show _=_;rw [List.take_of_length_le (by simp)]
   clear HM hcell hMV0 hbw hsrt
   obtain ⟨L,hL⟩:∃ L,M.length=L:=⟨_,rfl⟩
   rw [hL] at hle HTE
   simp only [hL] at HC HZ HT ⊢
   go_wp2_with fail
   go_loopw [8,35] (fun u8 u35 w'=>∃ (j:Nat) (a:Option Addr) (m c:Nat) (xs:List Tv) (C:List (Nat×Obj)),j≤L∧u35=.int .i64 j∧u8=.slice a m c∧Hid (Ow W0 w' 46 33 (.slice a m c) xs.length (xs.map zc).flatten C∧(∀ z∈xs,ZB z C)∧xs.map Prod.fst=(M.map Prod.fst).take j∧xs.length=j)) (fun u8 u35 w'=>L - (intOf u35).toNat)
   case atStart=>exact ⟨0,none,0,0,[],[],Nat.zero_le _,rfl,rfl,H0.out,by simp,by simp,rfl⟩
   case round =>
    obtain ⟨j,a,m,c,xs,C,hj,rfl,rfl,HR⟩:=hrel
    clear H0
    by_cases hlt2:j < L
    ·have h2:(j:Int) < L:=by omega
     obtain ⟨nb,noff,rfl,hcj⟩:=HC.out j hlt2
     obtain ⟨hO,hZB,hfst,hxl⟩:=HR.out
     have hbW:=hO.mem.below
     have hcell:=hcj _ hbW
     obtain ⟨hl,hf,hs,hr,hv⟩:=HZ.out j hlt2
     have hT:=HT.out j hlt2
     clear hcj HC HZ HT HTE HR
     have hjM:j < M.length:=by omega
     generalize M[j]'hjM=z at *
     have hMV:=HV0.out.1.below hbW (Nat.le_refl _)
     have CC:=copied_any hl (Rws.at_ hr hbW) hf
     have HF:Hid (∀ (z':Tv) (C':List (Nat×Obj)) (V:World),z'.1=z.1→ZB z' C'→Mem wr V C'→(Instr.buildSlice 37 1 #[(0,tv z')]).run Tryz.prog V=.ok (.slice (some ⟨V.heap.size,0,none⟩) 1 1) (V.alloc (.cells (zc z').toArray 46)) ∧
       ∃ a' m' c' V',(Builtin.append_ #[37,37] 37 #[.slice a m c,.slice (some ⟨V.heap.size,0,none⟩) 1 1]).run Tryz.prog (V.alloc (.cells (zc z').toArray 46))=.ok (.slice a' m' c') V' ∧
       Ow W0 V' 46 33 (.slice a' m' c') (xs++[z']).length ((xs++[z']).map zc).flatten (C++C')∧(∀ z∈xs++[z'],ZB z (C++C'))∧(xs++[z']).map Prod.fst=(M.map Prod.fst).take (j+1)∧(xs++[z']).length=j+1):=by
      intro z' C' V k1 k2 k3
      refine ⟨bsliceT z' k2.1 V,?_⟩
      obtain ⟨a',m',c',V',e1,e2,e3⟩:=ow_ten hO hZB k3 k2 (by omega) rfl
      refine ⟨a',m',c',V',e1,e2,e3,?_,by rw [List.length_append,hxl];rfl⟩
      rw [hT,List.map_append,hfst,List.map_singleton,k1]
     clear hO hZB hfst hxl hbW hT hr hf
     go_wp2_with (first | (at_lookup;refine wp_look rfl _ _ rfl (b:=g) (n:=N+i) (M:=M) (by first | rfl | simp [Act.eval]) hMV (s:=z.1.name) hs (by first | rfl | simp [Act.eval]) ?_;rw [hv]) | fail)
     refine CC.mono ?_
     rintro e V1 ⟨z',C',rfl,hz1,hz2,hz3⟩
     obtain ⟨hbs,a',m',c',V2,hr2,hOF⟩:=HF.out z' C' V1 hz1 hz2 hz3
     have HO2:Hid (Ow W0 V2 46 33 (.slice a' m' c') (xs++[z']).length ((xs++[z']).map zc).flatten (C++C')∧(∀ z∈xs++[z'],ZB z (C++C'))∧(xs++[z']).map Prod.fst=(M.map Prod.fst).take (j+1)∧(xs++[z']).length=j+1):=hOF
     clear HF CC hOF hMV hz1 hz2 hz3 hcell
     go_wp2_with (first | (refine wpList_bsl rfl 37 1 #[(0,.tmp 43)] (by with_reducible rfl) hbs (by first | rfl | simp [Act.eval]) ?_) | (at_builtin;refine wpList_append_run (.tmp 39) (.tmp 44) 37 37 (by with_reducible rfl) hr2 rfl rfl (by first | rfl | simp [Act.eval]) (by first | rfl | simp [Act.eval]) ?_) | fail)
     go_roundw
     case rel=>exact ⟨j+1,a',m',c',xs++[z'],C++C',by omega,by go_num,rfl,HO2⟩
     case measure=>simp [intOf];omega
    ·have h2:¬ ((j:Int) < L):=by omega
     obtain rfl:j=L:=by omega
     have HF:Hid (∃ B C,TsB (.slice a m c) ((apz zs ys).map Prod.fst) B C∧Mem w wr (B++C)):=by
      rw [HMe.out]
      obtain ⟨hO,hZB,hfst,hxl⟩:=HR.out
      obtain ⟨B,hB,hM⟩:=hO.owb
      refine ⟨B,C,⟨xs,by rw [hfst,HTE.out],hB,hZB⟩,?_⟩
      exact ⟨HV0.out.2.trans (hM.below.mono HV0.out.2.size),fun x hx=>Nat.le_trans HV0.out.2.size (hM.low x hx),hM.at_,hM.apart⟩
     clear HR HC HZ HT HTE HV0
     go_wp2_with fail
     go_ret
     exact ⟨_,rfl,HF.out⟩
end Df
end Go.Proofs.YtdigofgjhaakmaaGreatDoor
namespace Go.Proofs.YtdigofgjhaakmaaGreatDoor
namespace Ad
open Go.Lib (decDigits)
theorem dec_small {n:Nat} (h:n < 10):decDigits n=[UInt8.ofNat (48+n)]:=Lib.decDigits_one h
theorem dec_big {n:Nat} (h:¬ n < 10):decDigits n=decDigits (n / 10)++[UInt8.ofNat (48+n % 10)]:=by rw [decDigits,dif_neg h]
def ipt (a:Nat):List UInt8:=Lib.join [decDigits (a / 16777216),decDigits (a / 65536 % 256),decDigits (a / 256 % 256),decDigits (a % 256)] [46]
def hex2 (x:Int):List UInt8:=[UInt8.ofNat (hdg (x.toNat / 16)),UInt8.ofNat (hdg (x.toNat % 16))]
def mact (l:List Int):List UInt8:=Lib.join (l.map hex2) [58]
def keyt (l:List Int):List UInt8:=l.flatMap hex2
theorem keyt_len:∀ (l:List Int),(keyt l).length=2 * l.length
 | []=>rfl
 | x::l=>by
  have:=keyt_len l
  simp only [keyt,List.flatMap_cons,List.length_append,List.length_cons] at this ⊢
  simp only [hex2,List.length_cons,List.length_nil];omega
end Ad
end Go.Proofs.YtdigofgjhaakmaaGreatDoor
namespace Go.Proofs.YtdigofgjhaakmaaGreatDoor
open Go.RowKit Go.ChangeShapes Go.WideShapes
open Sm
open Cf
open Df
section
variable {H:Type} {enc:TypeId×Value→H} {W:World} {base:Nat} {held:Bool}
end
end Go.Proofs.YtdigofgjhaakmaaGreatDoor
