/-
  A record: the version and the settings as bytes (state.bytes).
  Which settings may be: the document's own lists.
  Which settings may be: a tenant's rules, its error.
  Settings as text: the program's reader: by what a word's value is told: addr's functions, numbers up to a bound, names, filters.
  Settings as text: the program's reader: the value of a word, of six or eight bytes.
  What is changed: lychlaw15's known is true.
-/
import Derived.Test.YtdigofgjhaakmaaGreatDoorW27
import Derived.Test.YtdigofgjhaakmaaGreatDoorW18
import Derived.Test.YtdigofgjhaakmaaGreatDoorW20
import Derived.BigQuiet
set_option linter.unusedVariables false
set_option linter.unusedSimpArgs false
set_option maxRecDepth 20000
set_option maxHeartbeats 40000000
namespace Go.Proofs.YtdigofgjhaakmaaGreatDoor
open Go.RowKit
open Sm
open Cf
abbrev stS:TypeId:=96
def rcd16 (ver:Int) (c:Cgf):List Int:=be 8 ver++cenc c
theorem cenc_pos (c:Cgf) (hl:CLen c) (ht:∀ t∈c.ten,TLen t):0 < (cenc c).length:=by
 rcases Nat.eq_zero_or_pos (cenc c).length with h | h
 ·have h1:=cdec_back c hl ht
  rw [List.length_eq_zero_iff.mp h] at h1
  exact absurd h1 (by simp only [show cdec []=none by kernel_rfl];exact nofun)
 ·exact h
theorem sbytes_any {w:World} {u:Value} {c:Cgf} {ver:Int} (h:CV w (.agg (cc c u).toArray) c) (hi:CIn c) (ht:∀ t∈c.ten,TIn t) (hv:0≤ver∧ver < 18446744073709551616) (hb:(cenc c).length≤100000000) :
 Calls Tryz.prog 61 #[.agg (.int .u64 ver::cc c u).toArray] w fun e w'=>∃ v,e=.returned v∧Out w w' v (rcd16 ver c) []:=by
 obtain ⟨g,hg⟩:∃ g,w.heap.size=g:=⟨_,rfl⟩
 have hpos:=cenc_pos c hi.len (fun t h=>(ht t h).len)
 obtain ⟨A,hA⟩:∃ A,(Value.int .u64 ver::cc c u).toArray=A:=⟨_,rfl⟩
 have hM0:Mem w (w.alloc (.cells A stS)) [(g,.cells A stS (0,0))]:=(Mem.nil w).push1 hg.symm
 have HO:Hid (Out w (w.alloc (.cells A stS)) (.slice none 0 0) [] [(g,.cells A stS (0,0))]):=Out.nil hM0
 have HC0:Hid (∀ V v l,Out w V v l [(g,.cells A stS (0,0))]→V.cell? ⟨g,0,none⟩=some (.int .u64 ver)∧V.rangeAt g 1 (cc c u)):=by
  intro V v l hO
  have hm:=hO.mem
  refine ⟨by rw [hm.cell 0 rfl,← hA];rfl,fun j x hj=>?_⟩
  rw [hm.cell 0 rfl,← hA,List.getElem?_toArray,Nat.add_comm,List.getElem?_cons_succ]
  exact hj
 have HC1:Hid (∀ V,Below w.heap.size w V→Calls Tryz.prog 88 #[.agg (cc c u).toArray] V fun e w'=>∃ u,e=.returned u∧Out V w' u (cenc c) []):=fun V hV=>cfgConfig_any (h.at_ hV (Nat.le_refl _)) hi ht (by omega)
 have hi29:(Tryz.prog.info? 39).map (·.size)=some (cc c u).length:=by rw [cc_len hi.len];kernel_rfl
 rw [hA]
 clear h hi ht hM0 hA
 generalize cc c u=cl at *
 go_enter Tryz.func61,Tryz.ntmps61
 go_wp2_with fail
 go_loopw [3,5] (fun u3 u5 w'=>∃ i:Nat,i≤8∧u5=.int .i64 i∧Hid (Out w w' u3 ((be 8 ver).take i) [(g,.cells A stS (0,0))])) (fun u3 u5 w'=>8 - (intOf u5).toNat)
 case atStart=>exact ⟨0,Nat.zero_le _,rfl,by simpa using HO⟩
 case round =>
  obtain ⟨i,hi,rfl,HR⟩:=hrel
  clear HO
  by_cases hlt:i < 8
  ·have h1:(i:Int) < 8:=by omega
   obtain ⟨k,hk⟩:∃ k:Nat,8 - 1 - i=k:=⟨_,rfl⟩
   have e2:IntKind.i64.wrap (7 - (i:Int))=(k:Int):=by rw [wrap64n (by omega) (by omega)];omega
   have e3:IntKind.i64.wrap (8 * (k:Int))=8 * (k:Int):=wrap64n (by omega) (by omega)
   have e4:¬ (8 * (k:Int) < 0):=by omega
   have htk:(be 8 ver).take (i+1)=(be 8 ver).take i++[ver / 2 ^ (8 * k) % 256]:=by rw [be_take 8 ver i hlt,hk,pow8]
   have hlen:((be 8 ver).take i).length+1≤1000000000:=by rw [List.length_take,be_len];omega
   have c0:=(HC0.out _ _ _ HR.out).1
   obtain ⟨v1,W1,hr,hO1⟩:=out_one HR.out (ver / 2 ^ (8 * k) % 256) (mod_byte _) hlen 86
   rw [←htk] at hO1
   clear htk hlen HC0 HC1
   go_wp2_with (at_builtin;refine wpList_append_run (.tmp 8) (.tmp 16) 86 86 (by with_reducible rfl) hr rfl rfl (by simp [Act.eval]) (by simp [Act.eval]) ?_)
   go_roundw
   case rel=>exact ⟨i+1,by omega,by go_num,hO1⟩
   case measure=>simp [intOf];omega
  ·have h1:¬ ((i:Int) < 8):=by omega
   obtain rfl:i=8:=by omega
   have hO:=HR.out
   rw [List.take_of_length_le (by rw [be_len];omega)] at hO
   have hra:=(HC0.out _ _ _ hO).2
   have C:=HC1.out _ hO.mem.below
   have HA:Hid (∀ V u,Out wr V u (cenc c) []→∃ a n m v' V',u=.slice a n m∧(Builtin.append_ #[86,86] 86 #[u3,.slice a n m]).run Tryz.prog V=.ok v' V'∧Out w V' v' (rcd16 ver c) []):=by
    intro V u hU
    obtain ⟨a,m,rfl,hs⟩:=hU.sl (by omega)
    obtain ⟨ad,rfl⟩:∃ ad,a=some ad:=by
     cases a with
     | none=>have:=hs.nil rfl;have:=hs.le;omega
     | some ad=>exact ⟨ad,rfl⟩
    obtain ⟨v',V',k1,k2⟩:=out_append (hO.drop.after hU.mem.below) ad (cenc c).length m (cenc c) rfl hs.row (by rw [be_len];omega) 86
    exact ⟨_,_,_,v',V',rfl,k1,k2⟩
   clear hO HR HC0 HC1
   go_wp2_with (refine wpList_load_mid rfl 39 (.tmp 20) (by with_reducible rfl) g 1 (by simp [Act.eval]) cl _ hra Tryz.underlying39 rfl hi29 ?_)
   refine C.mono ?_
   rintro e V ⟨u,rfl,hU⟩
   obtain ⟨a,n,m,v',V',rfl,hr,hO⟩:=HA.out V u hU
   clear HA C hU hra
   go_wp2_with (at_builtin;refine wpList_append_run (.tmp 19) (.tmp 22) 86 86 (by with_reducible rfl) hr rfl rfl (by simp [Act.eval]) (by simp [Act.eval]) ?_)
   go_ret
   exact ⟨_,rfl,hO⟩
end Go.Proofs.YtdigofgjhaakmaaGreatDoor
namespace Go.Proofs.YtdigofgjhaakmaaGreatDoor
open Go.RowKit
open Va
namespace Va
end Va
end Go.Proofs.YtdigofgjhaakmaaGreatDoor
namespace Go.Proofs.YtdigofgjhaakmaaGreatDoor
open Go.RowKit
open Va
open Ad (nam)
inductive RlsL (V:World):List (Nat×Array Value)→List Int→Prop
 | nil:RlsL V [] []
 | cons {k:Nat} {c:Array Value} {e:Int} {ks:List (Nat×Array Value)} {es:List Int} (h:Rul V k c e) (r:RlsL V ks es):RlsL V ((k,c)::ks) (e::es)
theorem RlsL.later {V X:World} (hb:Below V.heap.size V X) {ks:List (Nat×Array Value)} {es:List Int} (h:RlsL V ks es):RlsL X ks es:=by
 induction h with
 | nil=>exact .nil
 | cons h _ ih=>exact .cons (h.later hb) ih
theorem RlsL.snoc {V:World} {ks:List (Nat×Array Value)} {es:List Int} (h:RlsL V ks es) {k:Nat} {c:Array Value} {e:Int} (hr:Rul V k c e):RlsL V (ks++[(k,c)]) (es++[e]):=by
 induction h with
 | nil=>exact .cons hr .nil
 | cons h _ ih=>exact .cons h ih
def fv (p:Nat×Array Value):Value:=.func (.func p.1) #[] p.2
theorem RlsL.at_ {V:World} {ks:List (Nat×Array Value)} {es:List Int} (h:RlsL V ks es):ks.length=es.length∧∀ i,i < es.length→∃ k c,(ks.map fv)[i]? = some (.func (.func k) #[] c)∧Rul V k c (es.getD i 0):=by
 induction h with
 | nil=>exact ⟨rfl,fun i hi=>by simp at hi⟩
 | cons h _ ih =>
  refine ⟨by simp [ih.1],fun i hi=>?_⟩
  cases i with
  | zero=>exact ⟨_,_,rfl,h⟩
  | succ i =>
   obtain ⟨k,c,h1,h2⟩:=ih.2 i (by simpa using hi)
   exact ⟨k,c,by simpa using h1,by simpa [List.getD] using h2⟩
def Rls (W:World) (es:List Int) (e:Ending) (V:World):Prop:=∃ g,e=.returned (.slice (some ⟨g,0,none⟩) es.length es.length)∧(∀ i,i < es.length→∃ k c,V.cell? ⟨g,i,none⟩=some (.func (.func k) #[] c)∧Rul V k c (es.getD i 0))∧Below W.heap.size W V
theorem rls_of {W V:World} {g:Nat} {ks:List (Nat×Array Value)} {es:List Int} {cs:Array Value} (h:RlsL V ks es) (hb:Below W.heap.size W V) (hg:V.heap.size=g) (hc:cs.toList=ks.map fv) :
  (∀ i,i < es.length→∃ k c,(V.alloc (.cells cs 173)).cell? ⟨g,i,none⟩=some (.func (.func k) #[] c)∧Rul (V.alloc (.cells cs 173)) k c (es.getD i 0))∧Below W.heap.size W (V.alloc (.cells cs 173)):=by
 have hb1:Below V.heap.size V (V.alloc (.cells cs 173)):=(Below.refl _ _).alloc (Nat.le_refl _) _
 refine ⟨fun i hi=>?_,hb.trans (hb1.mono hb.size)⟩
 obtain ⟨k,c,h1,h2⟩:=h.at_.2 i hi
 refine ⟨k,c,?_,h2.later hb1⟩
 rw [←hg,World.cell?_alloc_new,← h1,← hc]
 simp
structure TR (W V:World) (g g1 g2:Nat) (t:Ten) (ks:List (Nat×Array Value)) (es:List Int):Prop where
 vs:Vs V
 bo:TBo V g t
 c1:V.cell? ⟨g1,0,none⟩=some (.func (.func 165) #[] #[.pointer (some ⟨g,0,none⟩)])
 c2:V.cell? ⟨g2,0,none⟩=some (.func (.func 167) #[] #[.pointer (some ⟨g,0,none⟩)])
 rl:RlsL V ks es
 below:Below W.heap.size W V
theorem TR.step {W V X:World} {g g1 g2:Nat} {t:Ten} {ks:List (Nat×Array Value)} {es:List Int} (h:TR W V g g1 g2 t ks es) {k:Nat} {c:Array Value} {e:Int} (hr:Rul X k c e) (hb:Below V.heap.size V X):TR W X g g1 g2 t (ks++[(k,c)]) (es++[e]) :=
 ⟨h.vs.below hb,h.bo.later hb,by rw [hb.cell (p:=⟨g1,0,none⟩) (cell_lt h.c1)];exact h.c1,by rw [hb.cell (p:=⟨g2,0,none⟩) (cell_lt h.c2)];exact h.c2,(h.rl.later hb).snoc hr,h.below.trans (hb.mono h.below.size)⟩
theorem trules_any {W:World} {v:Value} {t:Ten} (hv:Vs W) (h:TV W v t) (hm:TSm t):Calls Tryz.prog 134 #[v] W (Rls W (Va.trs t)):=by
 obtain ⟨tl,pa,sa,qa,pc,sc,qc,rfl,hx⟩:=h.tb
 have hmf:=mkf
 obtain ⟨g,hg⟩:∃ g,W.heap.size=g:=⟨_,rfl⟩
 have hM0:Mem W (W.alloc (.cells tl.toArray 46)) [(g,.cells tl.toArray 46)]:=(Mem.nil W).push1 hg.symm
 have HM0:Hid (Mem W (W.alloc (.cells tl.toArray 46)) [(g,.cells tl.toArray 46)]):=hM0
 have HX:Hid (Vs W∧TBx W tl t pa sa qa pc sc qc∧TSm t):=⟨hv,hx,hm⟩
 have HE:Hid (Va.trs t=[]++[ul 90 (nam t.name.data.toList),ul 91 (wi t.vni 1 16777215),ul 92 (decide ((t.pool.length:Int)≤8)),ul 92 (unl t.pool),ul 93 (wi t.lo 1 t.hi),ul 94 (wi t.filter 0 2),ul 94 (decide ((t.stat.length:Int)≤16)),ul 94 (decide ((t.twi.length:Int)≤16)),ul 94 (unl (fst' t.stat) && unl (snd' t.stat)),ul 94 (unl (fst' t.twi) && unl (snd' t.twi)),wn 94 ((snd' t.stat).any (hs t.pool)),wn 94 ((fst' t.twi).any (owns t)),ul 95 (wi t.sess 1 256),ul 95 (wi t.queue 1 64),ul 95 (decide (t.rate≤1000000)),ul 95 (wi t.burst 1 1000000),ul 96 (t.vtep != 0)]):=rfl
 clear hM0 hv h hx hm
 generalize Va.trs t=ES at *
 obtain ⟨A,hA⟩:∃ A,tl.toArray=A:=⟨_,rfl⟩
 rw [hA] at HM0 ⊢
 have HA:Hid (tl.toArray=A):=hA
 clear hA
 go_enter Tryz.func134,Tryz.ntmps134
 go_upto_region 1 with fail
 refine wp_letter (fun X=>Mem W X [(g,.cells A 46)]) (by exact HM0.out) ?_
 intro V0 hM1
 try simp only [hg]
 clear HM0 hg
 obtain ⟨g1,hg1⟩:∃ g1,V0.heap.size=g1:=⟨_,rfl⟩
 have HM1:Hid (Mem W (V0.alloc (.cells #[.func (.func 165) #[] #[.pointer (some ⟨g,0,none⟩)]] 176)) [(g1,.cells #[.func (.func 165) #[] #[.pointer (some ⟨g,0,none⟩)]] 176),(g,.cells A 46)]):=hM1.front _ hg1.symm
 clear hM1
 go_upto_region 2 with fail
 refine wp_letter (fun X=>Mem W X [(g1,.cells #[.func (.func 165) #[] #[.pointer (some ⟨g,0,none⟩)]] 176),(g,.cells A 46)]) (by exact HM1.out) ?_
 intro V1 hM2
 try simp only [hg1]
 clear HM1 hg1
 obtain ⟨g2,hg2⟩:∃ g2,V1.heap.size=g2:=⟨_,rfl⟩
 have HM2:Hid (Mem W (V1.alloc (.cells #[.func (.func 167) #[] #[.pointer (some ⟨g,0,none⟩)]] 176)) [(g2,.cells #[.func (.func 167) #[] #[.pointer (some ⟨g,0,none⟩)]] 176),(g1,.cells #[.func (.func 165) #[] #[.pointer (some ⟨g,0,none⟩)]] 176),(g,.cells A 46)]):=hM2.front _ hg2.symm
 clear hM2
 go_upto_region 3 with fail
 refine wp_letter (fun X=>Mem W X [(g2,.cells #[.func (.func 167) #[] #[.pointer (some ⟨g,0,none⟩)]] 176),(g1,.cells #[.func (.func 165) #[] #[.pointer (some ⟨g,0,none⟩)]] 176),(g,.cells A 46)]) (by exact HM2.out) ?_
 intro V2 hM3
 try simp only [hg2]
 clear HM2 hg2
 have Ha:Hid (TR W V2 g g1 g2 t [] []):=⟨HX.out.1.below hM3.below,⟨tl,pa,sa,qa,pc,sc,qc,by rw [HA.out];exact hM3.get 2 rfl,HX.out.2.1.later hM3.below⟩,hM3.cell 1 rfl 0,hM3.cell 0 rfl 0,.nil,hM3.below⟩
 have HS:Hid (TSm t):=HX.out.2.2
 clear HX hM3 HA
 go_wp2_with fail
 refine (unless_any (tq3 Ha.out.vs Ha.out.bo HS.out) 90).mono ?_
 rintro _ X0 ⟨k0,cs0,rfl,hr,hb⟩
 have H0:Hid (TR W X0 g g1 g2 t _ _):=Ha.out.step hr hb
 clear hr hb Ha
 go_wp2_with fail
 refine (unless_any (tq4 H0.out.bo HS.out) 91).mono ?_
 rintro _ X1 ⟨k1,cs1,rfl,hr,hb⟩
 have H1:Hid (TR W X1 g g1 g2 t _ _):=H0.out.step hr hb
 clear hr hb H0
 go_wp2_with fail
 refine (unless_any (tq5 H1.out.bo HS.out) 92).mono ?_
 rintro _ X2 ⟨k2,cs2,rfl,hr,hb⟩
 have H2:Hid (TR W X2 g g1 g2 t _ _):=H1.out.step hr hb
 clear hr hb H1
 go_wp2_with fail
 refine (unless_any (tq6 H2.out.bo HS.out) 92).mono ?_
 rintro _ X3 ⟨k3,cs3,rfl,hr,hb⟩
 have H3:Hid (TR W X3 g g1 g2 t _ _):=H2.out.step hr hb
 clear hr hb H2
 go_wp2_with fail
 refine (unless_any (tq7 H3.out.bo HS.out) 93).mono ?_
 rintro _ X4 ⟨k4,cs4,rfl,hr,hb⟩
 have H4:Hid (TR W X4 g g1 g2 t _ _):=H3.out.step hr hb
 clear hr hb H3
 go_wp2_with fail
 refine (unless_any (tq8 H4.out.bo HS.out) 94).mono ?_
 rintro _ X5 ⟨k5,cs5,rfl,hr,hb⟩
 have H5:Hid (TR W X5 g g1 g2 t _ _):=H4.out.step hr hb
 clear hr hb H4
 go_wp2_with fail
 refine (unless_any (tq9 H5.out.bo HS.out) 94).mono ?_
 rintro _ X6 ⟨k6,cs6,rfl,hr,hb⟩
 have H6:Hid (TR W X6 g g1 g2 t _ _):=H5.out.step hr hb
 clear hr hb H5
 go_wp2_with fail
 refine (unless_any (tq10 H6.out.bo HS.out) 94).mono ?_
 rintro _ X7 ⟨k7,cs7,rfl,hr,hb⟩
 have H7:Hid (TR W X7 g g1 g2 t _ _):=H6.out.step hr hb
 clear hr hb H6
 go_wp2_with fail
 refine (unless_any (tq11 H7.out.bo HS.out) 94).mono ?_
 rintro _ X8 ⟨k8,cs8,rfl,hr,hb⟩
 have H8:Hid (TR W X8 g g1 g2 t _ _):=H7.out.step hr hb
 clear hr hb H7
 go_wp2_with fail
 refine (unless_any (tq12 H8.out.bo HS.out) 94).mono ?_
 rintro _ X9 ⟨k9,cs9,rfl,hr,hb⟩
 have H9:Hid (TR W X9 g g1 g2 t _ _):=H8.out.step hr hb
 clear hr hb H8
 go_wp2_with fail
 refine (when_any (tq13 H9.out.bo HS.out H9.out.c1) 94).mono ?_
 rintro _ X10 ⟨k10,cs10,rfl,hr,hb⟩
 have H10:Hid (TR W X10 g g1 g2 t _ _):=H9.out.step hr hb
 clear hr hb H9
 go_wp2_with fail
 refine (when_any (tq14 H10.out.bo HS.out H10.out.c2) 94).mono ?_
 rintro _ X11 ⟨k11,cs11,rfl,hr,hb⟩
 have H11:Hid (TR W X11 g g1 g2 t _ _):=H10.out.step hr hb
 clear hr hb H10
 go_wp2_with fail
 refine (unless_any (tq15 H11.out.bo HS.out) 95).mono ?_
 rintro _ X12 ⟨k12,cs12,rfl,hr,hb⟩
 have H12:Hid (TR W X12 g g1 g2 t _ _):=H11.out.step hr hb
 clear hr hb H11
 go_wp2_with fail
 refine (unless_any (tq16 H12.out.bo HS.out) 95).mono ?_
 rintro _ X13 ⟨k13,cs13,rfl,hr,hb⟩
 have H13:Hid (TR W X13 g g1 g2 t _ _):=H12.out.step hr hb
 clear hr hb H12
 go_wp2_with fail
 refine (unless_any (tq17 H13.out.bo HS.out) 95).mono ?_
 rintro _ X14 ⟨k14,cs14,rfl,hr,hb⟩
 have H14:Hid (TR W X14 g g1 g2 t _ _):=H13.out.step hr hb
 clear hr hb H13
 go_wp2_with fail
 refine (unless_any (tq18 H14.out.bo HS.out) 95).mono ?_
 rintro _ X15 ⟨k15,cs15,rfl,hr,hb⟩
 have H15:Hid (TR W X15 g g1 g2 t _ _):=H14.out.step hr hb
 clear hr hb H14
 go_wp2_with fail
 refine (unless_any (tq19 H15.out.bo HS.out) 96).mono ?_
 rintro _ X16 ⟨k16,cs16,rfl,hr,hb⟩
 have H16:Hid (TR W X16 g g1 g2 t _ _):=H15.out.step hr hb
 clear hr hb H15
 obtain ⟨gl,hgl⟩:∃ gl,X16.heap.size=gl:=⟨_,rfl⟩
 have hF:=rls_of (cs:=#[.func (.func k0) #[] cs0,.func (.func k1) #[] cs1,.func (.func k2) #[] cs2,.func (.func k3) #[] cs3,.func (.func k4) #[] cs4,.func (.func k5) #[] cs5,.func (.func k6) #[] cs6,.func (.func k7) #[] cs7,.func (.func k8) #[] cs8,.func (.func k9) #[] cs9,.func (.func k10) #[] cs10,.func (.func k11) #[] cs11,.func (.func k12) #[] cs12,.func (.func k13) #[] cs13,.func (.func k14) #[] cs14,.func (.func k15) #[] cs15,.func (.func k16) #[] cs16]) H16.out.rl H16.out.below hgl rfl
 have HF:Hid ((∀ i,i < ES.length→∃ k c,(X16.alloc (.cells #[.func (.func k0) #[] cs0,.func (.func k1) #[] cs1,.func (.func k2) #[] cs2,.func (.func k3) #[] cs3,.func (.func k4) #[] cs4,.func (.func k5) #[] cs5,.func (.func k6) #[] cs6,.func (.func k7) #[] cs7,.func (.func k8) #[] cs8,.func (.func k9) #[] cs9,.func (.func k10) #[] cs10,.func (.func k11) #[] cs11,.func (.func k12) #[] cs12,.func (.func k13) #[] cs13,.func (.func k14) #[] cs14,.func (.func k15) #[] cs15,.func (.func k16) #[] cs16] 173)).cell? ⟨gl,i,none⟩=some (.func (.func k) #[] c)∧Rul (X16.alloc (.cells #[.func (.func k0) #[] cs0,.func (.func k1) #[] cs1,.func (.func k2) #[] cs2,.func (.func k3) #[] cs3,.func (.func k4) #[] cs4,.func (.func k5) #[] cs5,.func (.func k6) #[] cs6,.func (.func k7) #[] cs7,.func (.func k8) #[] cs8,.func (.func k9) #[] cs9,.func (.func k10) #[] cs10,.func (.func k11) #[] cs11,.func (.func k12) #[] cs12,.func (.func k13) #[] cs13,.func (.func k14) #[] cs14,.func (.func k15) #[] cs15,.func (.func k16) #[] cs16] 173)) k c (ES.getD i 0))∧Below W.heap.size W (X16.alloc (.cells #[.func (.func k0) #[] cs0,.func (.func k1) #[] cs1,.func (.func k2) #[] cs2,.func (.func k3) #[] cs3,.func (.func k4) #[] cs4,.func (.func k5) #[] cs5,.func (.func k6) #[] cs6,.func (.func k7) #[] cs7,.func (.func k8) #[] cs8,.func (.func k9) #[] cs9,.func (.func k10) #[] cs10,.func (.func k11) #[] cs11,.func (.func k12) #[] cs12,.func (.func k13) #[] cs13,.func (.func k14) #[] cs14,.func (.func k15) #[] cs15,.func (.func k16) #[] cs16] 173))∧ES.length=17):=by
  rw [HE.out];exact ⟨hF.1,hF.2,rfl⟩
 clear H16 HS HE hF
 go_wp2_with fail
 go_ret
 refine ⟨gl,?_,HF.out.1,HF.out.2.1⟩
 rw [HF.out.2.2,← hgl]
 rfl
end Go.Proofs.YtdigofgjhaakmaaGreatDoor
namespace Go.Proofs.YtdigofgjhaakmaaGreatDoor
open Go.RowKit
open La
open Ad
end Go.Proofs.YtdigofgjhaakmaaGreatDoor
namespace Go.Proofs.YtdigofgjhaakmaaGreatDoor
open Go.RowKit
open Cf
open La
open Ad
end Go.Proofs.YtdigofgjhaakmaaGreatDoor
namespace Go.Proofs.YtdigofgjhaakmaaGreatDoor
open Go.RowKit
open Sm
open Cf
open Df
namespace Df
theorem TSame.refl' (t:Ten):TSame t t:=⟨rfl,rfl,rfl,rfl,rfl,rfl,rfl,rfl,rfl,rfl,rfl,rfl,rfl,rfl,rfl,rfl⟩
theorem bytes_15 (l:List Int) (h:∀ x∈l,0≤x∧x≤255):IsBytes l:=by
 intro i
 rcases Nat.lt_or_ge i l.length with hi | hi
 ·rw [List.getD_eq_getElem?_getD,List.getElem?_eq_getElem hi,Option.getD_some]
  exact h _ (List.getElem_mem _)
 ·rw [List.getD_eq_getElem?_getD,List.getElem?_eq_none hi,Option.getD_none]
  omega
theorem one_chg {V:World} {ga:Nat} {y:Hv} (h:V.heap[ga]? = some (.cells (yc y).toArray 48)) (hl:TLen y.1.t) (hr:Rws V (yz y)):YV V (.slice (some ⟨ga,0,none⟩) 1 1) [y]:=by
 refine ⟨⟨some ⟨ga,0,none⟩,1,rfl,Nat.le_refl _,by omega,nofun,Or.inr ⟨ga,0,rfl,fun i hi j u hj=>?_⟩⟩,fun x hx=>by rw [List.mem_singleton] at hx;subst hx;exact ⟨hl,hr⟩⟩
 have hi0:i=0:=by simp at hi;exact hi
 subst hi0
 rw [cell_of h,Nat.zero_mul,Nat.add_zero,Nat.zero_add,List.getElem?_toArray]
 simpa [List.getD] using hj
theorem rws_nil (w:World) (t:Ten) (h1:t.pool=[]) (h2:t.stat=[]) (h3:t.twi=[]):Rws w (t,nilV,nilV,nilV):=by
 refine ⟨?_,?_,?_⟩
 ·show Rw w 1 nilV (ux t.pool);rw [h1];exact ⟨none,0,rfl,Nat.le_refl _,by omega,fun _=>rfl,Or.inl rfl⟩
 ·show Rw w 2 nilV (px t.stat);rw [h2];exact ⟨none,0,rfl,Nat.le_refl _,by omega,fun _=>rfl,Or.inl rfl⟩
 ·show Rw w 2 nilV (px t.twi);rw [h3];exact ⟨none,0,rfl,Nat.le_refl _,by omega,fun _=>rfl,Or.inl rfl⟩
end Df
end Go.Proofs.YtdigofgjhaakmaaGreatDoor
