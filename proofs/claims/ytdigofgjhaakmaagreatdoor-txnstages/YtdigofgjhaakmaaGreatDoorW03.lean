/-
  What package disk's Read, fail, Write and Spoil answer.
  The program's put, get and split, and bytes.Equal, whatever they are handed.
  What package log's Sum, put, get answer, and the statements' own crc.
  What package disk's New and Copy answer.
-/
import Derived.Test.YtdigofgjhaakmaaGreatDoorW02
import Derived.Deep.RegionHeld3
import Derived.BigQuiet
import Derived.Shelf.Abstract
import Derived.Laws.EntriesVeiled
import Derived.Test.YtdigofgjhaakmaaGreatDoorW01
set_option linter.unusedVariables false
set_option maxRecDepth 20000
set_option maxHeartbeats 40000000
namespace Go.Proofs.YtdigofgjhaakmaaGreatDoor
open Go.RowKit
open Sm
section
variable {w W:World} {p h m:Nat} {D:Dk} {hc:Array Value} {ks:List Bk} {L:List (Nat×Obj)}
theorem dread_yes (H:DkAt w W p h m D hc ks L) (i:Nat) {k:Bk} (hi:ks[i]? = some k) (hd:D.dead=false) :
  Calls Tryz.prog 161 #[.pointer (some ⟨p,0,none⟩),.int .i64 i] W fun e W'=>∃ g,e=.returned (.tuple #[.slice (some ⟨g,0,none⟩) m m,.int .i64 0])∧Mem W W' [(g,.cells (bs k.b) 5)]:=by
 have c0:=H.st.box 0
 have c1:=H.st.box 1
 simp at c0 c1
 have hh:=dhas_any H i
 have hil:=(List.getElem?_eq_some_iff.mp hi).1
 rw [show dIn ks.length i=true by simp [dIn,hil]] at hh
 rw [hd] at c1
 have c2:=H.st.head hi
 have o:=H.st.okAt hi
 have hs:=dsame_any o.len (H.st.row hi (by have:=H.mhi;omega)) k.cap
 have hil2:(i:Int) < (ks.length:Int):=by omega
 generalize ks.length=n at *
 clear H hi hd o
 go_enter Tryz.func161,Tryz.ntmps161
 go_wp2_with fail
 refine hh.mono ?_
 rintro e w' ⟨rfl,rfl⟩
 go_wp2_with fail
 refine hs.mono ?_
 rintro e w' ⟨g,rfl,hm⟩
 go_wp2
 exact bodyPost_ret (v:=.tuple #[.slice (some ⟨g,0,none⟩) m m,.int .i64 0]) (by simp [results,Tryz.results161,go_sem]) rfl ⟨g,rfl,hm⟩
def wB (D:Dk) (m:Nat) (i:Int) (l:List Int) (bl:List (List Int)):List (List Int) :=
 if D.dead || !dIn bl.length i || l.length != m then bl else if D.set && D.left == 0 then bl.set i.toNat (l.take D.pre.toNat++(bl.getD i.toNat []).drop D.pre.toNat) else bl.set i.toNat l
theorem fill_new (cur:Array Value) (l:List Int):∃ new:Array Value,new.toList=cur.toList.take 0++(l.map (Value.int .u8)++cur.toList.drop (0+l.length)):=⟨_,List.toList_toArray⟩
theorem dfail_any (H:DkAt w W p h m D hc ks L) {a:Option Addr} {l:List Int} (hr:Row W a l) {cap:Nat} (hcap:m≤cap) (hl:l.length=m) (i:Nat) {k:Bk} (hi:ks[i]? = some k) :
  Calls Tryz.prog 145 #[.pointer (some ⟨p,0,none⟩),.int .i64 i,.slice a m cap] W fun e W'=>e=.returned (.tuple #[])∧∃ ks',DkAt w W' p h m ⟨true,false,0,0⟩ hc ks' L ∧
   ks'.map Bk.b=(ks.map Bk.b).set i (l.take D.pre.toNat++k.b.drop D.pre.toNat):=by
 have c0:=H.st.box 0
 have c4:=H.st.box 4
 simp at c0 c4
 have hil:=(List.getElem?_eq_some_iff.mp hi).1
 have hil2:(i:Int) < (ks.length:Int):=by omega
 have c2:=H.st.head hi
 obtain ⟨P,eP,hP⟩:∃ P:Nat,D.pre=P∧P≤m:=⟨D.pre.toNat,by have:=H.pre;omega,by have:=H.pre;omega⟩
 have hmlo:=H.mlo
 obtain ⟨b,off,rfl⟩:∃ b off,a=some ⟨b,off,none⟩:=by
  rcases hr.cells with e | ⟨b,off,e,_⟩
  ·subst e;simp at hl;omega
  ·exact ⟨b,off,e⟩
 have hrp:Row W (some ⟨b,off,none⟩) (l.take P):=by have:=hr.part 0 P (by omega);simpa using this
 have hlp:(l.take P).length=P:=by simp;omega
 obtain ⟨new,hnew⟩:=fill_new k.cur (l.take P)
 have o:=H.st.okAt hi
 have HG:Hid (W.drew.heap[k.g]? = some (.cells k.cur 5)):=H.st.drew.mem.get (i+2) (H.st.drew.at_ hi)
 have HLn:Hid ((l.take P).length=Nat.min P m):=by show _=_;rw [hlp];exact (Nat.min_eq_left hP).symm
 have HP:Hid (0 < (l.take P).length→some (⟨k.g,0,none⟩:Addr)=some ⟨k.g,0,none⟩∧∃ ad,some (⟨b,off,none⟩:Addr)=some ad∧∀ j v,((l.take P).map (Value.int .u8))[j]? = some v→W.drew.cell? (ad.add j)=some v) :=
  fun _=>⟨rfl,_,rfl,(row_drew hrp).news⟩
 have HF:Hid (0+(l.take P).length≤k.cur.size):=by show _≤_;have:=o.cap;have:=o.size;omega
 have HNw:Hid _:=hnew
 have HS:Hid (∀ W1,Wrote W.drew W1 k.g new 5→St w W1 p (dkA h ks.length D) dkT h m hc (ks.set i ⟨k.g,k.cap,new,l.take P++k.b.drop P⟩) L):=by
  intro W1 hw1
  have:=H.st.drew.fill hi (by omega) hrp.bytes hnew hw1
  rwa [hlp] at this
 have HH:Hid (DkAt w W p h m D hc ks L):=H
 have HK:Hid ((ks.set i ⟨k.g,k.cap,new,l.take P++k.b.drop P⟩).map Bk.b=(ks.map Bk.b).set i (l.take D.pre.toNat++k.b.drop D.pre.toNat)∧(ks.set i ⟨k.g,k.cap,new,l.take P++k.b.drop P⟩).length=ks.length):=by
  rw [eP,Int.toNat_natCast];exact ⟨by rw [List.map_set],by simp⟩
 rw [eP] at c4
 have q1:(P:Int)≤(cap:Int):=by omega
 have q2:P≤cap:=by omega
 generalize ks.set i ⟨k.g,k.cap,new,l.take P++k.b.drop P⟩=ks2 at HS HK
 generalize hn:ks.length=n at *
 clear H hnew o hrp hr hlp hi hl hil
 go_enter Tryz.func145,Tryz.ntmps145
 go_upto_region 0 with fail
 go_cut [] from 6 (fun wx=>St w wx p (dkA h n D) dkT h m hc ks2 L)
 case first =>
  go_region_law (refine step_copy_bytes rfl (.tmp 12) (.tmp 19) 86 86 rfl Tryz.underlying86 (some ⟨k.g,0,none⟩) (some ⟨b,off,none⟩) m k.cap P cap (by simp [Act.eval,Act.put]) (by simp [Act.eval,Act.put]) k.g 0 k.cur new 5 HG.out (l.take P) HLn.out HP.out HF.out HNw.out ?_;intro w3 hw3)
  all_goals
   go_wp2_with fail
   go_meet
   case rel=>exact HS.out w3 hw3
 case rest =>
  have c1:=hcut.box 1
  have d2:=hcut.box 2
  have d3:=hcut.box 3
  have d4:=hcut.box 4
  simp at c1 d2 d3 d4
  have f1:=hcut.boxFree 1
  have f2:=hcut.boxFree 2
  have f3:=hcut.boxFree 3
  have f4:=hcut.boxFree 4
  have HC:Hid (St w wc p (dkA h n D) dkT h m hc ks2 L):=hcut
  clear hcut
  go_wp2
  go_end0
  have H:=HH.out
  refine ⟨rfl,ks2,?_,by have q:=HK.out.1;rwa [eP,Int.toNat_natCast] at q⟩
  have hs:=(((HC.out.put 1 (.bool true)).put 2 (.bool false)).put 3 (.int .i64 0)).put 4 (.int .i64 0)
  have e:((((dkA h n D).setIfInBounds 1 (.bool true)).setIfInBounds 2 (.bool false)).setIfInBounds 3 (.int .i64 0)).setIfInBounds 4 (.int .i64 0)=dkA h ks2.length ⟨true,false,0,0⟩:=by
   rw [HK.out.2];simp [dkA]
  rw [e] at hs
  exact ⟨hs,by rw [HK.out.2,← hn];exact H.pos,by rw [HK.out.2,← hn];exact H.top,H.mlo,H.mhi,by decide,⟨Int.le_refl 0,Int.natCast_nonneg m⟩⟩
theorem dk_apart (H:DkAt w W p h m D hc ks L) {b off:Nat} {l:List Int} (hr:Row W (some ⟨b,off,none⟩) l) (hl:0 < l.length):b≠p:=by
 rintro rfl
 have e:=hr.cellAt 0 hl
 rw [H.st.box] at e
 match off,e with
 | 0,e=>simp at e
 | 1,e=>simp at e
 | 2,e=>simp at e
 | 3,e=>simp at e
 | 4,e=>simp at e
 | n+5,e=>simp at e
theorem dwrite_cut (H:DkAt w W p h m D hc ks L) {a:Option Addr} {l:List Int} (hr:Row W a l) {cap:Nat} (hcap:m≤cap) (hl:l.length=m) (i:Nat) {k:Bk} (hi:ks[i]? = some k) (hd:D.dead=false) (hset:D.set=true) (h0:D.left=0) :
  Calls Tryz.prog 122 #[.pointer (some ⟨p,0,none⟩),.int .i64 i,.slice a m cap] W fun e W'=>e=.returned (.int .i64 42)∧∃ ks',DkAt w W' p h m ⟨true,false,0,0⟩ hc ks' L ∧
   ks'.map Bk.b=(ks.map Bk.b).set i (l.take D.pre.toNat++k.b.drop D.pre.toNat):=by
 have c1:=H.st.box 1
 have c2:=H.st.box 2
 have c3:=H.st.box 3
 simp at c1 c2 c3
 rw [hd] at c1
 rw [hset] at c2
 rw [h0] at c3
 have hh:=dhas_any H i
 have hil:=(List.getElem?_eq_some_iff.mp hi).1
 rw [show dIn ks.length i=true by simp [dIn,hil]] at hh
 have hs:=dsize_any H
 have hf:=dfail_any H hr hcap hl i hi
 have hne:((m:Int) != m)=false:=by simp
 clear H hr hcap hl hi hil hd hset h0
 go_enter Tryz.func122,Tryz.ntmps122
 go_wp2_with fail
 refine hh.mono ?_
 rintro e w' ⟨rfl,rfl⟩
 go_wp2_with fail
 refine hs.mono ?_
 rintro e w' ⟨rfl,rfl⟩
 go_wp2_with fail
 refine hf.mono ?_
 rintro e w' ⟨rfl,hr⟩
 go_wp2
 go_ret
 exact ⟨rfl,hr⟩
set_option maxRecDepth 20000 in
theorem dwrite_ok (H:DkAt w W p h m D hc ks L) {a:Option Addr} {l:List Int} (hr:Row W a l) {cap:Nat} (hl:l.length=m) (i:Nat) {k:Bk} (hi:ks[i]? = some k) (hd:D.dead=false) (hset:D.set=false∨D.left≠0) :
  Calls Tryz.prog 122 #[.pointer (some ⟨p,0,none⟩),.int .i64 i,.slice a m cap] W fun e W'=>e=.returned (.int .i64 0)∧∃ ks',DkAt w W' p h m (if D.set then ⟨false,true,D.left - 1,D.pre⟩ else ⟨false,false,D.left,D.pre⟩) hc ks' L ∧
   ks'.map Bk.b=(ks.map Bk.b).set i l:=by
 have c0:=H.st.box 0
 have c1:=H.st.box 1
 have c2:=H.st.box 2
 have c3:=H.st.box 3
 simp at c0 c1 c2 c3
 rw [hd] at c1
 have hh:=dhas_any H i
 have hil:=(List.getElem?_eq_some_iff.mp hi).1
 rw [show dIn ks.length i=true by simp [dIn,hil]] at hh
 have hil2:(i:Int) < (ks.length:Int):=by omega
 have hs:=dsize_any H
 have ch:=H.st.head hi
 have hne:((m:Int) != m)=false:=by simp
 have hmlo:=H.mlo
 obtain ⟨b,off,rfl⟩:∃ b off,a=some ⟨b,off,none⟩:=by
  rcases hr.cells with e | ⟨b,off,e,_⟩
  ·subst e;simp at hl;omega
  ·exact ⟨b,off,e⟩
 have hle:=H.left
 have o:=H.st.okAt hi
 obtain ⟨new,hnew⟩:=fill_new k.cur l
 have HK:Hid ((ks.set i ⟨k.g,k.cap,new,l⟩).map Bk.b=(ks.map Bk.b).set i l∧(ks.set i ⟨k.g,k.cap,new,l⟩).length=ks.length):=⟨by rw [List.map_set],by simp⟩
 have HH:Hid (DkAt w W p h m D hc ks L):=H
 rcases Bool.eq_false_or_eq_true D.set with hst | hst
 ·rw [hst] at c2 hset ⊢
  have hnz:¬ D.left=0:=by simpa using hset
  have hnz2:(D.left == 0)=false:=by simpa using hnz
  have f3:=H.st.boxFree 3
  have s1:=H.st.put 3 (.int .i64 (D.left - 1))
  have d0:=s1.box 0
  simp at d0
  have dh:=s1.head hi
  have hr1:Row (W.setCell ⟨p,3,none⟩ (.int .i64 (D.left - 1))) (some ⟨b,off,none⟩) l:=hr.setCell (fun e=>dk_apart H hr (by omega) e.symm) _
  obtain ⟨W1,hr2,hw2⟩:=copy_bytes (W.setCell ⟨p,3,none⟩ (.int .i64 (D.left - 1))) 3 (some ⟨k.g,0,none⟩) (some ⟨b,off,none⟩) m k.cap m cap k.g 0 k.cur new 5 (s1.mem.get (i+2) (s1.at_ hi)) l (by rw [hl];exact (Nat.min_self m).symm)
   (fun _=>⟨rfl,_,rfl,hr1.news⟩) (by have:=o.cap;have:=o.size;omega) hnew
  rw [hl] at hr2
  have hs2:=s1.fill hi (by omega) hr1.bytes hnew hw2
  rw [hl,List.drop_of_length_le (by rw [o.len];exact Nat.le_refl _),List.append_nil] at hs2
  rw [show (dkA h ks.length D).setIfInBounds 3 (.int .i64 (D.left - 1))=dkA h ks.length ⟨false,true,D.left - 1,D.pre⟩ by simp [dkA,hd,hst]] at hs2
  have HS:Hid (St w W1 p (dkA h ks.length ⟨false,true,D.left - 1,D.pre⟩) dkT h m hc (ks.set i ⟨k.g,k.cap,new,l⟩) L):=hs2
  obtain ⟨hl0,hl1⟩:=hle
  have hwr:IntKind.i64.wrap (D.left - 1)=D.left - 1:=by rw [IntKind.wrap_i64];omega
  generalize ks.set i ⟨k.g,k.cap,new,l⟩=ks2 at HS HK
  generalize hn:ks.length=n at *
  clear H hr hr1 hi hil hw2 hs2 s1 hnew o hset hl c0
  go_enter Tryz.func122,Tryz.ntmps122
  go_wp2_with fail
  refine hh.mono ?_
  rintro e w' ⟨rfl,rfl⟩
  go_wp2_with fail
  refine hs.mono ?_
  rintro e w' ⟨rfl,rfl⟩
  go_wp2
  go_ret
  have H:=HH.out
  have hs:=HS.out
  rw [←HK.out.2] at hs
  exact ⟨rfl,ks2,⟨hs,by rw [HK.out.2,← hn];exact H.pos,by rw [HK.out.2,← hn];exact H.top,H.mlo,H.mhi,⟨by show 0≤D.left - 1;omega,by show D.left - 1≤_;omega⟩,H.pre⟩,HK.out.1⟩
 ·rw [hst] at c2 ⊢
  obtain ⟨W1,hr2,hw2⟩:=copy_bytes W 3 (some ⟨k.g,0,none⟩) (some ⟨b,off,none⟩) m k.cap m cap k.g 0 k.cur new 5 (H.st.mem.get (i+2) (H.st.at_ hi)) l (by rw [hl];exact (Nat.min_self m).symm)
   (fun _=>⟨rfl,_,rfl,hr.news⟩) (by have:=o.cap;have:=o.size;omega) hnew
  rw [hl] at hr2
  have hs2:=H.st.fill hi (by omega) hr.bytes hnew hw2
  rw [hl,List.drop_of_length_le (by rw [o.len];exact Nat.le_refl _),List.append_nil] at hs2
  rw [show dkA h ks.length D=dkA h ks.length ⟨false,false,D.left,D.pre⟩ by simp [dkA,hd,hst]] at hs2
  have HS:Hid (St w W1 p (dkA h ks.length ⟨false,false,D.left,D.pre⟩) dkT h m hc (ks.set i ⟨k.g,k.cap,new,l⟩) L):=hs2
  generalize ks.set i ⟨k.g,k.cap,new,l⟩=ks2 at HS HK
  generalize hn:ks.length=n at *
  clear H hr hi hil hw2 hs2 hnew o hset hl
  go_enter Tryz.func122,Tryz.ntmps122
  go_wp2_with fail
  refine hh.mono ?_
  rintro e w' ⟨rfl,rfl⟩
  go_wp2_with fail
  refine hs.mono ?_
  rintro e w' ⟨rfl,rfl⟩
  go_wp2
  go_ret
  have H:=HH.out
  have hs:=HS.out
  rw [←HK.out.2] at hs
  exact ⟨rfl,ks2,⟨hs,by rw [HK.out.2,← hn];exact H.pos,by rw [HK.out.2,← hn];exact H.top,H.mlo,H.mhi,H.left,H.pre⟩,HK.out.1⟩
end
end Go.Proofs.YtdigofgjhaakmaaGreatDoor
namespace Go.Proofs.YtdigofgjhaakmaaGreatDoor
open Go.RowKit
open Sm
open Cf
theorem pow8 (k:Nat):(2:Int) ^ (8 * k)=256 ^ k:=by rw [Int.pow_mul];rfl
theorem wrap64n {x:Int} (h0:-9223372036854775808≤x) (h1:x≤9223372036854775807):IntKind.i64.wrap x=x:=by rw [IntKind.wrap_i64];omega
theorem wrapu8 (x:Int):IntKind.u8.wrap x=x % 256:=by simp [IntKind.wrap,IntKind.bits,IntKind.signed]
theorem wrapu64 (x:Int):IntKind.u64.wrap x=x % 18446744073709551616:=by simp [IntKind.wrap,IntKind.bits,IntKind.signed]
theorem put_any {w W:World} {v:Value} {l:List Int} {L:List (Nat×Obj)} (h:Out w W v l L) (sz:Nat) (x:Int) (hs:sz≤7) (hx:0≤x∧x < 18446744073709551616) (hb:l.length+sz≤1000000000) :
  Calls Tryz.prog 209 #[v,.int .i64 sz,.int .u64 x] W fun e W'=>∃ v',e=.returned v'∧Out w W' v' (l++be sz x) L:=by
 have HO:Hid (Out w W v l L):=h
 clear h
 go_enter Tryz.func209,Tryz.ntmps209
 go_wp2_with fail
 go_loopw [0,9] (fun u0 u9 w'=>∃ i:Nat,i≤sz∧u9=.int .i64 i∧Hid (Out w w' u0 (l++(be sz x).take i) L)) (fun u0 u9 w'=>sz - (intOf u9).toNat)
 case atStart=>exact ⟨0,Nat.zero_le _,rfl,by simpa using HO⟩
 case round =>
  obtain ⟨i,hi,rfl,HR⟩:=hrel
  by_cases hlt:i < sz
  ·have h1:(i:Int) < sz:=by omega
   obtain ⟨k,hk⟩:∃ k:Nat,sz - 1 - i=k:=⟨_,rfl⟩
   have e1:IntKind.i64.wrap ((sz:Int) - 1)=(sz:Int) - 1:=wrap64n (by omega) (by omega)
   have e2:IntKind.i64.wrap ((sz:Int) - 1 - i)=(k:Int):=by rw [wrap64n (by omega) (by omega)];omega
   have e3:IntKind.i64.wrap (8 * (k:Int))=8 * (k:Int):=wrap64n (by omega) (by omega)
   have e4:¬ (8 * (k:Int) < 0):=by omega
   have ht:(be sz x).take (i+1)=(be sz x).take i++[x / 2 ^ (8 * k) % 256]:=by rw [be_take sz x i hlt,hk,pow8]
   have hlen:(l++(be sz x).take i).length+1≤1000000000:=by
    rw [List.length_append,List.length_take,be_len];omega
   obtain ⟨v1,W1,hr,hO1⟩:=out_one HR.out (x / 2 ^ (8 * k) % 256) (mod_byte _) hlen 86
   rw [List.append_assoc,← ht] at hO1
   clear ht hlen
   go_wp2_with (at_builtin;refine wpList_append_run (.tmp 12) (.tmp 21) 86 86 (by with_reducible rfl) hr rfl rfl (by simp [Act.eval]) (by simp [Act.eval]) ?_)
   go_roundw
   case rel=>exact ⟨i+1,by omega,by go_num,hO1⟩
   case measure=>simp [intOf];omega
  ·have h1:¬ ((i:Int) < sz):=by omega
   obtain rfl:i=sz:=by omega
   go_wp2_with fail
   go_ret
   refine ⟨_,rfl,?_⟩
   have:=HR.out
   rwa [List.take_of_length_le (by rw [be_len];omega)] at this
theorem join_byte (x y:Int) (hx:0≤x∧x < 72057594037927936) (hy:0≤y∧y≤255):bits .or .u64 (x * 256) y=x * 256+y :=
 bits_join .u64 64 (by decide) (fun n h0 h1=>by rw [wrapu64];omega) 8 (x * 256) y (by omega) (by omega) (by omega) (by omega) (by omega) (by omega)
theorem get_any {W:World} {a:Option Addr} {l:List Int} (h:Row W a l) (n c:Nat) (hn:l.length=n) (hs:n≤7) :
  Calls Tryz.prog 212 #[.slice a n c] W fun e W'=>e=.returned (.int .u64 (num l))∧W=W':=by
 go_enter Tryz.func212,Tryz.ntmps212
 go_wp2_with fail
 go_loopw [3,8] (fun u3 u8 w'=>∃ i:Nat,i≤n∧u8=.int .i64 i∧u3=.int .u64 (num (l.take i))∧W=w') (fun u3 u8 w'=>n - (intOf u8).toNat)
 case atStart=>exact ⟨0,Nat.zero_le _,rfl,rfl,rfl⟩
 case round =>
  obtain ⟨i,hi,rfl,rfl,rfl⟩:=hrel
  by_cases hlt:i < n
  ·have h1:(i:Int) < n:=by omega
   rcases h.cells with e | ⟨b,off,rfl,hc⟩
   ·subst e;simp at hn;omega
   ·have hcell:=hc i (by omega)
    have hb:=h.bytes i
    have hnt:=num_take l i (by omega)
    have hr:=num_range (bytes_tk h.bytes i)
    rw [List.length_take,Nat.min_eq_left (by omega)] at hr
    have hp:(256:Int) ^ i≤256 ^ 6:=by
     have:i≤6:=by omega
     match i,this with
     | 0,_=>decide
     | 1,_=>decide
     | 2,_=>decide
     | 3,_=>decide
     | 4,_=>decide
     | 5,_=>decide
     | 6,_=>decide
    have hrx:num (l.take i) < 281474976710656:=by
     have e6:(256:Int) ^ 6=281474976710656:=by decide
     omega
    clear hp
    generalize num (l.take i)=x at hnt hr hrx
    generalize l.getD i 0=y at hcell hb hnt
    clear hc h
    have e1:IntKind.u64.wrap (x * 256)=x * 256:=by rw [wrapu64];omega
    have e2:IntKind.u64.wrap y=y:=by rw [wrapu64];omega
    have e3:=join_byte x y (by omega) hb
    have e4:x * 256 % 18446744073709551616=x * 256:=by omega
    have e5:y % 18446744073709551616=y:=by omega
    go_wp2_with fail
    go_roundw
    case rel=>exact ⟨i+1,by omega,by go_num,by rw [hnt],trivial⟩
    case measure=>simp [intOf];omega
  ·have h1:¬ ((i:Int) < n):=by omega
   obtain rfl:i=n:=by omega
   rw [List.take_of_length_le (by omega)]
   go_wp2_with fail
   go_ret
   exact ⟨rfl,rfl⟩
theorem split_no (W:World) (a:Option Addr) (n c m:Nat) (h:n < m) (hm:m≤1000000) :
  Calls Tryz.prog 211 #[.slice a n c,.int .i64 m] W fun e W'=>e=.returned (.tuple #[.slice none 0 0,.slice none 0 0,.bool false])∧W=W':=by
 have h1:(n:Int) < m:=by omega
 go_enter Tryz.func211,Tryz.ntmps211
 go_wp2_with fail
 exact bodyPost_ret (v:=.tuple #[.slice none 0 0,.slice none 0 0,.bool false]) (by simp [results,Tryz.results211,go_sem]) rfl ⟨rfl,rfl⟩
structure Sl (V:World) (a:Option Addr) (l:List Int) (c:Nat):Prop where
 row:Row V a l
 le:l.length≤c
 big:c≤9223372036854775807
 nil:a=none→c=0
theorem Mem.sl {w W:World} {L:List (Nat×Obj)} (h:Mem w W L) {a:Option Addr} {l:List Int} {c:Nat} (hr:Sl w a l c):Sl W a l c:=⟨h.row hr.row,hr.le,hr.big,hr.nil⟩
def Spl (a:Option Addr) (l:List Int) (c m:Nat) (v1 v2:Value):Prop :=
 ∃ a1 c1 a2 c2,v1=.slice a1 m c1∧v2=.slice a2 (l.drop m).length c2∧∀ V,Sl V a l c→Sl V a1 (l.take m) c1∧Sl V a2 (l.drop m) c2
theorem row_empty (V:World) (a:Option Addr):Row V a []:=⟨bytes_nil,by simp,Or.inl rfl⟩
theorem split_yes {W:World} {a:Option Addr} {l:List Int} {c:Nat} (hS:Sl W a l c) (m:Nat) (h:m≤l.length) (hm:m≤1000000) :
  Calls Tryz.prog 211 #[.slice a l.length c,.int .i64 m] W fun e W'=>∃ v1 v2,e=.returned (.tuple #[v1,v2,.bool true])∧Spl a l c m v1 v2∧∃ q,W'=W.drewN q:=by
 obtain ⟨hr,hc,hc2,ha⟩:=hS
 obtain ⟨n,hn⟩:∃ n,l.length=n:=⟨_,rfl⟩
 rw [hn] at h hc ⊢
 have hn2:=hr.len
 rw [hn] at hn2
 have h1:¬ ((n:Int) < m):=by omega
 have h2:(m:Int)≤c:=by omega
 have h3:(m:Int)≤n:=by omega
 have h4:(n:Int)≤c:=by omega
 by_cases hn0:n=0
 ·obtain rfl:m=0:=by omega
  obtain rfl:l=[]:=List.eq_nil_of_length_eq_zero (by omega)
  subst hn0
  cases a with
  | none =>
   obtain rfl:c=0:=ha rfl
   go_enter Tryz.func211,Tryz.ntmps211
   go_wp2_with fail
   go_quiet (fail)
   go_wp2_with fail
   exact bodyPost_ret (v:=.tuple #[.slice none 0 0,.slice none 0 0,.bool true]) (by simp [results,Tryz.results211,go_sem]) rfl ⟨_,_,rfl,⟨none,0,none,0,rfl,rfl,fun V hV=>⟨hV,hV⟩⟩,_,rfl⟩
  | some ad =>
   by_cases hc0:c=0
   ·subst hc0
    go_enter Tryz.func211,Tryz.ntmps211
    go_wp2_with fail
    go_quiet (fail)
    go_wp2_with fail
    exact bodyPost_ret (v:=.tuple #[.slice (some ad) 0 0,.slice (some ad) 0 0,.bool true]) (by simp [results,Tryz.results211,go_sem]) rfl ⟨_,_,rfl,⟨some ad,0,some ad,0,rfl,rfl,fun V hV=>⟨hV,hV⟩⟩,_,rfl⟩
   ·have h5:¬ ((c:Int)=0):=by omega
    go_enter Tryz.func211,Tryz.ntmps211
    go_wp2_with fail
    go_quiet (fail)
    go_wp2_with fail
    exact bodyPost_ret (v:=.tuple #[.slice (some ad) 0 c,.slice (some ad) 0 c,.bool true]) (by simp [results,Tryz.results211,go_sem]) rfl ⟨_,_,rfl,⟨some ad,c,some ad,c,rfl,rfl,fun V hV=>⟨hV,hV⟩⟩,_,rfl⟩
 ·rcases hr.cells with e | ⟨b,off,rfl,hcl⟩
  ·subst e;simp at hn;omega
  ·clear hcl
   by_cases hcm:c=m
   ·subst hcm
    have hmn:n=c:=by omega
    subst hmn
    go_enter Tryz.func211,Tryz.ntmps211
    go_wp2_with fail
    go_quiet (fail)
    go_wp2_with fail
    refine bodyPost_ret (v:=.tuple #[.slice (some ⟨b,off,none⟩) n n,.slice (some ⟨b,off,none⟩) 0 0,.bool true]) (by simp [results,Tryz.results211,go_sem]) rfl ⟨_,_,rfl,⟨_,_,_,_,rfl,by rw [List.length_drop,hn,Nat.sub_self],fun V hV=>⟨?_,?_⟩⟩,_,rfl⟩
    ·rw [List.take_of_length_le (by omega)];exact hV
    ·rw [List.drop_of_length_le (by omega)];exact ⟨row_empty V _,by simp,by omega,fun e=>by cases e⟩
   ·have h5:(m:Int) < c:=by omega
    go_enter Tryz.func211,Tryz.ntmps211
    go_wp2_with fail
    go_quiet (fail)
    go_wp2_with fail
    refine bodyPost_ret (v:=.tuple #[.slice (some ⟨b,off,none⟩) m c,.slice (some ⟨b,off+m,none⟩) (n - m) (c - m),.bool true]) (by simp [results,Tryz.results211,go_sem]) rfl ⟨_,_,rfl,⟨_,_,_,_,rfl,by rw [List.length_drop,hn],fun V hV=>⟨⟨?_,?_,hV.big,fun e=>by cases e⟩,⟨?_,?_,by have:=hV.big;omega,fun e=>by cases e⟩⟩⟩,_,rfl⟩
    ·have:=hV.row.part 0 m (by omega)
     simpa using this
    ·rw [List.length_take];omega
    ·have:=hV.row.part m (n - m) (by omega)
     rwa [List.take_of_length_le (by rw [List.length_drop];omega)] at this
    ·rw [List.length_drop];omega
def RPost {σ:Type} (w:World) (L:List (Nat×Obj)) (J:σ→World→Prop) (r:Option (σ×List Int)) (e:Ending) (W':World):Prop :=
 match r with
 | none=>e=.returned (.tuple #[.slice none 0 0,.bool false])∧Mem w W' L
 | some (s,l')=>∃ a c,e=.returned (.tuple #[.slice a l'.length c,.bool true])∧Sl w a l' c∧J s W'
theorem RPost.mono {σ τ:Type} {w:World} {L K:List (Nat×Obj)} {J:σ→World→Prop} {H:τ→World→Prop} {r:Option (σ×List Int)} {q:Option (τ×List Int)} {e:Ending} {W':World} (f:σ→τ) (hq:q=r.map (fun x=>(f x.1,x.2)))
  (h:RPost w L J r e W') (hn:Mem w W' L→Mem w W' K) (hs:∀ s,J s W'→H (f s) W'):RPost w K H q e W':=by
 subst hq
 cases r with
 | none=>exact ⟨h.1,hn h.2⟩
 | some x=>obtain ⟨a,c,h1,h2,h3⟩:=h;exact ⟨a,c,h1,h2,hs _ h3⟩
def spl (A:Array Value) (j:Nat) (x:List Int):Array Value:=(A.toList.take j++(x.map (Value.int .u8)++A.toList.drop (j+x.length))).toArray
def cat (enc:Nat→List Int):Nat→List Int
 | 0=>[]
 | n+1=>cat enc n++enc n
theorem cat_le (enc:Nat→List Int) (i n:Nat) (h:i < n):(cat enc i).length+(enc i).length≤(cat enc n).length:=by
 induction n with
 | zero=>omega
 | succ n ih =>
  rw [cat,List.length_append]
  by_cases e:i=n
  ·subst e;omega
  ·have:=ih (by omega);omega
def sq {σ:Type} (dec:Nat→List Int→σ→Option (σ×List Int)):Nat→Nat→List Int→σ→Option (σ×List Int)
 | _,0,l,s=>some (s,l)
 | i,m+1,l,s=>match dec i l s with
  | none=>none
  | some (s',l')=>sq dec (i+1) m l' s'
def nm (s:ByteArray):List Int:=((min s.size 255:Nat):Int)::(sb s).take 255
def dtxt:List Int→Option (ByteArray×List Int)
 | []=>none
 | b::r=>if r.length < b.toNat then none else some (strOfNums (r.take b.toNat),r.drop b.toNat)
theorem mem_bytes {l:List Int} (h:IsBytes l):∀ n∈l,0≤n∧n≤255:=by
 intro n hn
 obtain ⟨i,hi,rfl⟩:=List.getElem_of_mem hn
 have:=h i
 rwa [getD_eq hi] at this
theorem sb_str {l:List Int} (h:IsBytes l):sb (strOfNums l)=l:=by
 have hm:=mem_bytes h
 unfold sb strOfNums
 simp only [List.map_map]
 conv=>rhs;rw [←List.map_id l]
 refine List.map_congr_left fun n hn=>?_
 have:=hm n hn
 simp only [Function.comp_apply,id]
 have e:(UInt8.ofNat n.toNat).toNat=n.toNat:=by
  simp only [UInt8.toNat_ofNat']
  omega
 rw [e]
 omega
theorem sb_inj {s t:ByteArray} (h:sb s=sb t):s.data.toList=t.data.toList:=by
 unfold sb at h
 exact (List.map_inj_right (fun a b e=>UInt8.toNat_inj.mp (Int.ofNat_inj.mp e))).mp h
theorem str_same {l k:List Int} (hl:IsBytes l) (hk:IsBytes k):((strOfNums l).toList == (strOfNums k).toList)=decide (l=k):=by
 by_cases h:l=k
 ·subst h;simp
 ·have:¬ (strOfNums l).toList=(strOfNums k).toList:=by
   intro e
   rw [ByteArray.toList_eq,ByteArray.toList_eq] at e
   apply h
   rw [←sb_str hl,← sb_str hk]
   unfold sb
   rw [e]
  simp [h,this]
theorem text_same (s t:ByteArray):(s.toList == t.toList)=decide (sb s=sb t):=by
 rw [ByteArray.toList_eq,ByteArray.toList_eq]
 by_cases h:s.data.toList=t.data.toList
 ·simp [h,sb]
 ·have:¬ sb s=sb t:=fun e=>h (sb_inj e)
  rw [beq_eq_false_iff_ne.mpr h,decide_eq_false this]
theorem bequal_any {w:World} {a b:Option Addr} {l k:List Int} (ha:Row w a l) (hb:Row w b k) (n m:Nat) (hn:l.length=n) (hm:k.length=m) (ca cb:Nat) :
  Calls Tryz.prog 217 #[.slice a n ca,.slice b m cb] w fun e w'=>e=.returned (.bool (decide (l=k)))∧w=w':=by
 subst hm
 subst hn
 have h1:=row_string ha ca
 have h2:=row_string hb cb
 rw [←str_same ha.bytes hb.bytes]
 generalize strOfNums l=s at h1 h2
 generalize strOfNums k=t at h1 h2
 go_enter Tryz.func217,Tryz.ntmps217
 go_wp2
 go_ret
 exact ⟨rfl,rfl⟩
end Go.Proofs.YtdigofgjhaakmaaGreatDoor
namespace Go.Proofs.YtdigofgjhaakmaaGreatDoor
open Go.RowKit
open Sm
theorem and1_odd (s:Int) (h0:0≤s) (h1:s≤4294967295):bits .and .u32 s 1=s % 2 :=
 bits_mask .u32 32 (by decide) wraps_u32 1 (by decide) s h0 (by omega)
theorem xor0_u32 (s:Int) (h0:0≤s) (h1:s≤4294967295):bits .xor .u32 s 0=s:=by
 rw [u32_xor s 0 h0 (by omega) (by decide) (by decide)];simp;omega
set_option maxRecDepth 20000 in
theorem lsum_any {W:World} {a:Option Addr} {l:List Int} {n:Nat} (hn:l.length=n) (hr:Row W a l) (c:Nat) :
  Calls Tryz.prog 147 #[.slice a n c] W fun e W'=>e=.returned (.int .u32 (crc l))∧W=W':=by
 have hl:=hr.len
 have HR:Hid (Row W a l):=hr
 rw [hn] at hl
 clear hr
 go_enter Tryz.func147,Tryz.ntmps147
 go_wp2_with fail
 go_loop [3,9] (fun s v=>∃ k:Nat,v=.int .i64 k∧k≤n∧s=.int .u32 (crl 4294967295 (l.take k))) (fun _ v=>n - (intOf v).toNat)
 case atStart=>exact ⟨0,rfl,by omega,rfl⟩
 case round =>
  obtain ⟨k,rfl,hk,rfl⟩:=hrel
  by_cases hlt:k < n
  ·obtain ⟨b,off,rfl,hc⟩:∃ b off,a=some ⟨b,off,none⟩∧W.cell? ⟨b,off+k,none⟩=some (.int .u8 (l.getD k 0)):=by
    rcases HR.out.cells with e | ⟨b,off,e,hc⟩
    ·rw [e] at hn;simp at hn;omega
    ·exact ⟨b,off,e,hc k (by omega)⟩
   have hx:=HR.out.bytes k
   have hs:=crl_range (l.take k) (by have:=sl_bytes HR.out.bytes 0 k;simpa [sl] using this) 4294967295 (by decide) (by decide)
   have HN:Hid (crl 4294967295 (l.take (k+1))=cby (crl 4294967295 (l.take k)) (l.getD k 0)):=crl_take _ _ _ (by omega)
   generalize crl 4294967295 (l.take k)=S at *
   generalize l.getD k 0=X at *
   obtain ⟨hx0,hx1⟩:=hx
   obtain ⟨hs0,hs1⟩:=hs
   have HY:Hid (cby S X=c8 8 (bits .xor .u32 S X)):=rfl
   have hy:=xor32_range S X hs0 hs1 hx0 (by omega)
   go_wp2_with fail
   generalize bits .xor .u32 S X=Y at *
   go_loop [3,17] (fun s v=>∃ j:Nat,v=.int .i64 j∧j≤8∧s=.int .u32 (c8 j Y)) (fun _ v=>8 - (intOf v).toNat)
   case atStart=>exact ⟨0,rfl,by omega,rfl⟩
   case round =>
    obtain ⟨j,rfl,hj,rfl⟩:=hrel
    by_cases hlt2:j < 8
    ·have hz:=c8_range j Y hy.1 hy.2
     have HZ:Hid (c8 (j+1) Y=crc1 (c8 j Y)):=c8_succ j Y
     generalize c8 j Y=Z at *
     obtain ⟨hz0,hz1⟩:=hz
     have ha:=and1_odd Z hz0 hz1
     by_cases ho:Z % 2=1
     ·rw [ho] at ha
      go_wp2
      go_round
      case rel=>exact ⟨j+1,by go_num,by omega,by rw [HZ.out,crc1,if_pos ho]⟩
      case measure=>simp [intOf];omega
     ·rw [show Z % 2=0 by omega] at ha
      have hx0:=xor0_u32 (Z / 2) (by omega) (by omega)
      go_wp2
      go_round
      case rel=>exact ⟨j+1,by go_num,by omega,by rw [HZ.out,crc1,if_neg ho]⟩
      case measure=>simp [intOf];omega
    ·have:j=8:=by omega
     subst this
     go_wp2
     go_round
     case rel=>exact ⟨k+1,by go_num,by omega,by rw [HN.out,HY.out]⟩
     case measure=>simp [intOf];omega
  ·have:k=n:=by omega
   subst this
   have e:l.take k=l:=List.take_of_length_le (by omega)
   rw [e]
   go_wp2
   go_ret
   exact ⟨rfl,rfl⟩
theorem info31:(Tryz.prog.info? 86).map (fun i=>(i.zero,i.size,i.bytes))=some (some (.slice none 0 0),1,24):=by kernel_rfl
theorem make_slices (n:Nat) (h:n≤1000000) (w:World):(Instr.makeSlice 84 (.int .i64 (n:Int)) (.int .i64 (n:Int))).run Tryz.prog w=.ok (.slice (some ⟨w.heap.size,0,none⟩) n n) (w.alloc (.cells (madeCells #[.slice none 0 0] n) 86)) :=
 run_make_row' 84 86 (.slice none 0 0) 24 Tryz.underlying84 info31 rfl .i64 .i64 n (by omega) (by omega) w
def hdP (m n:Nat) (ks:List Bk):List Value:=ks.map (Bk.hd m)++List.replicate (n - ks.length) (.slice none 0 0)
structure Half (w W:World) (h m n:Nat) (ks:List Bk) (L:List (Nat×Obj)):Prop where
 mem:Mem w W ((h,.cells (hdP m n ks).toArray 86)::(ks.map Bk.ob++L))
 le:ks.length≤n
 ok:∀ k∈ks,k.Ok m
theorem half_start {w W:World} {L:List (Nat×Obj)} (hM:Mem w W L) (m n:Nat):Half w (W.alloc (.cells (madeCells #[.slice none 0 0] n) 86)) W.heap.size m n [] L:=by
 refine ⟨?_,by simp,by simp⟩
 have e:(hdP m n []).toArray=madeCells #[.slice none 0 0] n:=by
  apply Array.toList_inj.mp;rw [toList_madeCells_one];simp [hdP]
 rw [e]
 exact (hM.alloc _).perm List.perm_append_comm
theorem half_next {w W:World} {h m n:Nat} {ks:List Bk} {L:List (Nat×Obj)} (H:Half w W h m n ks L) {W1:World} {g:Nat} {cur:Array Value} {b:List Int} (hk:Mem W W1 [(g,.cells cur 5)])
  (hok:(Bk.mk g m cur b).Ok m) (hlt:ks.length < n):Half w (W1.setCell ⟨h,ks.length,none⟩ (.slice (some ⟨g,0,none⟩) m m)) h m n (ks++[Bk.mk g m cur b]) L:=by
 refine ⟨?_,by simp;omega,fun k hk=>?_⟩
 ·have h1:=H.mem.join hk
  have h2:Mem w W1 ((h,.cells (hdP m n ks).toArray 86)::((ks++[Bk.mk g m cur b]).map Bk.ob++L)):=by
   refine h1.perm ?_
   simp only [List.cons_append,List.map_append,List.append_assoc]
   exact ((List.perm_append_comm).append_left _).cons _
  have h3:=h2.set 0 rfl ks.length (.slice (some ⟨g,0,none⟩) m m)
  have e:(hdP m n ks).toArray.setIfInBounds ks.length (.slice (some ⟨g,0,none⟩) m m)=(hdP m n (ks++[Bk.mk g m cur b])).toArray:=by
   apply Array.toList_inj.mp
   rw [Array.toList_setIfInBounds]
   simp only [hdP,List.length_append,List.length_cons,List.length_nil,List.map_append,List.map_cons,List.map_nil]
   obtain ⟨d,hd⟩:∃ d,n - ks.length=d+1:=⟨n - ks.length - 1,by omega⟩
   rw [hd,show n - (ks.length+(0+1))=d by omega,List.replicate_succ,List.set_append_right _ _ (by simp)]
   simp [Bk.hd]
  rw [e] at h3
  exact h3
 ·rcases List.mem_append.mp hk with q | q
  ·exact H.ok k q
  ·simp at q;subst q;exact hok
theorem half_cell {w W:World} {h m n:Nat} {ks:List Bk} {L:List (Nat×Obj)} (H:Half w W h m n ks L) (hlt:ks.length < n):W.cell? ⟨h,ks.length,none⟩=some (.slice none 0 0):=by
 rw [H.mem.cell 0 rfl]
 simp [hdP,List.getElem?_append_right,List.getElem?_replicate]
 omega
theorem half_st {w W:World} {h m n:Nat} {ks:List Bk} {L:List (Nat×Obj)} (H:Half w W h m n ks L) (hn:ks.length=n) (D:Dk) :
  St w (W.alloc (.cells (dkA h n D) dkT)) W.heap.size (dkA h ks.length D) dkT h m (hdP m n ks).toArray ks L:=by
 subst hn
 refine ⟨?_,?_,H.ok⟩
 ·exact (H.mem.alloc _).perm (List.perm_append_comm (l₂:=[(W.heap.size,_)]))
 ·simp only [hdP,Nat.sub_self,List.replicate_zero,List.append_nil]
  exact List.take_of_length_le (by simp)
theorem made_ok (g m:Nat):(Bk.mk g m (bs (List.replicate m 0)) (List.replicate m 0)).Ok m:=by
 refine ⟨Nat.le_refl _,by simp,by simp,by simp,fun i=>?_⟩
 by_cases h:i < m
 ·simp [List.getD,h]
 ·simp [List.getD,h]
set_option maxRecDepth 20000 in
theorem dnew_any {w W:World} {L:List (Nat×Obj)} (hM:Mem w W L) (x y:Int) :
  Calls Tryz.prog 10 #[.int .i64 x,.int .i64 y] W fun e W'=>∃ p,e=.returned (.pointer (some ⟨p,0,none⟩))∧∃ h hc ks,DkAt w W' p h (dbd y 64 65536).toNat ⟨false,false,0,0⟩ hc ks L ∧
   ks.map Bk.b=List.replicate (dbd x 1 64).toNat (List.replicate (dbd y 64 65536).toNat 0):=by
 have b1:=bounded_any x 1 64 W
 have b2:∀ W,Calls Tryz.prog 39 #[.int .i64 y,.int .i64 64,.int .i64 65536] W _:=fun W=>bounded_any y 64 65536 W
 obtain ⟨n,en⟩:∃ n:Nat,dbd x 1 64=n:=⟨(dbd x 1 64).toNat,by have:1≤dbd x 1 64:=(by unfold dbd;omega);omega⟩
 obtain ⟨m,em⟩:∃ m:Nat,dbd y 64 65536=m:=⟨(dbd y 64 65536).toNat,by have:1≤dbd y 64 65536:=(by unfold dbd;omega);omega⟩
 have hn:1≤n∧n≤64:=by unfold dbd at en;omega
 have hm:64≤m∧m≤65536:=by unfold dbd at em;omega
 rw [en] at b1
 simp only [em] at b2
 rw [en,em,Int.toNat_natCast,Int.toNat_natCast]
 clear en em
 obtain ⟨hn1,hn2⟩:=hn
 obtain ⟨hm1,hm2⟩:=hm
 have hS:=make_slices n (by omega) W
 have hH:=half_start hM m n
 generalize W.alloc (.cells (madeCells #[.slice none 0 0] n) 86)=w1 at hS hH
 generalize W.heap.size=h at hS hH
 clear hM
 go_enter Tryz.func10,Tryz.ntmps10
 go_wp2_with fail
 refine b1.mono ?_
 rintro e w' ⟨rfl,rfl⟩
 clear b1
 go_wp2_with fail
 go_loopw [6,12] (fun u v wr=>∃ ks,v=.int .i64 (ks.length:Nat)∧Half w wr h m n ks L∧ks.map Bk.b=List.replicate ks.length (List.replicate m 0)) (fun _ v _=>n - (intOf v).toNat)
 case atStart=>exact ⟨[],rfl,hH,rfl⟩
 case round =>
  obtain ⟨ks,rfl,hK,hB⟩:=hrel
  have hle:=hK.le
  by_cases hlt:ks.length < n
  ·have c0:=half_cell hK hlt
   have hM:=make_bytes m (by omega) wr
   have hk:Mem wr (wr.alloc (.cells (madeCells #[.int .u8 0] m) 5)) [(wr.heap.size,.cells (bs (List.replicate m 0)) 5)]:=by rw [←bs_made];exact (Mem.nil wr).push1 rfl
   have c1:(wr.alloc (.cells (madeCells #[.int .u8 0] m) 5)).cell? ⟨h,ks.length,none⟩=some (.slice none 0 0):=by
    have:=cell_lt c0
    rw [←c0];exact hk.below.cell (p:=⟨h,ks.length,none⟩) this
   have HN:Hid (Half w _ h m n (ks++[Bk.mk wr.heap.size m _ _]) L):=half_next hK hk (made_ok wr.heap.size m) hlt
   have f1:(wr.alloc (.cells (madeCells #[.int .u8 0] m) 5)).frozen? ⟨h,ks.length,none⟩=false:=(hK.mem.join hk).free 0 rfl _
   have HB2:Hid ((ks++[Bk.mk wr.heap.size m (bs (List.replicate m 0)) (List.replicate m 0)]).map Bk.b=List.replicate (ks.length+1) (List.replicate m 0)):=by
    show _=_
    rw [List.map_append,hB,List.replicate_succ'];rfl
   have q0:((ks.length:Nat):Int) < (n:Int):=by omega
   have HL:Hid ((ks++[Bk.mk wr.heap.size m (bs (List.replicate m 0)) (List.replicate m 0)]).length=ks.length+1):=by show _=_;simp
   generalize ks++[Bk.mk wr.heap.size m (bs (List.replicate m 0)) (List.replicate m 0)]=ks2 at HN HB2 HL
   generalize wr.alloc (.cells (madeCells #[.int .u8 0] m) 5)=w2 at hM c1 HN f1
   generalize wr.heap.size=g at hM HN
   clear hk hK hB c0 hle hH hS
   generalize ks.length=i at *
   go_wp2_with fail
   refine (b2 _).mono ?_
   rintro e w' ⟨rfl,rfl⟩
   go_wp2
   go_roundw
   case rel=>exact ⟨ks2,by rw [HL.out];go_num,HN.out,by rw [HL.out];exact HB2.out⟩
   case measure=>simp [intOf];omega
  ·have hn:ks.length=n:=by omega
   have HS:Hid (St w _ _ _ _ h m _ ks L):=half_st hK hn ⟨false,false,0,0⟩
   have HN:Hid (ks.length=n):=hn
   rw [hn] at hB
   have q0:¬ ((ks.length:Nat):Int) < (n:Int):=by omega
   clear hK hle hlt hn hH hS
   go_wp2
   go_ret
   refine ⟨wr.heap.size,rfl,h,_,ks,⟨HS.out,?_,?_,hm1,hm2,by decide,⟨Int.le_refl 0,Int.natCast_nonneg m⟩⟩,hB⟩
   ·rw [HN.out];omega
   ·rw [HN.out];omega
end Go.Proofs.YtdigofgjhaakmaaGreatDoor
