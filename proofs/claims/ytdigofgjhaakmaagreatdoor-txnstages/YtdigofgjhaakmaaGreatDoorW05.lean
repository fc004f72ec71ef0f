/-
  Settings as bytes: the field of an array of bytes (lych/api.Tenant).
  Settings as bytes: the field of a number (uint32, uint32): what it writes, reads, holds to be the same.
  Settings as bytes: the field of a number (lych/api.Pair, uint32): what it writes, reads, holds to be the same.
  Settings as bytes: fields one behind the other (lych/api.Tenant).
  Settings as bytes: the field of a number (lych/api.Tenant, int): what it writes, reads, holds to be the same.
  Settings as bytes: the field of an array of bytes (lych/api.Config).
  What package log's put, get, same answer, and the statements' own crc and record.
  Of no one layer: a slice put behind a row of slices of the call's own, and bytes put behind nothing, with all that lies beside them kept.
  Settings as bytes: the field of a text (lych/api.Change).
-/
import Derived.Test.YtdigofgjhaakmaaGreatDoorW03
set_option linter.unusedVariables false
set_option maxRecDepth 20000
set_option maxHeartbeats 40000000
namespace Go.Proofs.YtdigofgjhaakmaaGreatDoor
open Go.RowKit
open Sm
open Cf
theorem owr_T {w W:World} {v:Value} {l:List Int} {L:List (Nat×Obj)} (h:Out w W v l L) (bo ko n:Nat) (p p':Addr) (x:List Int) (hn:x.length=n)
  (co:∀ V,Mem w V L→V.cell? ⟨bo,0,none⟩=some (.func (.func ko) #[] #[]))
  (eo:∀ args V,(callFunc ko args).run Tryz.prog V=.ok (.enter ko args) V) (ho:∀ V,Calls Tryz.prog ko #[.pointer (some p)] V fun e V'=>e=.returned (.slice (some p') n n)∧V=V')
  (cx:∀ V,Mem w V L→Row V (some p') x) (hb:l.length+n≤1000000000) :
  Calls Tryz.prog 279 #[v,.pointer (some p),.pointer (some ⟨bo,0,none⟩)] W fun e W'=>∃ v',e=.returned v'∧Out w W' v' (l++x) L:=by
 have c2:=co _ h.mem
 obtain ⟨v1,W1,hr,hO⟩:=out_append (c:=n) h p' n x hn (cx _ h.mem) hb 86
 have HO:Hid (Out w W1 v1 (l++x) L):=hO
 clear h co cx hO
 go_enter Tryz.func279,Tryz.ntmps279
 go_wp2_with fail
 refine (ho _).mono ?_
 rintro e V ⟨rfl,rfl⟩
 go_wp2_with (at_builtin;refine wpList_append_run (.tmp 6) (.tmp 9) 86 86 (by with_reducible rfl) hr rfl rfl (by simp [Act.eval]) (by simp [Act.eval]) ?_)
 go_ret
 exact ⟨_,rfl,HO.out⟩
theorem ord_T {w W:World} {a:Option Addr} {l:List Int} {c:Nat} {L:List (Nat×Obj)} {g:Nat} {A:Array Value} {T:TypeId} (hM:Mem w W ((g,.cells A T (0,0))::L)) (hS:Sl w a l c) (bo n ko j:Nat) (p:Addr) (hs:n≤8) (hn0:0 < n)
  (hj:j+n≤A.size)
  (co:∀ V,Mem w V L→V.cell? ⟨bo,0,none⟩=some (.func (.func ko) #[] #[]))
  (eo:∀ args V,(callFunc ko args).run Tryz.prog V=.ok (.enter ko args) V) (ho:∀ V,Calls Tryz.prog ko #[.pointer (some p)] V fun e V'=>e=.returned (.slice (some ⟨g,j,none⟩) n n)∧V=V') :
  Calls Tryz.prog 280 #[.slice a l.length c,.pointer (some p),.pointer (some ⟨bo,0,none⟩)] W (RPost w L (fun x W'=>Mem w W' ((g,.cells (spl A j x) T (0,0))::L)) (if l.length < n then none else some (l.take n,l.drop n))):=by
 have c1:=co _ hM.sub
 by_cases hlt:l.length < n
 ·rw [if_pos hlt]
  have C:=split_no W a l.length c n hlt (by omega)
  clear hS hlt
  go_enter Tryz.func280,Tryz.ntmps280
  go_wp2_with fail
  refine (ho _).mono ?_
  rintro e V ⟨rfl,rfl⟩
  go_wp2_with fail
  refine C.mono ?_
  rintro e V ⟨rfl,rfl⟩
  go_wp2_with fail
  go_ret2
  exact ⟨rfl,hM.sub⟩
 ·rw [if_neg hlt]
  have hle:n≤l.length:=by omega
  have C:=split_yes (hM.sl hS) n hle (by omega)
  have hlen:(l.take n).length=n:=by rw [List.length_take];omega
  obtain ⟨X,hX⟩:∃ X,l.take n=X:=⟨_,rfl⟩
  rw [hX] at hlen ⊢
  clear hlt hle
  go_enter Tryz.func280,Tryz.ntmps280
  go_wp2_with fail
  refine (ho _).mono ?_
  rintro e V ⟨rfl,rfl⟩
  go_wp2_with fail
  refine C.mono ?_
  rintro e V ⟨v1,v2,rfl,⟨a1,k1,a2,k2,rfl,rfl,hSp⟩,q,rfl⟩
  have hM1:=hM.drewN q
  generalize W.drewN q=V at hM1
  have hp:=(hSp V (hM1.sl hS)).1
  have hq:=(hSp w hS).2
  rw [hX] at hp
  obtain ⟨W2,hcp,hw2⟩:=copy_bytes V 3 (some ⟨g,j,none⟩) a1 n n n k1 g j A (spl A j X) T (hM1.get 0 rfl) X (by rw [hlen];exact (Nat.min_self n).symm)
   (fun h0=>⟨rfl,by
    rcases hp.row.cells with e | ⟨b,off,rfl,_⟩
    ·rw [e] at h0;simp at h0
    ·exact ⟨_,rfl,hp.row.news⟩⟩) (by omega) rfl
  rw [hlen] at hcp
  have c2:=co _ hM1.sub
  have HM2:Hid (Mem w W2 ((g,.cells (spl A j X) T (0,0))::L)):=hM1.wrote 0 rfl hw2
  clear hSp hp hM C hM1 hj co hw2 hX
  go_wp2_with fail
  refine (ho _).mono ?_
  rintro e V1 ⟨rfl,rfl⟩
  go_wp2_with fail
  go_ret2
  refine ⟨a2,k2,by rw [List.length_drop];rfl,hq,HM2.out⟩
theorem osm_T {w W:World} {L:List (Nat×Obj)} (h:Mem w W L) (bo ko n:Nat) (p p' q q':Addr) (x y:List Int) (hx:x.length=n) (hy:y.length=n)
  (co:∀ V,Mem w V L→V.cell? ⟨bo,0,none⟩=some (.func (.func ko) #[] #[]))
  (eo:∀ args V,(callFunc ko args).run Tryz.prog V=.ok (.enter ko args) V) (ho:∀ V,Calls Tryz.prog ko #[.pointer (some p)] V fun e V'=>e=.returned (.slice (some p') n n)∧V=V')
  (hq:∀ V,Calls Tryz.prog ko #[.pointer (some q)] V fun e V'=>e=.returned (.slice (some q') n n)∧V=V')
  (cx:∀ V,Mem w V L→Row V (some p') x) (cy:∀ V,Mem w V L→Row V (some q') y) :
  Calls Tryz.prog 281 #[.pointer (some p),.pointer (some q),.pointer (some ⟨bo,0,none⟩)] W fun e W'=>e=.returned (.bool (decide (x=y)))∧Mem w W' L:=by
 have HM:Hid (Mem w W.drew L):=h.drew
 have c2:=co _ HM.out
 have CE:=bequal_any (cx _ HM.out) (cy _ HM.out) n n hx hy n n
 clear h co cx cy
 go_enter Tryz.func281,Tryz.ntmps281
 go_upto_region 1 with fail
 go_region_held3 (fun V=>V.cell? ⟨bo,0,none⟩=some (.func (.func ko) #[] #[])) (go_keep)
  (first | (go_at_fn ko;with_reducible refine (ho _).mono ?_;rintro e V ⟨rfl,rfl⟩) | (go_at_fn ko;with_reducible refine (hq _).mono ?_;rintro e V ⟨rfl,rfl⟩) | (go_at_call 217;refine CE.mono ?_;rintro e V ⟨rfl,rfl⟩))
 go_wp2_with fail
 go_ret
 exact ⟨rfl,HM.out⟩
theorem nwr_UU {w W:World} {v:Value} {l:List Int} {L:List (Nat×Obj)} (h:Out w W v l L) (bs bo sz ko:Nat) (p p':Addr) (x:Int) (hs:sz≤7)
  (cs:∀ V,Mem w V L→V.cell? ⟨bs,0,none⟩=some (.int .i64 sz)) (co:∀ V,Mem w V L→V.cell? ⟨bo,0,none⟩=some (.func (.func ko) #[] #[]))
  (eo:∀ args V,(callFunc ko args).run Tryz.prog V=.ok (.enter ko args) V) (ho:∀ V,Calls Tryz.prog ko #[.pointer (some p)] V fun e V'=>e=.returned (.pointer (some p'))∧V=V')
  (cx:∀ V,Mem w V L→V.cell? p'=some (.int .u32 x)) (hb:l.length+sz≤1000000000) :
  Calls Tryz.prog 315 #[v,.pointer (some p),.pointer (some ⟨bs,0,none⟩),.pointer (some ⟨bo,0,none⟩)] W fun e W'=>∃ v',e=.returned v'∧Out w W' v' (l++be sz (IntKind.u64.wrap x)) L:=by
 have HO:Hid (Out w W.drew v l L):=h.after ((Below.refl _ _).drew)
 have c1:=cs _ HO.out.mem
 have c2:=co _ HO.out.mem
 have c3:=cx _ HO.out.mem
 have hx:0≤IntKind.u64.wrap x∧IntKind.u64.wrap x < 18446744073709551616:=by rw [wrapu64];omega
 have CP:Hid (∀ z,0≤z∧z < 18446744073709551616→Calls Tryz.prog 209 #[v,.int .i64 sz,.int .u64 z] W.drew fun e W'=>∃ v',e=.returned v'∧Out w W' v' (l++be sz z) L):=fun z hz=>put_any HO.out sz z hs hz hb
 have KS:Hid (∀ V v' l',Out w V v' l' L→V.cell? ⟨bs,0,none⟩=some (.int .i64 sz)∧V.cell? ⟨bo,0,none⟩=some (.func (.func ko) #[] #[])∧V.cell? p'=some (.int .u32 x)):=fun V v' l' hV=>⟨cs _ hV.mem,co _ hV.mem,cx _ hV.mem⟩
 clear h cs co cx
 go_enter Tryz.func315,Tryz.ntmps315
 go_upto_region 1 with fail
 go_region_held3 (fun V=>V.cell? ⟨bs,0,none⟩=some (.int .i64 sz)∧V.cell? ⟨bo,0,none⟩=some (.func (.func ko) #[] #[])∧V.cell? p'=some (.int .u32 x)) (first | go_keep | exact KS.out _ _ _ hO)
  (first | (go_at_fn ko;refine (ho _).mono ?_;rintro e V ⟨rfl,rfl⟩) | (go_at_call 209;refine (CP.out _ hx).mono ?_;rintro e V ⟨v',rfl,hO⟩))
 go_wp2_with fail
 go_ret
 exact ⟨_,rfl,hO⟩
theorem nrd_UU {w W:World} {a:Option Addr} {l:List Int} {c:Nat} {L:List (Nat×Obj)} {g:Nat} {A:Array Value} {T:TypeId} (hM:Mem w W ((g,.cells A T (0,0))::L)) (hS:Sl w a l c) (bs bo sz ko j:Nat) (p:Addr) (y:Int) (hs:sz≤4)
  (hfit:∀ q,0≤q→q < 256 ^ sz→IntKind.u32.wrap q=q) (hj:A[j]? = some (.int .u32 y))
  (cs:∀ V,Mem w V L→V.cell? ⟨bs,0,none⟩=some (.int .i64 sz)) (co:∀ V,Mem w V L→V.cell? ⟨bo,0,none⟩=some (.func (.func ko) #[] #[]))
  (eo:∀ args V,(callFunc ko args).run Tryz.prog V=.ok (.enter ko args) V) (ho:∀ V,Calls Tryz.prog ko #[.pointer (some p)] V fun e V'=>e=.returned (.pointer (some ⟨g,j,none⟩))∧V=V') :
  Calls Tryz.prog 316 #[.slice a l.length c,.pointer (some p),.pointer (some ⟨bs,0,none⟩),.pointer (some ⟨bo,0,none⟩)] W (RPost w L (fun x W'=>Mem w W' ((g,.cells (A.setIfInBounds j (.int .u32 x)) T (0,0))::L)) (if l.length < sz then none else some (num (l.take sz),l.drop sz))):=by
 have c1:=cs _ hM.sub
 by_cases hlt:l.length < sz
 ·rw [if_pos hlt]
  have C:=split_no W a l.length c sz hlt (by omega)
  clear hS hlt
  go_enter Tryz.func316,Tryz.ntmps316
  go_wp2_with fail
  refine C.mono ?_
  rintro e V ⟨rfl,rfl⟩
  go_wp2_with fail
  go_ret2
  exact ⟨rfl,hM.sub⟩
 ·rw [if_neg hlt]
  have hle:sz≤l.length:=by omega
  have C:=split_yes (hM.sl hS) sz hle (by omega)
  have hlen:(l.take sz).length=sz:=by rw [List.length_take];omega
  have hrg:=num_range (bytes_tk hS.row.bytes sz)
  rw [hlen] at hrg
  have hw:=hfit _ hrg.1 hrg.2
  clear hfit hlt hle hrg
  obtain ⟨N,hN⟩:∃ N,num (l.take sz)=N:=⟨_,rfl⟩
  rw [hN] at hw
  go_enter Tryz.func316,Tryz.ntmps316
  go_wp2_with fail
  refine C.mono ?_
  rintro e V ⟨v1,v2,rfl,⟨a1,k1,a2,k2,rfl,rfl,hSp⟩,q,rfl⟩
  have hM1:=hM.drewN q
  generalize W.drewN q=V at hM1
  have hp:=hSp V (hM1.sl hS)
  have hq:=(hSp w hS).2
  have CG:=get_any hp.1.row sz k1 hlen (by omega)
  rw [hN] at CG
  have c2:=co _ hM1.sub
  have c3:=(hM1.cell 0 rfl j).trans hj
  have f3:=hM1.free 0 rfl j
  have HM2:Hid (Mem w (V.setCell ⟨g,j,none⟩ (.int .u32 N)) ((g,.cells (A.setIfInBounds j (.int .u32 N)) T (0,0))::L)):=by
   have:=hM1.set 0 rfl j (.int .u32 N)
   exact this
  clear hSp hp hM C hM1 hj cs co
  go_wp2_with fail
  refine (ho _).mono ?_
  rintro e V1 ⟨rfl,rfl⟩
  go_wp2_with fail
  refine CG.mono ?_
  rintro e V1 ⟨rfl,rfl⟩
  go_wp2_with fail
  go_ret2
  refine ⟨a2,k2,by rw [List.length_drop];rfl,hq,?_⟩
  rw [hN];exact HM2.out
theorem nsm_UU {w W:World} {L:List (Nat×Obj)} (h:Mem w W L) (bo ko:Nat) (p p' q q':Addr) (x y:Int)
  (co:∀ V,Mem w V L→V.cell? ⟨bo,0,none⟩=some (.func (.func ko) #[] #[]))
  (eo:∀ args V,(callFunc ko args).run Tryz.prog V=.ok (.enter ko args) V) (ho:∀ V,Calls Tryz.prog ko #[.pointer (some p)] V fun e V'=>e=.returned (.pointer (some p'))∧V=V')
  (hq:∀ V,Calls Tryz.prog ko #[.pointer (some q)] V fun e V'=>e=.returned (.pointer (some q'))∧V=V')
  (cx:∀ V,Mem w V L→V.cell? p'=some (.int .u32 x)) (cy:∀ V,Mem w V L→V.cell? q'=some (.int .u32 y)) :
  Calls Tryz.prog 317 #[.pointer (some p),.pointer (some q),.pointer (some ⟨bo,0,none⟩)] W fun e W'=>e=.returned (.bool (decide (x=y)))∧Mem w W' L:=by
 have HM:Hid (Mem w W.drew L):=h.drew
 have c2:=co _ HM.out
 have c3:=cx _ HM.out
 have c4:=cy _ HM.out
 clear h co cx cy
 go_enter Tryz.func317,Tryz.ntmps317
 go_upto_region 1 with fail
 go_region_held3 (fun V=>V.cell? ⟨bo,0,none⟩=some (.func (.func ko) #[] #[])∧V.cell? p'=some (.int .u32 x)∧V.cell? q'=some (.int .u32 y)) (go_keep)
  (first | (go_at_fn ko;with_reducible refine (ho _).mono ?_;rintro e V ⟨rfl,rfl⟩) | (go_at_fn ko;with_reducible refine (hq _).mono ?_;rintro e V ⟨rfl,rfl⟩))
 go_wp2_with fail
 go_ret
 exact ⟨by simp <;> rfl,HM.out⟩
theorem nwr_PU {w W:World} {v:Value} {l:List Int} {L:List (Nat×Obj)} (h:Out w W v l L) (bs bo sz ko:Nat) (p p':Addr) (x:Int) (hs:sz≤7)
  (cs:∀ V,Mem w V L→V.cell? ⟨bs,0,none⟩=some (.int .i64 sz)) (co:∀ V,Mem w V L→V.cell? ⟨bo,0,none⟩=some (.func (.func ko) #[] #[]))
  (eo:∀ args V,(callFunc ko args).run Tryz.prog V=.ok (.enter ko args) V) (ho:∀ V,Calls Tryz.prog ko #[.pointer (some p)] V fun e V'=>e=.returned (.pointer (some p'))∧V=V')
  (cx:∀ V,Mem w V L→V.cell? p'=some (.int .u32 x)) (hb:l.length+sz≤1000000000) :
  Calls Tryz.prog 321 #[v,.pointer (some p),.pointer (some ⟨bs,0,none⟩),.pointer (some ⟨bo,0,none⟩)] W fun e W'=>∃ v',e=.returned v'∧Out w W' v' (l++be sz (IntKind.u64.wrap x)) L:=by
 have HO:Hid (Out w W.drew v l L):=h.after ((Below.refl _ _).drew)
 have c1:=cs _ HO.out.mem
 have c2:=co _ HO.out.mem
 have c3:=cx _ HO.out.mem
 have hx:0≤IntKind.u64.wrap x∧IntKind.u64.wrap x < 18446744073709551616:=by rw [wrapu64];omega
 have CP:Hid (∀ z,0≤z∧z < 18446744073709551616→Calls Tryz.prog 209 #[v,.int .i64 sz,.int .u64 z] W.drew fun e W'=>∃ v',e=.returned v'∧Out w W' v' (l++be sz z) L):=fun z hz=>put_any HO.out sz z hs hz hb
 have KS:Hid (∀ V v' l',Out w V v' l' L→V.cell? ⟨bs,0,none⟩=some (.int .i64 sz)∧V.cell? ⟨bo,0,none⟩=some (.func (.func ko) #[] #[])∧V.cell? p'=some (.int .u32 x)):=fun V v' l' hV=>⟨cs _ hV.mem,co _ hV.mem,cx _ hV.mem⟩
 clear h cs co cx
 go_enter Tryz.func321,Tryz.ntmps321
 go_upto_region 1 with fail
 go_region_held3 (fun V=>V.cell? ⟨bs,0,none⟩=some (.int .i64 sz)∧V.cell? ⟨bo,0,none⟩=some (.func (.func ko) #[] #[])∧V.cell? p'=some (.int .u32 x)) (first | go_keep | exact KS.out _ _ _ hO)
  (first | (go_at_fn ko;refine (ho _).mono ?_;rintro e V ⟨rfl,rfl⟩) | (go_at_call 209;refine (CP.out _ hx).mono ?_;rintro e V ⟨v',rfl,hO⟩))
 go_wp2_with fail
 go_ret
 exact ⟨_,rfl,hO⟩
theorem nrd_PU {w W:World} {a:Option Addr} {l:List Int} {c:Nat} {L:List (Nat×Obj)} {g:Nat} {A:Array Value} {T:TypeId} (hM:Mem w W ((g,.cells A T (0,0))::L)) (hS:Sl w a l c) (bs bo sz ko j:Nat) (p:Addr) (y:Int) (hs:sz≤4)
  (hfit:∀ q,0≤q→q < 256 ^ sz→IntKind.u32.wrap q=q) (hj:A[j]? = some (.int .u32 y))
  (cs:∀ V,Mem w V L→V.cell? ⟨bs,0,none⟩=some (.int .i64 sz)) (co:∀ V,Mem w V L→V.cell? ⟨bo,0,none⟩=some (.func (.func ko) #[] #[]))
  (eo:∀ args V,(callFunc ko args).run Tryz.prog V=.ok (.enter ko args) V) (ho:∀ V,Calls Tryz.prog ko #[.pointer (some p)] V fun e V'=>e=.returned (.pointer (some ⟨g,j,none⟩))∧V=V') :
  Calls Tryz.prog 322 #[.slice a l.length c,.pointer (some p),.pointer (some ⟨bs,0,none⟩),.pointer (some ⟨bo,0,none⟩)] W (RPost w L (fun x W'=>Mem w W' ((g,.cells (A.setIfInBounds j (.int .u32 x)) T (0,0))::L)) (if l.length < sz then none else some (num (l.take sz),l.drop sz))):=by
 have c1:=cs _ hM.sub
 by_cases hlt:l.length < sz
 ·rw [if_pos hlt]
  have C:=split_no W a l.length c sz hlt (by omega)
  clear hS hlt
  go_enter Tryz.func322,Tryz.ntmps322
  go_wp2_with fail
  refine C.mono ?_
  rintro e V ⟨rfl,rfl⟩
  go_wp2_with fail
  go_ret2
  exact ⟨rfl,hM.sub⟩
 ·rw [if_neg hlt]
  have hle:sz≤l.length:=by omega
  have C:=split_yes (hM.sl hS) sz hle (by omega)
  have hlen:(l.take sz).length=sz:=by rw [List.length_take];omega
  have hrg:=num_range (bytes_tk hS.row.bytes sz)
  rw [hlen] at hrg
  have hw:=hfit _ hrg.1 hrg.2
  clear hfit hlt hle hrg
  obtain ⟨N,hN⟩:∃ N,num (l.take sz)=N:=⟨_,rfl⟩
  rw [hN] at hw
  go_enter Tryz.func322,Tryz.ntmps322
  go_wp2_with fail
  refine C.mono ?_
  rintro e V ⟨v1,v2,rfl,⟨a1,k1,a2,k2,rfl,rfl,hSp⟩,q,rfl⟩
  have hM1:=hM.drewN q
  generalize W.drewN q=V at hM1
  have hp:=hSp V (hM1.sl hS)
  have hq:=(hSp w hS).2
  have CG:=get_any hp.1.row sz k1 hlen (by omega)
  rw [hN] at CG
  have c2:=co _ hM1.sub
  have c3:=(hM1.cell 0 rfl j).trans hj
  have f3:=hM1.free 0 rfl j
  have HM2:Hid (Mem w (V.setCell ⟨g,j,none⟩ (.int .u32 N)) ((g,.cells (A.setIfInBounds j (.int .u32 N)) T (0,0))::L)):=by
   have:=hM1.set 0 rfl j (.int .u32 N)
   exact this
  clear hSp hp hM C hM1 hj cs co
  go_wp2_with fail
  refine (ho _).mono ?_
  rintro e V1 ⟨rfl,rfl⟩
  go_wp2_with fail
  refine CG.mono ?_
  rintro e V1 ⟨rfl,rfl⟩
  go_wp2_with fail
  go_ret2
  refine ⟨a2,k2,by rw [List.length_drop];rfl,hq,?_⟩
  rw [hN];exact HM2.out
theorem nsm_PU {w W:World} {L:List (Nat×Obj)} (h:Mem w W L) (bo ko:Nat) (p p' q q':Addr) (x y:Int)
  (co:∀ V,Mem w V L→V.cell? ⟨bo,0,none⟩=some (.func (.func ko) #[] #[]))
  (eo:∀ args V,(callFunc ko args).run Tryz.prog V=.ok (.enter ko args) V) (ho:∀ V,Calls Tryz.prog ko #[.pointer (some p)] V fun e V'=>e=.returned (.pointer (some p'))∧V=V')
  (hq:∀ V,Calls Tryz.prog ko #[.pointer (some q)] V fun e V'=>e=.returned (.pointer (some q'))∧V=V')
  (cx:∀ V,Mem w V L→V.cell? p'=some (.int .u32 x)) (cy:∀ V,Mem w V L→V.cell? q'=some (.int .u32 y)) :
  Calls Tryz.prog 323 #[.pointer (some p),.pointer (some q),.pointer (some ⟨bo,0,none⟩)] W fun e W'=>e=.returned (.bool (decide (x=y)))∧Mem w W' L:=by
 have HM:Hid (Mem w W.drew L):=h.drew
 have c2:=co _ HM.out
 have c3:=cx _ HM.out
 have c4:=cy _ HM.out
 clear h co cx cy
 go_enter Tryz.func323,Tryz.ntmps323
 go_upto_region 1 with fail
 go_region_held3 (fun V=>V.cell? ⟨bo,0,none⟩=some (.func (.func ko) #[] #[])∧V.cell? p'=some (.int .u32 x)∧V.cell? q'=some (.int .u32 y)) (go_keep)
  (first | (go_at_fn ko;with_reducible refine (ho _).mono ?_;rintro e V ⟨rfl,rfl⟩) | (go_at_fn ko;with_reducible refine (hq _).mono ?_;rintro e V ⟨rfl,rfl⟩))
 go_wp2_with fail
 go_ret
 exact ⟨by simp <;> rfl,HM.out⟩
theorem awr_T {H:Value→List Int→World→Prop} (hst:∀ v l V V',H v l V→Below V.heap.size V V'→H v l V') (p:Addr) (cb lb n:Nat) (hn:n≤1000) (kw kr ks:Nat→Nat) (cw cr cs:Nat→Array Value)
  (hcb:∀ v l V,H v l V→V.cell? ⟨cb,0,none⟩=some (.slice (some ⟨lb,0,none⟩) n n))
  (hlb:∀ v l V,H v l V→∀ i,i < n→V.cell? ⟨lb,i * 3,none⟩=some (.func (.func (kw i)) #[] (cw i))∧V.cell? ⟨lb,i * 3+1,none⟩=some (.func (.func (kr i)) #[] (cr i))∧V.cell? ⟨lb,i * 3+2,none⟩=some (.func (.func (ks i)) #[] (cs i)))
  (enc:Nat→List Int) (en:∀ i,i < n→∀ args V,(callFunc (kw i) args).run Tryz.prog V=.ok (.enter (kw i) args) V)
  (hw:∀ i,i < n→∀ v l V,H v l V→l.length+(enc i).length≤1000000000→Calls Tryz.prog (kw i) (#[v,.pointer (some p)]++cw i) V fun e V'=>∃ v',e=.returned v'∧H v' (l++enc i) V')
  (v:Value) (l:List Int) (W:World) (h:H v l W) (hb:l.length+(cat enc n).length≤1000000000) :
  Calls Tryz.prog 270 #[v,.pointer (some p),.pointer (some ⟨cb,0,none⟩)] W fun e W'=>∃ v',e=.returned v'∧H v' (l++cat enc n) W':=by
 have c0:=hcb _ _ _ h
 go_enter Tryz.func270,Tryz.ntmps270
 go_wp2_with fail
 go_loopw [0,10] (fun u0 u10 w'=>∃ i:Nat,i≤n∧u10=.int .i64 i∧Hid (H u0 (l++cat enc i) w')) (fun u0 u10 w'=>n - (intOf u10).toNat)
 case atStart=>exact ⟨0,Nat.zero_le _,rfl,by rw [cat,List.append_nil];exact h⟩
 case round =>
  obtain ⟨i,hi,rfl,HR⟩:=hrel
  by_cases hlt:i < n
  ·have h1:(i:Int) < n:=by omega
   obtain ⟨d0,d1,d2⟩:=hlb _ _ _ HR.out i hlt
   have eg:=en i hlt
   have HW:Hid (∀ V,Below wr.heap.size wr V→Calls Tryz.prog (kw i) (#[u0,.pointer (some p)]++cw i) V fun e V'=>∃ v',e=.returned v'∧H v' (l++cat enc (i+1)) V'):=by
    intro V hV
    have:=hw i hlt u0 _ V (hst _ _ _ _ HR.out hV) (by rw [List.length_append];have:=cat_le enc i n hlt;omega)
    rwa [List.append_assoc] at this
   clear hw en hlb hcb hst c0
   generalize kw i=k1 at d0 eg HW
   generalize kr i=k2 at d1
   generalize ks i=k3 at d2
   generalize cw i=q1 at d0 HW
   generalize cr i=q2 at d1
   generalize cs i=q3 at d2
   go_wp2_with fail
   refine (HW.out _ ?hb).mono ?_
   case hb=>exact (Below.refl _ _).alloc (Nat.le_refl _) _
   rintro e V ⟨v',rfl,hH⟩
   have HH:Hid (H v' (l++cat enc (i+1)) V):=hH
   clear hH HW HR
   go_wp2_with fail
   go_roundw
   case rel=>exact ⟨i+1,by omega,by go_num,HH⟩
   case measure=>simp [intOf];omega
  ·have h1:¬ ((i:Int) < n):=by omega
   obtain rfl:i=n:=by omega
   go_wp2_with fail
   go_ret
   exact ⟨_,rfl,HR.out⟩
theorem ard_T {σ:Type} {w:World} {L:List (Nat×Obj)} {J:σ→World→Prop} (hst:∀ s V V',J s V→Below V.heap.size V V'→J s V') (p:Addr) (cb lb n:Nat) (hn:n≤1000) (kw kr ks:Nat→Nat) (cw cr cs:Nat→Array Value)
  (hcb:∀ s V,J s V→V.cell? ⟨cb,0,none⟩=some (.slice (some ⟨lb,0,none⟩) n n))
  (hlb:∀ s V,J s V→∀ i,i < n→V.cell? ⟨lb,i * 3,none⟩=some (.func (.func (kw i)) #[] (cw i))∧V.cell? ⟨lb,i * 3+1,none⟩=some (.func (.func (kr i)) #[] (cr i))∧V.cell? ⟨lb,i * 3+2,none⟩=some (.func (.func (ks i)) #[] (cs i)))
  (dec:Nat→List Int→σ→Option (σ×List Int)) (en:∀ i,i < n→∀ args V,(callFunc (kr i) args).run Tryz.prog V=.ok (.enter (kr i) args) V)
  (hr:∀ i,i < n→∀ s l a c V,J s V→Sl w a l c→Calls Tryz.prog (kr i) (#[.slice a l.length c,.pointer (some p)]++cr i) V (RPost w L J (dec i l s)))
  (s:σ) (l:List Int) (a:Option Addr) (c:Nat) (W:World) (h:J s W) (hS:Sl w a l c) :
  Calls Tryz.prog 271 #[.slice a l.length c,.pointer (some p),.pointer (some ⟨cb,0,none⟩)] W (RPost w L J (sq dec 0 n l s)):=by
 have c0:=hcb _ _ h
 obtain ⟨R,hR⟩:∃ R,sq dec 0 n l s=R:=⟨_,rfl⟩
 rw [hR]
 go_enter Tryz.func271,Tryz.ntmps271
 go_wp2_with fail
 go_loopw [0,13] (fun u0 u13 w'=>∃ (i:Nat) (s':σ) (l':List Int) (a':Option Addr) (c':Nat),i≤n∧u13=.int .i64 i∧u0=.slice a' l'.length c'∧Hid (J s' w'∧Sl w a' l' c'∧sq dec i (n - i) l' s'=R)) (fun u0 u13 w'=>n - (intOf u13).toNat)
 case atStart=>exact ⟨0,s,l,a,c,Nat.zero_le _,rfl,rfl,h,hS,by simpa using hR⟩
 case round =>
  obtain ⟨i,s',l',a',c',hi,rfl,rfl,HR⟩:=hrel
  obtain ⟨hJ,hSl,hsq⟩:=HR.out
  by_cases hlt:i < n
  ·have h1:(i:Int) < n:=by omega
   obtain ⟨d0,d1,d2⟩:=hlb _ _ hJ i hlt
   have eg:=en i hlt
   have HW:Hid (∀ V,Below wr.heap.size wr V→Calls Tryz.prog (kr i) (#[.slice a' l'.length c',.pointer (some p)]++cr i) V (RPost w L J (dec i l' s'))):=fun V hV=>hr i hlt s' l' a' c' V (hst _ _ _ hJ hV) hSl
   rw [show n - i=(n - (i+1))+1 by omega,sq] at hsq
   clear hr en hlb hcb hst c0 hJ hSl hR HR h hS
   generalize kw i=k1 at d0
   generalize kr i=k2 at d1 eg HW
   generalize ks i=k3 at d2
   generalize cw i=q1 at d0
   generalize cr i=q2 at d1 HW
   generalize cs i=q3 at d2
   generalize l'.length=m at HW
   cases hd:dec i l' s' with
   | none =>
    rw [hd] at hsq HW
    simp only at hsq
    subst hsq
    go_wp2_with fail
    refine (HW.out _ ?hb).mono ?_
    case hb=>exact (Below.refl _ _).alloc (Nat.le_refl _) _
    rintro e V ⟨rfl,hM⟩
    clear HW
    go_wp2_with fail
    go_ret2
    exact ⟨rfl,hM⟩
   | some x =>
    obtain ⟨s2,l2⟩:=x
    rw [hd] at hsq HW
    simp only at hsq
    go_wp2_with fail
    refine (HW.out _ ?hb2).mono ?_
    case hb2=>exact (Below.refl _ _).alloc (Nat.le_refl _) _
    rintro e V ⟨a2,c2,rfl,hS2,hJ2⟩
    have HH:Hid (J s2 V∧Sl w a2 l2 c2∧sq dec (i+1) (n - (i+1)) l2 s2=R):=⟨hJ2,hS2,hsq⟩
    clear HW hJ2 hS2 hsq hd
    go_wp2_with fail
    go_roundw
    case rel=>exact ⟨i+1,s2,l2,a2,c2,by omega,by go_num,rfl,HH⟩
    case measure=>simp [intOf];omega
  ·have h1:¬ ((i:Int) < n):=by omega
   obtain rfl:i=n:=by omega
   rw [Nat.sub_self,sq] at hsq
   subst hsq
   clear HR
   go_wp2_with fail
   go_ret2
   exact ⟨_,_,rfl,hSl,hJ⟩
theorem asm_T {M:World→Prop} (hst:∀ V V',M V→Below V.heap.size V V'→M V') (p q:Addr) (cb lb n:Nat) (hn:n≤1000) (kw kr ks:Nat→Nat) (cw cr cs:Nat→Array Value)
  (hcb:∀ V,M V→V.cell? ⟨cb,0,none⟩=some (.slice (some ⟨lb,0,none⟩) n n))
  (hlb:∀ V,M V→∀ i,i < n→V.cell? ⟨lb,i * 3,none⟩=some (.func (.func (kw i)) #[] (cw i))∧V.cell? ⟨lb,i * 3+1,none⟩=some (.func (.func (kr i)) #[] (cr i))∧V.cell? ⟨lb,i * 3+2,none⟩=some (.func (.func (ks i)) #[] (cs i)))
  (eq:Nat→Bool) (en:∀ i,i < n→∀ args V,(callFunc (ks i) args).run Tryz.prog V=.ok (.enter (ks i) args) V)
  (hr:∀ i,i < n→∀ V,M V→Calls Tryz.prog (ks i) (#[.pointer (some p),.pointer (some q)]++cs i) V fun e V'=>e=.returned (.bool (eq i))∧M V')
  (W:World) (h:M W) :
  Calls Tryz.prog 272 #[.pointer (some p),.pointer (some q),.pointer (some ⟨cb,0,none⟩)] W fun e V'=>e=.returned (.bool (decide (∀ i,i < n→eq i=true)))∧M V':=by
 have c0:=hcb _ h
 obtain ⟨D,hD⟩:∃ D,decide (∀ i,i < n→eq i=true)=D:=⟨_,rfl⟩
 rw [hD]
 go_enter Tryz.func272,Tryz.ntmps272
 go_wp2_with fail
 go_loopw [10] (fun u10 w'=>∃ (i:Nat),i≤n∧u10=.int .i64 i∧Hid (M w'∧∀ j,j < i→eq j=true)) (fun u10 w'=>n - (intOf u10).toNat)
 case atStart=>exact ⟨0,Nat.zero_le _,rfl,h,fun j hj=>by omega⟩
 case round =>
  obtain ⟨i,hi,rfl,HR⟩:=hrel
  obtain ⟨hM,hall⟩:=HR.out
  by_cases hlt:i < n
  ·have h1:(i:Int) < n:=by omega
   obtain ⟨d0,d1,d2⟩:=hlb _ hM i hlt
   have eg:=en i hlt
   have HW:Hid (∀ V,Below wr.heap.size wr V→Calls Tryz.prog (ks i) (#[.pointer (some p),.pointer (some q)]++cs i) V fun e V'=>e=.returned (.bool (eq i))∧M V'):=fun V hV=>hr i hlt V (hst _ _ hM hV)
   have HA:Hid (∀ j,j < i→eq j=true):=hall
   clear hr en hlb hcb hst c0 hM HR h hall
   generalize kw i=k1 at d0
   generalize kr i=k2 at d1
   generalize ks i=k3 at d2 eg HW
   generalize cw i=q1 at d0
   generalize cr i=q2 at d1
   generalize cs i=q3 at d2 HW
   cases hd:eq i with
   | false =>
    rw [hd] at HW
    obtain rfl:D=false:=by
     rw [←hD]
     apply decide_eq_false
     intro hc
     have:=hc i hlt
     rw [hd] at this
     cases this
    clear hd hD
    go_wp2_with fail
    refine (HW.out _ ?hb).mono ?_
    case hb=>exact (Below.refl _ _).alloc (Nat.le_refl _) _
    rintro e V ⟨rfl,hM⟩
    clear HW
    go_wp2_with fail
    go_ret
    exact ⟨rfl,hM⟩
   | true =>
    rw [hd] at HW
    have HF:Hid (∀ j,j < i+1→eq j=true):=by
     intro j hj
     by_cases e:j=i
     ·subst e;exact hd
     ·exact HA.out j (by omega)
    clear hd
    go_wp2_with fail
    refine (HW.out _ ?hb2).mono ?_
    case hb2=>exact (Below.refl _ _).alloc (Nat.le_refl _) _
    rintro e V ⟨rfl,hM⟩
    have HH:Hid (M V∧∀ j,j < i+1→eq j=true):=⟨hM,HF.out⟩
    clear HW hM
    go_wp2_with fail
    go_roundw
    case rel=>exact ⟨i+1,by omega,by go_num,HH⟩
    case measure=>simp [intOf];omega
  ·have h1:¬ ((i:Int) < n):=by omega
   obtain rfl:i=n:=by omega
   obtain rfl:D=true:=by
    rw [←hD]
    exact decide_eq_true hall
   clear HR hall hD
   go_wp2_with fail
   go_ret
   exact ⟨rfl,hM⟩
theorem nwr_TI {w W:World} {v:Value} {l:List Int} {L:List (Nat×Obj)} (h:Out w W v l L) (bs bo sz ko:Nat) (p p':Addr) (x:Int) (hs:sz≤7)
  (cs:∀ V,Mem w V L→V.cell? ⟨bs,0,none⟩=some (.int .i64 sz)) (co:∀ V,Mem w V L→V.cell? ⟨bo,0,none⟩=some (.func (.func ko) #[] #[]))
  (eo:∀ args V,(callFunc ko args).run Tryz.prog V=.ok (.enter ko args) V) (ho:∀ V,Calls Tryz.prog ko #[.pointer (some p)] V fun e V'=>e=.returned (.pointer (some p'))∧V=V')
  (cx:∀ V,Mem w V L→V.cell? p'=some (.int .i64 x)) (hb:l.length+sz≤1000000000) :
  Calls Tryz.prog 285 #[v,.pointer (some p),.pointer (some ⟨bs,0,none⟩),.pointer (some ⟨bo,0,none⟩)] W fun e W'=>∃ v',e=.returned v'∧Out w W' v' (l++be sz (IntKind.u64.wrap x)) L:=by
 have HO:Hid (Out w W.drew v l L):=h.after ((Below.refl _ _).drew)
 have c1:=cs _ HO.out.mem
 have c2:=co _ HO.out.mem
 have c3:=cx _ HO.out.mem
 have hx:0≤IntKind.u64.wrap x∧IntKind.u64.wrap x < 18446744073709551616:=by rw [wrapu64];omega
 have CP:Hid (∀ z,0≤z∧z < 18446744073709551616→Calls Tryz.prog 209 #[v,.int .i64 sz,.int .u64 z] W.drew fun e W'=>∃ v',e=.returned v'∧Out w W' v' (l++be sz z) L):=fun z hz=>put_any HO.out sz z hs hz hb
 have KS:Hid (∀ V v' l',Out w V v' l' L→V.cell? ⟨bs,0,none⟩=some (.int .i64 sz)∧V.cell? ⟨bo,0,none⟩=some (.func (.func ko) #[] #[])∧V.cell? p'=some (.int .i64 x)):=fun V v' l' hV=>⟨cs _ hV.mem,co _ hV.mem,cx _ hV.mem⟩
 clear h cs co cx
 go_enter Tryz.func285,Tryz.ntmps285
 go_upto_region 1 with fail
 go_region_held3 (fun V=>V.cell? ⟨bs,0,none⟩=some (.int .i64 sz)∧V.cell? ⟨bo,0,none⟩=some (.func (.func ko) #[] #[])∧V.cell? p'=some (.int .i64 x)) (first | go_keep | exact KS.out _ _ _ hO)
  (first | (go_at_fn ko;refine (ho _).mono ?_;rintro e V ⟨rfl,rfl⟩) | (go_at_call 209;refine (CP.out _ hx).mono ?_;rintro e V ⟨v',rfl,hO⟩))
 go_wp2_with fail
 go_ret
 exact ⟨_,rfl,hO⟩
theorem nrd_TI {w W:World} {a:Option Addr} {l:List Int} {c:Nat} {L:List (Nat×Obj)} {g:Nat} {A:Array Value} {T:TypeId} (hM:Mem w W ((g,.cells A T (0,0))::L)) (hS:Sl w a l c) (bs bo sz ko j:Nat) (p:Addr) (y:Int) (hs:sz≤4)
  (hfit:∀ q,0≤q→q < 256 ^ sz→IntKind.i64.wrap q=q) (hj:A[j]? = some (.int .i64 y))
  (cs:∀ V,Mem w V L→V.cell? ⟨bs,0,none⟩=some (.int .i64 sz)) (co:∀ V,Mem w V L→V.cell? ⟨bo,0,none⟩=some (.func (.func ko) #[] #[]))
  (eo:∀ args V,(callFunc ko args).run Tryz.prog V=.ok (.enter ko args) V) (ho:∀ V,Calls Tryz.prog ko #[.pointer (some p)] V fun e V'=>e=.returned (.pointer (some ⟨g,j,none⟩))∧V=V') :
  Calls Tryz.prog 286 #[.slice a l.length c,.pointer (some p),.pointer (some ⟨bs,0,none⟩),.pointer (some ⟨bo,0,none⟩)] W (RPost w L (fun x W'=>Mem w W' ((g,.cells (A.setIfInBounds j (.int .i64 x)) T (0,0))::L)) (if l.length < sz then none else some (num (l.take sz),l.drop sz))):=by
 have c1:=cs _ hM.sub
 by_cases hlt:l.length < sz
 ·rw [if_pos hlt]
  have C:=split_no W a l.length c sz hlt (by omega)
  clear hS hlt
  go_enter Tryz.func286,Tryz.ntmps286
  go_wp2_with fail
  refine C.mono ?_
  rintro e V ⟨rfl,rfl⟩
  go_wp2_with fail
  go_ret2
  exact ⟨rfl,hM.sub⟩
 ·rw [if_neg hlt]
  have hle:sz≤l.length:=by omega
  have C:=split_yes (hM.sl hS) sz hle (by omega)
  have hlen:(l.take sz).length=sz:=by rw [List.length_take];omega
  have hrg:=num_range (bytes_tk hS.row.bytes sz)
  rw [hlen] at hrg
  have hw:=hfit _ hrg.1 hrg.2
  clear hfit hlt hle hrg
  obtain ⟨N,hN⟩:∃ N,num (l.take sz)=N:=⟨_,rfl⟩
  rw [hN] at hw
  go_enter Tryz.func286,Tryz.ntmps286
  go_wp2_with fail
  refine C.mono ?_
  rintro e V ⟨v1,v2,rfl,⟨a1,k1,a2,k2,rfl,rfl,hSp⟩,q,rfl⟩
  have hM1:=hM.drewN q
  generalize W.drewN q=V at hM1
  have hp:=hSp V (hM1.sl hS)
  have hq:=(hSp w hS).2
  have CG:=get_any hp.1.row sz k1 hlen (by omega)
  rw [hN] at CG
  have c2:=co _ hM1.sub
  have c3:=(hM1.cell 0 rfl j).trans hj
  have f3:=hM1.free 0 rfl j
  have HM2:Hid (Mem w (V.setCell ⟨g,j,none⟩ (.int .i64 N)) ((g,.cells (A.setIfInBounds j (.int .i64 N)) T (0,0))::L)):=by
   have:=hM1.set 0 rfl j (.int .i64 N)
   exact this
  clear hSp hp hM C hM1 hj cs co
  go_wp2_with fail
  refine (ho _).mono ?_
  rintro e V1 ⟨rfl,rfl⟩
  go_wp2_with fail
  refine CG.mono ?_
  rintro e V1 ⟨rfl,rfl⟩
  go_wp2_with fail
  go_ret2
  refine ⟨a2,k2,by rw [List.length_drop];rfl,hq,?_⟩
  rw [hN];exact HM2.out
theorem nsm_TI {w W:World} {L:List (Nat×Obj)} (h:Mem w W L) (bo ko:Nat) (p p' q q':Addr) (x y:Int)
  (co:∀ V,Mem w V L→V.cell? ⟨bo,0,none⟩=some (.func (.func ko) #[] #[]))
  (eo:∀ args V,(callFunc ko args).run Tryz.prog V=.ok (.enter ko args) V) (ho:∀ V,Calls Tryz.prog ko #[.pointer (some p)] V fun e V'=>e=.returned (.pointer (some p'))∧V=V')
  (hq:∀ V,Calls Tryz.prog ko #[.pointer (some q)] V fun e V'=>e=.returned (.pointer (some q'))∧V=V')
  (cx:∀ V,Mem w V L→V.cell? p'=some (.int .i64 x)) (cy:∀ V,Mem w V L→V.cell? q'=some (.int .i64 y)) :
  Calls Tryz.prog 287 #[.pointer (some p),.pointer (some q),.pointer (some ⟨bo,0,none⟩)] W fun e W'=>e=.returned (.bool (decide (x=y)))∧Mem w W' L:=by
 have HM:Hid (Mem w W.drew L):=h.drew
 have c2:=co _ HM.out
 have c3:=cx _ HM.out
 have c4:=cy _ HM.out
 clear h co cx cy
 go_enter Tryz.func287,Tryz.ntmps287
 go_upto_region 1 with fail
 go_region_held3 (fun V=>V.cell? ⟨bo,0,none⟩=some (.func (.func ko) #[] #[])∧V.cell? p'=some (.int .i64 x)∧V.cell? q'=some (.int .i64 y)) (go_keep)
  (first | (go_at_fn ko;with_reducible refine (ho _).mono ?_;rintro e V ⟨rfl,rfl⟩) | (go_at_fn ko;with_reducible refine (hq _).mono ?_;rintro e V ⟨rfl,rfl⟩))
 go_wp2_with fail
 go_ret
 exact ⟨by simp <;> rfl,HM.out⟩
theorem owr_C {w W:World} {v:Value} {l:List Int} {L:List (Nat×Obj)} (h:Out w W v l L) (bo ko n:Nat) (p p':Addr) (x:List Int) (hn:x.length=n)
  (co:∀ V,Mem w V L→V.cell? ⟨bo,0,none⟩=some (.func (.func ko) #[] #[]))
  (eo:∀ args V,(callFunc ko args).run Tryz.prog V=.ok (.enter ko args) V) (ho:∀ V,Calls Tryz.prog ko #[.pointer (some p)] V fun e V'=>e=.returned (.slice (some p') n n)∧V=V')
  (cx:∀ V,Mem w V L→Row V (some p') x) (hb:l.length+n≤1000000000) :
  Calls Tryz.prog 214 #[v,.pointer (some p),.pointer (some ⟨bo,0,none⟩)] W fun e W'=>∃ v',e=.returned v'∧Out w W' v' (l++x) L:=by
 have c2:=co _ h.mem
 obtain ⟨v1,W1,hr,hO⟩:=out_append (c:=n) h p' n x hn (cx _ h.mem) hb 86
 have HO:Hid (Out w W1 v1 (l++x) L):=hO
 clear h co cx hO
 go_enter Tryz.func214,Tryz.ntmps214
 go_wp2_with fail
 refine (ho _).mono ?_
 rintro e V ⟨rfl,rfl⟩
 go_wp2_with (at_builtin;refine wpList_append_run (.tmp 6) (.tmp 9) 86 86 (by with_reducible rfl) hr rfl rfl (by simp [Act.eval]) (by simp [Act.eval]) ?_)
 go_ret
 exact ⟨_,rfl,HO.out⟩
theorem ord_C {w W:World} {a:Option Addr} {l:List Int} {c:Nat} {L:List (Nat×Obj)} {g:Nat} {A:Array Value} {T:TypeId} (hM:Mem w W ((g,.cells A T (0,0))::L)) (hS:Sl w a l c) (bo n ko j:Nat) (p:Addr) (hs:n≤8) (hn0:0 < n)
  (hj:j+n≤A.size)
  (co:∀ V,Mem w V L→V.cell? ⟨bo,0,none⟩=some (.func (.func ko) #[] #[]))
  (eo:∀ args V,(callFunc ko args).run Tryz.prog V=.ok (.enter ko args) V) (ho:∀ V,Calls Tryz.prog ko #[.pointer (some p)] V fun e V'=>e=.returned (.slice (some ⟨g,j,none⟩) n n)∧V=V') :
  Calls Tryz.prog 215 #[.slice a l.length c,.pointer (some p),.pointer (some ⟨bo,0,none⟩)] W (RPost w L (fun x W'=>Mem w W' ((g,.cells (spl A j x) T (0,0))::L)) (if l.length < n then none else some (l.take n,l.drop n))):=by
 have c1:=co _ hM.sub
 by_cases hlt:l.length < n
 ·rw [if_pos hlt]
  have C:=split_no W a l.length c n hlt (by omega)
  clear hS hlt
  go_enter Tryz.func215,Tryz.ntmps215
  go_wp2_with fail
  refine (ho _).mono ?_
  rintro e V ⟨rfl,rfl⟩
  go_wp2_with fail
  refine C.mono ?_
  rintro e V ⟨rfl,rfl⟩
  go_wp2_with fail
  go_ret2
  exact ⟨rfl,hM.sub⟩
 ·rw [if_neg hlt]
  have hle:n≤l.length:=by omega
  have C:=split_yes (hM.sl hS) n hle (by omega)
  have hlen:(l.take n).length=n:=by rw [List.length_take];omega
  obtain ⟨X,hX⟩:∃ X,l.take n=X:=⟨_,rfl⟩
  rw [hX] at hlen ⊢
  clear hlt hle
  go_enter Tryz.func215,Tryz.ntmps215
  go_wp2_with fail
  refine (ho _).mono ?_
  rintro e V ⟨rfl,rfl⟩
  go_wp2_with fail
  refine C.mono ?_
  rintro e V ⟨v1,v2,rfl,⟨a1,k1,a2,k2,rfl,rfl,hSp⟩,q,rfl⟩
  have hM1:=hM.drewN q
  generalize W.drewN q=V at hM1
  have hp:=(hSp V (hM1.sl hS)).1
  have hq:=(hSp w hS).2
  rw [hX] at hp
  obtain ⟨W2,hcp,hw2⟩:=copy_bytes V 3 (some ⟨g,j,none⟩) a1 n n n k1 g j A (spl A j X) T (hM1.get 0 rfl) X (by rw [hlen];exact (Nat.min_self n).symm)
   (fun h0=>⟨rfl,by
    rcases hp.row.cells with e | ⟨b,off,rfl,_⟩
    ·rw [e] at h0;simp at h0
    ·exact ⟨_,rfl,hp.row.news⟩⟩) (by omega) rfl
  rw [hlen] at hcp
  have c2:=co _ hM1.sub
  have HM2:Hid (Mem w W2 ((g,.cells (spl A j X) T (0,0))::L)):=hM1.wrote 0 rfl hw2
  clear hSp hp hM C hM1 hj co hw2 hX
  go_wp2_with fail
  refine (ho _).mono ?_
  rintro e V1 ⟨rfl,rfl⟩
  go_wp2_with fail
  go_ret2
  refine ⟨a2,k2,by rw [List.length_drop];rfl,hq,HM2.out⟩
theorem osm_C {w W:World} {L:List (Nat×Obj)} (h:Mem w W L) (bo ko n:Nat) (p p' q q':Addr) (x y:List Int) (hx:x.length=n) (hy:y.length=n)
  (co:∀ V,Mem w V L→V.cell? ⟨bo,0,none⟩=some (.func (.func ko) #[] #[]))
  (eo:∀ args V,(callFunc ko args).run Tryz.prog V=.ok (.enter ko args) V) (ho:∀ V,Calls Tryz.prog ko #[.pointer (some p)] V fun e V'=>e=.returned (.slice (some p') n n)∧V=V')
  (hq:∀ V,Calls Tryz.prog ko #[.pointer (some q)] V fun e V'=>e=.returned (.slice (some q') n n)∧V=V')
  (cx:∀ V,Mem w V L→Row V (some p') x) (cy:∀ V,Mem w V L→Row V (some q') y) :
  Calls Tryz.prog 216 #[.pointer (some p),.pointer (some q),.pointer (some ⟨bo,0,none⟩)] W fun e W'=>e=.returned (.bool (decide (x=y)))∧Mem w W' L:=by
 have HM:Hid (Mem w W.drew L):=h.drew
 have c2:=co _ HM.out
 have CE:=bequal_any (cx _ HM.out) (cy _ HM.out) n n hx hy n n
 clear h co cx cy
 go_enter Tryz.func216,Tryz.ntmps216
 go_upto_region 1 with fail
 go_region_held3 (fun V=>V.cell? ⟨bo,0,none⟩=some (.func (.func ko) #[] #[])) (go_keep)
  (first | (go_at_fn ko;with_reducible refine (ho _).mono ?_;rintro e V ⟨rfl,rfl⟩) | (go_at_fn ko;with_reducible refine (hq _).mono ?_;rintro e V ⟨rfl,rfl⟩) | (go_at_call 217;refine CE.mono ?_;rintro e V ⟨rfl,rfl⟩))
 go_wp2_with fail
 go_ret
 exact ⟨rfl,HM.out⟩
end Go.Proofs.YtdigofgjhaakmaaGreatDoor
namespace Go.Proofs.YtdigofgjhaakmaaGreatDoor
open Go.RowKit
open Sm
def lspl (l:List Int) (off:Nat) (b:List Int):List Int:=l.take off++(b++l.drop (off+b.length))
theorem spl_length (l:List Int) (off:Nat) (b:List Int) (h:off+b.length≤l.length):(lspl l off b).length=l.length:=by simp [lspl];omega
theorem spl_nil (l:List Int) (off:Nat):lspl l off []=l:=by simp [lspl]
theorem spl_bytes {l b:List Int} (hl:IsBytes l) (hb:IsBytes b) (off:Nat):IsBytes (lspl l off b):=by
 refine lbytes_app ?_ (lbytes_app hb ?_)
 ·have:=sl_bytes hl 0 off;simpa [sl] using this
 ·have:=sl_bytes hl (off+b.length) l.length
  have e:sl l (off+b.length) l.length=l.drop (off+b.length):=by unfold sl;exact List.take_of_length_le (by simp)
  rwa [e] at this
theorem spl_set (l:List Int) (off i:Nat) (b:List Int) (hi:i < b.length) (h:off+b.length≤l.length):(lspl l off (b.take i)).set (off+i) (b.getD i 0)=lspl l off (b.take (i+1)):=by
 have h1:(b.take i).length=i:=by simp;omega
 have h2:(b.take (i+1)).length=i+1:=by simp;omega
 have h3:(l.take off).length=off:=by simp;omega
 unfold lspl
 rw [h1,h2,List.set_append_right _ _ (by omega),h3,Nat.add_sub_cancel_left,List.set_append_right _ _ (by omega),h1,Nat.sub_self]
 have e:l.drop (off+i)=l.getD (off+i) 0::l.drop (off+(i+1)):=by
  rw [List.getD,List.getElem?_eq_getElem (show off+i < l.length by omega)]
  exact List.drop_eq_getElem_cons (show off+i < l.length by omega)
 rw [e,List.set_cons_zero,List.take_add_one,List.getElem?_eq_getElem hi,List.getD,List.getElem?_eq_getElem hi]
 simp only [Option.toList,Option.getD,List.append_assoc,List.cons_append,List.nil_append]
theorem Wrote.same {W:World} {g:Nat} {c:Array Value} {t:TypeId} (hg:W.heap[g]? = some (.cells c t (0,0))):Wrote W W g c t:=⟨hg,fun _ _=>rfl,rfl,fun _ _ _ h=>h⟩
theorem Wrote.byte {W W1:World} {g:Nat} {l:List Int} (h:Wrote W W1 g (bs l) 5) (j:Nat) (x:Int):Wrote W (W1.setCell ⟨g,j,none⟩ (.int .u8 x)) g (bs (l.set j x)) 5:=by
 rw [setCell_eq_setRow W1 g j (bs l) 5 (0,0) _ h.here,bs_set]
 exact h.trans (wrote_setRow W1 g _ _ 5 h.here)
theorem wrote_cell {W W1:World} {g:Nat} {l:List Int} (h:Wrote W W1 g (bs l) 5) {j:Nat} (hj:j < l.length):W1.cell? ⟨g,j,none⟩=some (.int .u8 (l.getD j 0)):=by
 rw [cell_of h.here,bs_get hj]
theorem wrote_free {W W1:World} {g:Nat} {c:Array Value} {t:TypeId} (h:Wrote W W1 g c t) (j:Nat):W1.frozen? ⟨g,j,none⟩=false:=by
 simp [World.frozen?,h.here]
set_option maxRecDepth 20000 in
theorem lput_any {W:World} {g:Nat} {l:List Int} (hg:W.heap[g]? = some (.cells (bs l) 5)) (off k c:Nat) (h:off+k≤l.length) (hk:k≤8) (hm:l.length≤140737488351232) (x:Int) (hx0:0≤x) (hx1:x≤18446744073709551615) :
  Calls Tryz.prog 146 #[.slice (some ⟨g,off,none⟩) k c,.int .u64 x] W fun e W'=>e=.returned (.tuple #[])∧Wrote W W' g (bs (lspl l off (lbe k x))) 5:=by
 have hw0:=Wrote.same hg
 go_enter Tryz.func146,Tryz.ntmps146
 go_wp2_with fail
 go_loopw [7] (fun v wr=>∃ i:Nat,v=.int .i64 i∧i≤k∧Wrote W wr g (bs (lspl l off ((lbe k x).take i))) 5) (fun v _=>k - (intOf v).toNat)
 case atStart=>exact ⟨0,rfl,by omega,by rw [List.take_zero,spl_nil];exact hw0⟩
 case round =>
  obtain ⟨i,rfl,hi,hw⟩:=hrel
  have hbl:=be_length k x
  by_cases hlt:i < k
  ·have hsl:(lspl l off ((lbe k x).take i)).length=l.length:=spl_length _ _ _ (by simp;omega)
   have c0:=wrote_cell hw (j:=off+i) (by omega)
   have f0:=wrote_free hw (off+i)
   have HX:Hid (x / 2 ^ (8 * (k - 1 - i)) % 256=(lbe k x).getD i 0):=by
    rw [be_getD k i x hlt,Int.pow_mul];rfl
   have HW:=hw.byte (off+i) (x / 2 ^ (8 * (k - 1 - i)) % 256)
   have HW2:Hid (Wrote W (wr.setCell ⟨g,off+i,none⟩ (.int .u8 (x / 2 ^ (8 * (k - 1 - i)) % 256))) g (bs (lspl l off ((lbe k x).take (i+1)))) 5):=by
    rw [←spl_set l off i (lbe k x) (by omega) (by omega),← HX.out];exact HW
   clear HW hw hw0 hbl
   generalize (lspl l off ((lbe k x).take i)).getD (off+i) 0=old at c0
   go_wp2
   go_roundw
   case rel=>exact ⟨i+1,by go_num,by omega,HW2.out⟩
   case measure=>simp [intOf];omega
  ·have:i=k:=by omega
   subst this
   rw [List.take_of_length_le (by omega)] at hw
   go_wp2
   go_end0
   exact ⟨rfl,hw⟩
theorem or_byte (x y:Int) (h0:0≤x) (h1:x < 72057594037927936) (h2:0≤y) (h3:y≤255):bits .or .u64 (x * 256) y=x * 256+y :=
 bits_join .u64 64 (by decide) wraps_u64 8 (x * 256) y (by omega) (by omega) (by omega) h2 (by omega) (by omega)
theorem gt_lt (l:List Int) (hb:IsBytes l) (k:Nat) (hk:l.length=k) (h:k≤7):0≤gt l∧gt l < 72057594037927936:=by
 have:=gt_range l hb
 refine ⟨this.1,Int.lt_of_lt_of_le this.2 ?_⟩
 rw [hk]
 match k,h with
 | 0,_=>decide
 | 1,_=>decide
 | 2,_=>decide
 | 3,_=>decide
 | 4,_=>decide
 | 5,_=>decide
 | 6,_=>decide
 | 7,_=>decide
theorem isb_take {l:List Int} (h:IsBytes l) (i:Nat):IsBytes (l.take i):=by have:=sl_bytes h 0 i;simpa [sl] using this
set_option maxRecDepth 20000 in
theorem lget_any {W:World} {a:Option Addr} {l:List Int} {n:Nat} (hn:l.length=n) (hr:Row W a l) (h8:n≤8) (c:Nat) :
  Calls Tryz.prog 256 #[.slice a n c] W fun e W'=>e=.returned (.int .u64 (gt l))∧W=W':=by
 have HR:Hid (Row W a l):=hr
 clear hr
 go_enter Tryz.func256,Tryz.ntmps256
 go_wp2_with fail
 go_loop [3,8] (fun s v=>∃ k:Nat,v=.int .i64 k∧k≤n∧s=.int .u64 (gt (l.take k))) (fun _ v=>n - (intOf v).toNat)
 case atStart=>exact ⟨0,rfl,by omega,rfl⟩
 case round =>
  obtain ⟨k,rfl,hk,rfl⟩:=hrel
  by_cases hlt:k < n
  ·obtain ⟨b,off,rfl,hc⟩:∃ b off,a=some ⟨b,off,none⟩∧W.cell? ⟨b,off+k,none⟩=some (.int .u8 (l.getD k 0)):=by
    rcases HR.out.cells with e | ⟨b,off,e,hc⟩
    ·rw [e] at hn;simp at hn;omega
    ·exact ⟨b,off,e,hc k (by omega)⟩
   have hx:=HR.out.bytes k
   have hs:=gt_lt (l.take k) (isb_take HR.out.bytes k) k (by simp;omega) (by omega)
   have HN:Hid (gt (l.take (k+1))=gt (l.take k) * 256+l.getD k 0):=gt_take _ _ (by omega)
   generalize gt (l.take k)=S at *
   generalize l.getD k 0=X at *
   obtain ⟨hx0,hx1⟩:=hx
   obtain ⟨hs0,hs1⟩:=hs
   have ho:=or_byte S X hs0 hs1 hx0 hx1
   have hw:IntKind.u64.wrap (S * 256)=S * 256:=wraps_u64 _ (by omega) (by omega)
   go_wp2
   go_round
   case rel=>exact ⟨k+1,by go_num,by omega,by rw [HN.out]⟩
   case measure=>simp [intOf];omega
  ·have:k=n:=by omega
   subst this
   have e:l.take k=l:=List.take_of_length_le (by omega)
   rw [e]
   go_wp2
   go_ret
   exact ⟨rfl,rfl⟩
theorem lsame_any {W:World} {a:Option Addr} {l:List Int} {n:Nat} (hn:l.length=n) (hr:Row W a l) (c:Nat) :
  Calls Tryz.prog 87 #[.slice a n c] W fun e W'=>∃ g,e=.returned (.slice (some ⟨g,0,none⟩) n n)∧Mem W W' [(g,.cells (bs l) 5)]:=by
 have hl:=hr.len
 have hM:=make_bytes n (by omega) W
 have hM1:Mem W (W.alloc (.cells (madeCells #[.int .u8 0] n) 5)) [(W.heap.size,.cells (madeCells #[.int .u8 0] n) 5)]:=(Mem.nil W).push1 rfl
 have hr1:Row (W.alloc (.cells (madeCells #[.int .u8 0] n) 5)) a l:=row_alloc hr
 generalize W.alloc (.cells (madeCells #[.int .u8 0] n) 5)=w1 at hM hM1 hr1
 obtain ⟨w2,hr2,hw2⟩:=copy_bytes w1 3 (some ⟨W.heap.size,0,none⟩) a n n n c W.heap.size 0 _ (bs l) 5 (hM1.get 0 rfl) l (by rw [hn];exact (Nat.min_self n).symm)
  (fun hp=>by
   rcases hr1.cells with e | ⟨b,off,rfl,hc⟩
   ·subst e;simp at hp
   ·exact ⟨rfl,_,rfl,hr1.news⟩)
  (by rw [size_madeCells];simp;omega) (made_new n l hn)
 rw [hn] at hr2
 have hM2:=hM1.wrote 0 rfl hw2
 have HM2:Hid (Mem W w2 [(W.heap.size,.cells (bs l) 5)]):=hM2
 generalize W.heap.size=g at *
 clear hM1 hr hr1 hw2 hl hn hM2
 go_enter Tryz.func87,Tryz.ntmps87
 go_wp2
 go_ret
 exact ⟨g,rfl,HM2.out⟩
theorem append_head {w W:World} {h:Nat} {hc:Array Value} {R:List (Nat×Obj)} (hM:Mem w W ((h,.cells hc 86)::R)) {n c:Nat} (hn:n≤c) (hc1:c≤hc.size) (hs:n≤1000) (ty:TypeId)
  (ad:Addr) (one:Value) (h1:one.oneCell'=true) (hone:W.cell? ad=some one) :
  ∃ h' c' W',(Builtin.append_ #[84,84] ty #[.slice (some ⟨h,0,none⟩) n c,.slice (some ad) 1 1]).run Tryz.prog W=.ok (.slice (some ⟨h',0,none⟩) (n+1) c') W' ∧
   ∃ hc',n+1≤c'∧c'≤hc'.size∧hc'.toList.take (n+1)=hc.toList.take n++[one]∧Mem w W' ((h',.cells hc' 86)::R):=by
 obtain ⟨i,hi,hz,hs1,hby⟩:=info_parts info31
 have hg:=hM.get 0 rfl
 have hnews:∀ j u,[one][j]? = some u→W.cell? (ad.add j)=some u:=by
  intro j u hj
  have:j=0:=by
   have:=(List.getElem?_eq_some_iff.mp hj).1
   simpa using this
  subst this
  simp at hj;subst hj
  simpa [Addr.add] using hone
 have htl:(hc.toList.take n).length=n:=by simp;omega
 by_cases hroom:n+1≤c
 ·have hr:=run_append_room (P:=Tryz.prog) W 84 ty 86 i Tryz.underlying84 hi h n c hc hg ad 1 1 [one] (by rw [hs1];rfl) hnews (by simpa using h1) hroom (by rw [hs1];simp;omega)
  refine ⟨_,_,_,hr,_,hroom,?_,?_,hM.wrote 0 rfl (wrote_setRow W h hc _ 86 hg)⟩
  ·rw [hs1];simp;omega
  ·rw [hs1,Nat.mul_one,List.toList_toArray]
   exact List.take_left' (by simp;omega)
 ·have holds:∀ j u,(hc.toList.take n)[j]? = some u→W.cell? ((⟨h,0,none⟩:Addr).add j)=some u:=by
   intro j u hj
   have hjl:=(List.getElem?_eq_some_iff.mp hj).1
   rw [htl] at hjl
   have e:((⟨h,0,none⟩:Addr).add j)=⟨h,j,none⟩:=by
    by_cases e:j=0
    ·subst e;simp [Addr.add]
    ·simp [Addr.add,e]
   rw [e,hM.cell 0 rfl]
   rw [List.getElem?_take,if_pos hjl] at hj
   simpa using hj
  have hr:=run_append_grow (P:=Tryz.prog) W 84 ty 86 i (.slice none 0 0) Tryz.underlying84 hi hz ⟨h,0,none⟩ n c (hc.toList.take n) (by rw [hs1,htl];omega) holds ad 1 1 [one] (by rw [hs1];rfl) hnews (by omega) (by omega) (growslice_fits (by omega) (by rw [hby];omega))
  have hge:=grownCap_ge W (n+1) c 86
  refine ⟨_,_,_,hr,_,hge,?_,?_,((hM.sub.drew.alloc _).perm List.perm_append_comm)⟩
  ·simp only [Array.size_append,List.size_toArray,size_zeroCells,htl,Value.cells]
   simp;omega
  ·simp only [Array.toList_append,List.append_assoc]
   rw [←List.append_assoc]
   exact List.take_left' (by simp;omega)
theorem append_first {w W:World} {R:List (Nat×Obj)} (hM:Mem w W R) (ty:TypeId) (ad:Addr) (one:Value) (hone:W.cell? ad=some one) :
  ∃ h' c' W',(Builtin.append_ #[84,84] ty #[.slice none 0 0,.slice (some ad) 1 1]).run Tryz.prog W=.ok (.slice (some ⟨h',0,none⟩) 1 c') W' ∧
   ∃ hc',1≤c'∧c'≤hc'.size∧hc'.toList.take 1=[one]∧Mem w W' ((h',.cells hc' 86)::R):=by
 obtain ⟨i,hi,hz,hs1,hby⟩:=info_parts info31
 have hnews:∀ j u,[one][j]? = some u→W.cell? (ad.add j)=some u:=by
  intro j u hj
  have:j=0:=by
   have:=(List.getElem?_eq_some_iff.mp hj).1
   simpa using this
  subst this
  simp at hj;subst hj
  simpa [Addr.add] using hone
 have hr:=run_append_nil (P:=Tryz.prog) W 84 ty 86 i (.slice none 0 0) Tryz.underlying84 hi hz ad 1 1 [one] (by rw [hs1];rfl) hnews (by omega) (by omega) (by rw [hby];omega)
 have hge:=grownCap_ge W 1 0 86
 refine ⟨_,_,_,hr,_,hge,?_,?_,((hM.drew.alloc _).perm List.perm_append_comm)⟩
 ·simp only [Array.size_append,List.size_toArray,size_zeroCells,Value.cells]
  simp;omega
 ·simp
theorem append_new (W:World) {a:Option Addr} {l:List Int} {n:Nat} (hn:l.length=n) (hr:Row W a l) (hp:0 < n) (c:Nat) (ty:TypeId) :
  ∃ g cap W',(Builtin.append_ #[86,86] ty #[.slice none 0 0,.slice a n c]).run Tryz.prog W=.ok (.slice (some ⟨g,0,none⟩) n cap) W' ∧
   ∃ cur,Mem W W' [(g,.cells cur 5)]∧(Bk.mk g cap cur l).Ok n:=by
 obtain ⟨i,hi,hz,hs1,hby⟩:=info_parts info5
 obtain ⟨b,off,rfl⟩:∃ b off,a=some ⟨b,off,none⟩:=by
  rcases hr.cells with e | ⟨b,off,e,_⟩
  ·subst e;simp at hn;omega
  ·exact ⟨b,off,e⟩
 have hlen:=hr.len
 have h:=run_append_nil (P:=Tryz.prog) W 86 ty 5 i (.int .u8 0) Tryz.underlying86 hi hz ⟨b,off,none⟩ n c (l.map (Value.int .u8)) (by rw [hs1];simp;omega) hr.news hp (by omega) (by rw [hby];omega)
 have hge:=grownCap_ge W n 0 5
 refine ⟨_,_,_,h,_,(Mem.nil W).drew.push1 rfl,⟨hge,?_,?_,hn,hr.bytes⟩⟩
 ·simp only [Array.size_append,List.size_toArray,size_zeroCells,Value.cells]
  simp;omega
 ·simp only [Array.toList_append]
  exact List.take_left' (by simp;omega)
end Go.Proofs.YtdigofgjhaakmaaGreatDoor
namespace Go.Proofs.YtdigofgjhaakmaaGreatDoor
open Go.RowKit
open Sm
open Cf
end Go.Proofs.YtdigofgjhaakmaaGreatDoor
