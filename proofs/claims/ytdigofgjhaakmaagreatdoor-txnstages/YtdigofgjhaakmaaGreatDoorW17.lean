/-
  Settings held against one another: lychhelp.Tenant, at any two tenants.
  Settings held against one another: lychhelp.Tenant, at any two tenants.
  Settings held against one another: lychhelp.Tenant, at any two tenants.
  Settings held against one another: lychhelp.Tenant, at any two tenants.
  What package log's next answers.
  Settings as bytes: the fields of settings, each as the program makes it.
  Settings as bytes: the program's OpenChange, at all bytes.
  Settings as bytes: the document's own reader: tenant.
-/
import Derived.Test.YtdigofgjhaakmaaGreatDoorW15
import Derived.Test.YtdigofgjhaakmaaGreatDoorW14
import Derived.Test.YtdigofgjhaakmaaGreatDoorW13
set_option linter.unusedVariables false
set_option linter.unusedSimpArgs false
set_option maxRecDepth 20000
set_option maxHeartbeats 40000000
namespace Go.Proofs.YtdigofgjhaakmaaGreatDoor
open Go.RowKit
open Sm
open Cf
end Go.Proofs.YtdigofgjhaakmaaGreatDoor
namespace Go.Proofs.YtdigofgjhaakmaaGreatDoor
open Go.RowKit
open Sm
def lnxt (t c:Int) (q:En) (r:List Int):En:=⟨1 - q.s,IntKind.u64.wrap (q.t+1),IntKind.i64.wrap ((if ltr q.t t then q.c else c)+1),r⟩
set_option maxRecDepth 20000 in
theorem next_any {W:World} {pl:Nat} {P:Value} {t c:Int} {v:Value} (hl:W.heap[pl]? = some (.cells #[P,.int .u64 t,.int .i64 c,v] lgT (0,0))) (q:En) (hq:q.s≤1) (aq:Option Addr) (kq cq:Nat) (a:Option Addr) (k cap:Nat) (r:List Int) (hr:r.length=k) :
  Calls Tryz.prog 85 #[.pointer (some ⟨pl,0,none⟩),.agg (enA q.s q.t q.c (.slice aq kq cq)),.slice a k cap] W fun e W'=>e=.returned (.agg (enA (lnxt t c q r).s (lnxt t c q r).t (lnxt t c q r).c (.slice a k cap)))∧∃ K,Mem W W' K:=by
 have hplt:pl < W.heap.size:=(Array.getElem?_eq_some_iff.mp hl).1
 obtain ⟨qs,qt,qc,qr⟩:=q
 simp only at hq
 have hA:Mem W ((W.alloc (.cells (enA qs qt qc (.slice aq kq cq)) enT)).alloc (.cells en0 enT)) [(W.heap.size,.cells (enA qs qt qc (.slice aq kq cq)) enT (0,0)),(W.heap.size+1,.cells en0 enT (0,0))]:=((Mem.nil W).push W.heap.size (.cells (enA qs qt qc (.slice aq kq cq)) enT) rfl).push (W.heap.size+1) (.cells en0 enT) (by simp)
 have hpl:∀ j,((W.alloc (.cells (enA qs qt qc (.slice aq kq cq)) enT)).alloc (.cells en0 enT)).cell? ⟨pl,j,none⟩=(#[P,.int .u64 t,.int .i64 c,v]:Array Value)[j]?:=fun j=>(hA.old hplt).trans (cell_of hl j)
 have p1:=hpl 1
 have p2:=hpl 2
 have kb0:=hA.cell 0 rfl 0
 have kb1:=hA.cell 0 rfl 1
 have kb2:=hA.cell 0 rfl 2
 have kr:=hA.cell 1 rfl
 have kf:=hA.free 1 rfl
 have HA:Hid (Mem W ((W.alloc (.cells (enA qs qt qc (.slice aq kq cq)) enT)).alloc (.cells en0 enT)) [(W.heap.size,.cells (enA qs qt qc (.slice aq kq cq)) enT (0,0)),(W.heap.size+1,.cells en0 enT (0,0))]):=hA
 generalize hw1:(W.alloc (.cells (enA qs qt qc (.slice aq kq cq)) enT)).alloc (.cells en0 enT)=w1 at *
 simp at p1 p2 kb0 kb1 kb2
 have HLT:Hid (∀ k,Calls Tryz.prog 97 #[.int .u64 qt,.int .u64 t] (w1.drewN k) fun e W'=>e=.returned (.bool (ltr qt t))∧w1.drewN k=W'):=fun k=>llater_any _ _ _
 have HV:Hid (∀ V,Calls Tryz.prog 120 #[.int .i64 qs] V fun e W'=>e=.returned (.int .i64 ((1 - qs:Nat):Int))∧V=W'):=fun V=>lother_any V qs hq
 clear hA hpl hl
 cases hlt:ltr qt t with
 | false =>
  rw [hlt] at HLT
  have HX:Hid (lnxt t c ⟨qs,qt,qc,qr⟩ r=⟨1 - qs,IntKind.u64.wrap (qt+1),IntKind.i64.wrap (c+1),r⟩):=by show _=_;simp [lnxt,hlt]
  rw [HX.out]
  clear hlt
  go_enter Tryz.func85,Tryz.ntmps85
  go_upto_region 2 with fail
  go_quiet (first | (go_at_call 97;exact quiet_eq (HLT.out _)))
  go_upto_region 4 with fail
  refine wp_letter (fun V=>Mem W V [(W.heap.size,.cells (enA qs qt qc (.slice aq kq cq)) enT (0,0)),(W.heap.size+1,.cells en0 enT (0,0))]) (HA.out.drewN _) ?_
  intro w2 h2
  have b0:=h2.cell 0 rfl 0
  have b1:=h2.cell 0 rfl 1
  have br:=h2.cell 1 rfl
  have bf:=h2.free 1 rfl
  simp at b0 b1
  have HM:Hid (Mem W w2 [(W.heap.size,.cells (enA qs qt qc (.slice aq kq cq)) enT (0,0)),(W.heap.size+1,.cells en0 enT (0,0))]):=h2
  have hne:W.heap.size+1≠W.heap.size:=by omega
  clear h2 kr kf HA p1 p2 kb0 kb1 kb2 HLT
  go_region_held3 (fun w'=>w'.cell? ⟨W.heap.size,0,none⟩=some (.int .i64 qs)∧w'.cell? ⟨W.heap.size,1,none⟩=some (.int .u64 qt)) (first | go_keep | assumption)
   (first | (go_at_call 120;with_reducible refine (HV.out _).mono ?_;rintro e w5 ⟨rfl,rfl⟩))
  all_goals go_wp2
  exact bodyPost_ret (v:=.agg (enA ((1 - qs:Nat):Int) (IntKind.u64.wrap (qt+1)) (IntKind.i64.wrap (c+1)) (.slice a k cap))) (by simp [results,Tryz.results85,go_sem,br]) rfl ⟨rfl,_,((((HM.out.set 1 rfl 0 _).set 1 rfl 1 _).set 1 rfl 2 _).set 1 rfl 3 _).drew⟩
 | true =>
  rw [hlt] at HLT
  have HX:Hid (lnxt t c ⟨qs,qt,qc,qr⟩ r=⟨1 - qs,IntKind.u64.wrap (qt+1),IntKind.i64.wrap (qc+1),r⟩):=by show _=_;simp [lnxt,hlt]
  rw [HX.out]
  clear hlt
  go_enter Tryz.func85,Tryz.ntmps85
  go_upto_region 2 with fail
  go_quiet (first | (go_at_call 97;exact quiet_eq (HLT.out _)))
  go_upto_region 4 with fail
  refine wp_letter (fun V=>Mem W V [(W.heap.size,.cells (enA qs qt qc (.slice aq kq cq)) enT (0,0)),(W.heap.size+1,.cells en0 enT (0,0))]) (HA.out.drewN _) ?_
  intro w2 h2
  have b0:=h2.cell 0 rfl 0
  have b1:=h2.cell 0 rfl 1
  have br:=h2.cell 1 rfl
  have bf:=h2.free 1 rfl
  simp at b0 b1
  have HM:Hid (Mem W w2 [(W.heap.size,.cells (enA qs qt qc (.slice aq kq cq)) enT (0,0)),(W.heap.size+1,.cells en0 enT (0,0))]):=h2
  have hne:W.heap.size+1≠W.heap.size:=by omega
  clear h2 kr kf HA p1 p2 kb0 kb1 kb2 HLT
  go_region_held3 (fun w'=>w'.cell? ⟨W.heap.size,0,none⟩=some (.int .i64 qs)∧w'.cell? ⟨W.heap.size,1,none⟩=some (.int .u64 qt)) (first | go_keep | assumption)
   (first | (go_at_call 120;with_reducible refine (HV.out _).mono ?_;rintro e w5 ⟨rfl,rfl⟩))
  all_goals go_wp2
  exact bodyPost_ret (v:=.agg (enA ((1 - qs:Nat):Int) (IntKind.u64.wrap (qt+1)) (IntKind.i64.wrap (qc+1)) (.slice a k cap))) (by simp [results,Tryz.results85,go_sem,br]) rfl ⟨rfl,_,((((HM.out.set 1 rfl 0 _).set 1 rfl 1 _).set 1 rfl 2 _).set 1 rfl 3 _).drew⟩
end Go.Proofs.YtdigofgjhaakmaaGreatDoor
namespace Go.Proofs.YtdigofgjhaakmaaGreatDoor
open Go.RowKit
open Sm
open Cf
theorem acc_CIp (V:World) (g off:Nat):Calls Tryz.prog 151 #[.pointer (some ⟨g,off,none⟩)] V fun e V'=>e=.returned (.pointer (some ⟨g,off+0,none⟩))∧V=V':=by
 go_enter Tryz.func151,Tryz.ntmps151
 go_wp2
 go_ret
 exact ⟨rfl,rfl⟩
theorem acc_CMac (V:World) (g off:Nat):Calls Tryz.prog 153 #[.pointer (some ⟨g,off,none⟩)] V fun e V'=>e=.returned (.slice (some ⟨g,off+1,none⟩) 6 6)∧V=V':=by
 go_enter Tryz.func153,Tryz.ntmps153
 go_wp2
 go_ret
 exact ⟨rfl,rfl⟩
theorem acc_COut (V:World) (g off:Nat):Calls Tryz.prog 154 #[.pointer (some ⟨g,off,none⟩)] V fun e V'=>e=.returned (.slice (some ⟨g,off+7,none⟩) 6 6)∧V=V':=by
 go_enter Tryz.func154,Tryz.ntmps154
 go_wp2
 go_ret
 exact ⟨rfl,rfl⟩
theorem acc_CNext (V:World) (g off:Nat):Calls Tryz.prog 155 #[.pointer (some ⟨g,off,none⟩)] V fun e V'=>e=.returned (.slice (some ⟨g,off+13,none⟩) 6 6)∧V=V':=by
 go_enter Tryz.func155,Tryz.ntmps155
 go_wp2
 go_ret
 exact ⟨rfl,rfl⟩
theorem acc_CKey (V:World) (g off:Nat):Calls Tryz.prog 156 #[.pointer (some ⟨g,off,none⟩)] V fun e V'=>e=.returned (.slice (some ⟨g,off+19,none⟩) 8 8)∧V=V':=by
 go_enter Tryz.func156,Tryz.ntmps156
 go_wp2
 go_ret
 exact ⟨rfl,rfl⟩
theorem acc_CDrain (V:World) (g off:Nat):Calls Tryz.prog 157 #[.pointer (some ⟨g,off,none⟩)] V fun e V'=>e=.returned (.pointer (some ⟨g,off+27,none⟩))∧V=V':=by
 go_enter Tryz.func157,Tryz.ntmps157
 go_wp2
 go_ret
 exact ⟨rfl,rfl⟩
theorem acc_CCnt (V:World) (g off:Nat):Calls Tryz.prog 148 #[.pointer (some ⟨g,off,none⟩)] V fun e V'=>e=.returned (.pointer (some ⟨g,off+28,none⟩))∧V=V':=by
 go_enter Tryz.func148,Tryz.ntmps148
 go_wp2
 go_ret
 exact ⟨rfl,rfl⟩
def spCIp:Sp Cgf:=spNum 4 (fun t=>t.ip) (fun t y=>{ t with ip:=y })
theorem c_CIp {w V:World} {p:Nat×Obj} {E L:List (Nat×Obj)} (h:Mem w V (p::(E++L))) :
  Calls Tryz.prog 150 #[.int .i64 4,.func (.func 151) #[] #[]] V fun e V'=>∃ f E',e=.returned f.val∧Mem w V' (p::(E'++L))∧Sub E E'∧Fw w E' IC JC f spCIp:=by
 refine (mk_num_CU h 4 151).mono ?_
 rintro e V' ⟨bs,bo,rfl,hM⟩
 exact ⟨_,_::_::E,rfl,swap_front2 hM,fun q hq=>List.mem_cons_of_mem _ (List.mem_cons_of_mem _ hq),(fd_num_CU bs bo 4 151 0 (by omega) fits32 _ _ (List.mem_cons_self ..) (List.mem_cons_of_mem _ (List.mem_cons_self ..)) (enters_of Tryz.func151 (by kernel_rfl) rfl) acc_CIp (fun t r V g off h=>h.cell 0 (cget h.1.len (by rintro ip a b c d f g a1 b1 c1 d1 f1 g1 a2 b2 c2 d2 f2 g2 k1 k2 k3 k4 k5 k6 k7 k8 dr te rfl;rfl))) (lens_C 0 (by omega) (fun t=>.int .u32 t.ip) (fun y=>.int .u32 y) (fun t y=>{ t with ip:=y }) (fun t p h=>cget h (by rintro ip a b c d f g a1 b1 c1 d1 f1 g1 a2 b2 c2 d2 f2 g2 k1 k2 k3 k4 k5 k6 k7 k8 dr te rfl;rfl)) (fun t y p h=>cset h (by rintro ip a b c d f g a1 b1 c1 d1 f1 g1 a2 b2 c2 d2 f2 g2 k1 k2 k3 k4 k5 k6 k7 k8 dr te rfl;rfl)) (fun t y h=>⟨h.mac,h.omac,h.nmac,h.key⟩) (fun t y=>rfl))).fw⟩
def spCMac:Sp Cgf:=spOct 6 (fun t=>t.mac) (fun t y=>{ t with mac:=y })
theorem c_CMac {w V:World} {p:Nat×Obj} {E L:List (Nat×Obj)} (h:Mem w V (p::(E++L))) :
  Calls Tryz.prog 152 #[.func (.func 153) #[] #[]] V fun e V'=>∃ f E',e=.returned f.val∧Mem w V' (p::(E'++L))∧Sub E E'∧Fw w E' IC JC f spCMac:=by
 refine (mk_Oct_C h 153).mono ?_
 rintro e V' ⟨bo,rfl,hM⟩
 refine ⟨_,_::E,rfl,swap_front hM,fun q hq=>List.mem_cons_of_mem _ hq,(fd_Oct_C bo 6 153 1 (by omega) (by omega) _ _ (List.mem_cons_self ..) (enters_of Tryz.func153 (by kernel_rfl) rfl) acc_CMac (fun t r V g off h=>⟨h.1.len.mac,h.row 1 t.mac h.1.mac (by rw [h.1.len.mac];omega) (.int .u32 t.ip::([])) (t.omac.map (Value.int .u8)++(t.nmac.map (Value.int .u8)++(t.key.map (Value.int .u8)++([.int .u32 t.drain,r.1])))) rfl (by simp [cc])⟩) ?_).fw⟩
 exact lens_CO 1 6 (fun t y=>{ t with mac:=y }) (fun t p h=>⟨(.int .u32 t.ip::([])),t.mac.map (Value.int .u8),(t.omac.map (Value.int .u8)++(t.nmac.map (Value.int .u8)++(t.key.map (Value.int .u8)++([.int .u32 t.drain,p])))),rfl,(by rw [List.length_map];exact h.mac),(by simp [cc]),fun y=>(by simp [cc])⟩) (fun t y hy h=>⟨hy,h.omac,h.nmac,h.key⟩) (fun t y=>rfl)
def spCOut:Sp Cgf:=spOct 6 (fun t=>t.omac) (fun t y=>{ t with omac:=y })
theorem c_COut {w V:World} {p:Nat×Obj} {E L:List (Nat×Obj)} (h:Mem w V (p::(E++L))) :
  Calls Tryz.prog 152 #[.func (.func 154) #[] #[]] V fun e V'=>∃ f E',e=.returned f.val∧Mem w V' (p::(E'++L))∧Sub E E'∧Fw w E' IC JC f spCOut:=by
 refine (mk_Oct_C h 154).mono ?_
 rintro e V' ⟨bo,rfl,hM⟩
 refine ⟨_,_::E,rfl,swap_front hM,fun q hq=>List.mem_cons_of_mem _ hq,(fd_Oct_C bo 6 154 7 (by omega) (by omega) _ _ (List.mem_cons_self ..) (enters_of Tryz.func154 (by kernel_rfl) rfl) acc_COut (fun t r V g off h=>⟨h.1.len.omac,h.row 7 t.omac h.1.omac (by rw [h.1.len.omac];omega) (.int .u32 t.ip::(t.mac.map (Value.int .u8)++[])) (t.nmac.map (Value.int .u8)++(t.key.map (Value.int .u8)++([.int .u32 t.drain,r.1]))) (by simp [h.1.len.mac]) (by simp [cc])⟩) ?_).fw⟩
 exact lens_CO 7 6 (fun t y=>{ t with omac:=y }) (fun t p h=>⟨(.int .u32 t.ip::(t.mac.map (Value.int .u8)++[])),t.omac.map (Value.int .u8),(t.nmac.map (Value.int .u8)++(t.key.map (Value.int .u8)++([.int .u32 t.drain,p]))),(by simp [h.mac]),(by rw [List.length_map];exact h.omac),(by simp [cc]),fun y=>(by simp [cc])⟩) (fun t y hy h=>⟨h.mac,hy,h.nmac,h.key⟩) (fun t y=>rfl)
def spCNext:Sp Cgf:=spOct 6 (fun t=>t.nmac) (fun t y=>{ t with nmac:=y })
theorem c_CNext {w V:World} {p:Nat×Obj} {E L:List (Nat×Obj)} (h:Mem w V (p::(E++L))) :
  Calls Tryz.prog 152 #[.func (.func 155) #[] #[]] V fun e V'=>∃ f E',e=.returned f.val∧Mem w V' (p::(E'++L))∧Sub E E'∧Fw w E' IC JC f spCNext:=by
 refine (mk_Oct_C h 155).mono ?_
 rintro e V' ⟨bo,rfl,hM⟩
 refine ⟨_,_::E,rfl,swap_front hM,fun q hq=>List.mem_cons_of_mem _ hq,(fd_Oct_C bo 6 155 13 (by omega) (by omega) _ _ (List.mem_cons_self ..) (enters_of Tryz.func155 (by kernel_rfl) rfl) acc_CNext (fun t r V g off h=>⟨h.1.len.nmac,h.row 13 t.nmac h.1.nmac (by rw [h.1.len.nmac];omega) (.int .u32 t.ip::(t.mac.map (Value.int .u8)++t.omac.map (Value.int .u8)++[])) (t.key.map (Value.int .u8)++([.int .u32 t.drain,r.1])) (by simp [h.1.len.mac,h.1.len.omac]) (by simp [cc])⟩) ?_).fw⟩
 exact lens_CO 13 6 (fun t y=>{ t with nmac:=y }) (fun t p h=>⟨(.int .u32 t.ip::(t.mac.map (Value.int .u8)++t.omac.map (Value.int .u8)++[])),t.nmac.map (Value.int .u8),(t.key.map (Value.int .u8)++([.int .u32 t.drain,p])),(by simp [h.mac,h.omac]),(by rw [List.length_map];exact h.nmac),(by simp [cc]),fun y=>(by simp [cc])⟩) (fun t y hy h=>⟨h.mac,h.omac,hy,h.key⟩) (fun t y=>rfl)
def spCKey:Sp Cgf:=spOct 8 (fun t=>t.key) (fun t y=>{ t with key:=y })
theorem c_CKey {w V:World} {p:Nat×Obj} {E L:List (Nat×Obj)} (h:Mem w V (p::(E++L))) :
  Calls Tryz.prog 152 #[.func (.func 156) #[] #[]] V fun e V'=>∃ f E',e=.returned f.val∧Mem w V' (p::(E'++L))∧Sub E E'∧Fw w E' IC JC f spCKey:=by
 refine (mk_Oct_C h 156).mono ?_
 rintro e V' ⟨bo,rfl,hM⟩
 refine ⟨_,_::E,rfl,swap_front hM,fun q hq=>List.mem_cons_of_mem _ hq,(fd_Oct_C bo 8 156 19 (by omega) (by omega) _ _ (List.mem_cons_self ..) (enters_of Tryz.func156 (by kernel_rfl) rfl) acc_CKey (fun t r V g off h=>⟨h.1.len.key,h.row 19 t.key h.1.key (by rw [h.1.len.key];omega) (.int .u32 t.ip::(t.mac.map (Value.int .u8)++t.omac.map (Value.int .u8)++t.nmac.map (Value.int .u8)++[])) ([.int .u32 t.drain,r.1]) (by simp [h.1.len.mac,h.1.len.omac,h.1.len.nmac]) (by simp [cc])⟩) ?_).fw⟩
 exact lens_CO 19 8 (fun t y=>{ t with key:=y }) (fun t p h=>⟨(.int .u32 t.ip::(t.mac.map (Value.int .u8)++t.omac.map (Value.int .u8)++t.nmac.map (Value.int .u8)++[])),t.key.map (Value.int .u8),([.int .u32 t.drain,p]),(by simp [h.mac,h.omac,h.nmac]),(by rw [List.length_map];exact h.key),(by simp [cc]),fun y=>(by simp [cc])⟩) (fun t y hy h=>⟨h.mac,h.omac,h.nmac,hy⟩) (fun t y=>rfl)
def spCDrain:Sp Cgf:=spNum 4 (fun t=>t.drain) (fun t y=>{ t with drain:=y })
theorem c_CDrain {w V:World} {p:Nat×Obj} {E L:List (Nat×Obj)} (h:Mem w V (p::(E++L))) :
  Calls Tryz.prog 150 #[.int .i64 4,.func (.func 157) #[] #[]] V fun e V'=>∃ f E',e=.returned f.val∧Mem w V' (p::(E'++L))∧Sub E E'∧Fw w E' IC JC f spCDrain:=by
 refine (mk_num_CU h 4 157).mono ?_
 rintro e V' ⟨bs,bo,rfl,hM⟩
 exact ⟨_,_::_::E,rfl,swap_front2 hM,fun q hq=>List.mem_cons_of_mem _ (List.mem_cons_of_mem _ hq),(fd_num_CU bs bo 4 157 27 (by omega) fits32 _ _ (List.mem_cons_self ..) (List.mem_cons_of_mem _ (List.mem_cons_self ..)) (enters_of Tryz.func157 (by kernel_rfl) rfl) acc_CDrain (fun t r V g off h=>h.cell 27 (cget h.1.len (by rintro ip a b c d f g a1 b1 c1 d1 f1 g1 a2 b2 c2 d2 f2 g2 k1 k2 k3 k4 k5 k6 k7 k8 dr te rfl;rfl))) (lens_C 27 (by omega) (fun t=>.int .u32 t.drain) (fun y=>.int .u32 y) (fun t y=>{ t with drain:=y }) (fun t p h=>cget h (by rintro ip a b c d f g a1 b1 c1 d1 f1 g1 a2 b2 c2 d2 f2 g2 k1 k2 k3 k4 k5 k6 k7 k8 dr te rfl;rfl)) (fun t y p h=>cset h (by rintro ip a b c d f g a1 b1 c1 d1 f1 g1 a2 b2 c2 d2 f2 g2 k1 k2 k3 k4 k5 k6 k7 k8 dr te rfl;rfl)) (fun t y h=>⟨h.mac,h.omac,h.nmac,h.key⟩) (fun t y=>rfl))).fw⟩
def spCCnt:Sp Cgf:=spCnt (fun t=>t.ten.length) set_ten
theorem c_CCnt {w V:World} {p:Nat×Obj} {E L:List (Nat×Obj)} (h:Mem w V (p::(E++L))) :
  Calls Tryz.prog 158 #[.func (.func 148) #[] #[]] V fun e V'=>∃ f E',e=.returned f.val∧Mem w V' (p::(E'++L))∧Sub E E'∧Fw w E' IC JC f spCCnt:=by
 refine (mk_Cnt_CT h 148).mono ?_
 rintro e V' ⟨bo,rfl,hM⟩
 refine ⟨_,_::E,rfl,swap_front hM,fun q hq=>List.mem_cons_of_mem _ hq,(fd_Cnt_CT bo 148 28 _ _ (List.mem_cons_self ..) (enters_of Tryz.func148 (by kernel_rfl) rfl) acc_CCnt (fun r=>r.1) (fun t r V g off h=>⟨?_,h.cell 28 (cget h.1.len (by rintro ip a b c d f g a1 b1 c1 d1 f1 g1 a2 b2 c2 d2 f2 g2 k1 k2 k3 k4 k5 k6 k7 k8 dr te rfl;rfl))⟩) lens_Cten).fw⟩
 obtain ⟨a,c,e,h1,h2,h3,-⟩:=h.2.2.2.1
 have hl:(r.2.map zc).length=t.ten.length:=by rw [List.length_map,← h.2.2.1,List.length_map]
 rw [hl] at e h1
 exact ⟨a,c,e,h1,h2,h3⟩
theorem c_CItm {w V:World} {p:Nat×Obj} {E L:List (Nat×Obj)} (h:Mem w V (p::(E++L))) (fi:Fv) (hfi:Fd w E IT JT fi spT) :
  Calls Tryz.prog 159 #[.func (.func 148) #[] #[],fi.val] V fun e V'=>∃ f E',e=.returned f.val∧Mem w V' (p::(E'++L))∧Sub E E'∧Fw w E' IC JC f spTenants:=by
 refine (mk_Itm_CT h 148 fi).mono ?_
 rintro e V' ⟨bo,bi,rfl,hM⟩
 exact ⟨_,_::_::E,rfl,swap_front2 hM,fun q hq=>List.mem_cons_of_mem _ (List.mem_cons_of_mem _ hq),fw_Itm_CT bo bi 148 fi (hfi.more (fun q hq=>List.mem_cons_of_mem _ (List.mem_cons_of_mem _ hq))) (List.mem_cons_self ..) (List.mem_cons_of_mem _ (List.mem_cons_self ..)) (enters_of Tryz.func148 (by kernel_rfl) rfl) acc_CCnt⟩
theorem c_tenant {w V:World} {p:Nat×Obj} {E L:List (Nat×Obj)} (h:Mem w V (p::(E++L))) :
  Calls Tryz.prog 160 #[] V fun e V'=>∃ f E',e=.returned f.val∧Mem w V' (p::(E'++L))∧Sub E E'∧Fd w E' IT JT f spT:=by
 refine (tenant_any h).mono ?_
 rintro e V' ⟨f,A,rfl,hM,hF⟩
 exact ⟨f,A++E,rfl,swap_app hM,fun q hq=>List.mem_append_right _ hq,hF.more (fun q hq=>List.mem_append_left _ hq)⟩
def csp:List (Sp Cgf):=[spCIp,spCMac,spCOut,spCNext,spCKey,spCDrain,spCCnt,spTenants]
def spC:Sp Cgf:=spAll csp
theorem storeCells_row (V:World) (g:Nat) (old tl:Array Value) (t:TypeId) (hg:V.heap[g]? = some (.cells old t (0,0))) (hs:old.size=tl.size) (h1:tl.all (·.oneCell')=true):(storeCells ⟨g,0,none⟩ tl.toList).run Tryz.prog V=.ok () (V.setRow g tl):=by
 have:=run_storeCells_at Tryz.prog g 0 t tl.toList 0 old V hg (by simp;omega) (fun u hu=>by
  rw [Array.all_eq_true_iff_forall_mem] at h1
  exact h1 u (by simpa using hu))
 simp only [Nat.add_zero,List.take_zero,List.nil_append,Nat.zero_add,Array.length_toList] at this
 rw [List.drop_of_length_le (by simp;omega),List.append_nil] at this
 simpa using this
theorem rw_one {V:World} {n:Nat} {p:Value} {xs:List (List Value)} (h:Rw V n p xs):p.oneCell'=true:=by
 obtain ⟨a,c,rfl,_⟩:=h;rfl
theorem tc_one2 (t:Ten) {p s q:Value} (h1:p.oneCell'=true) (h2:s.oneCell'=true) (h3:q.oneCell'=true):(tc t p s q).toArray.all (·.oneCell')=true:=by
 apply all_oneCell_toArray
 intro v hv
 simp only [tc,List.mem_cons,List.mem_append,List.mem_map,List.not_mem_nil,or_false] at hv
 rcases hv with rfl | rfl | ⟨x,_,rfl⟩ | rfl | ⟨x,_,rfl⟩ | ⟨x,_,rfl⟩ | rfl | rfl | rfl | rfl | rfl | rfl | rfl | rfl | rfl | rfl <;> first | rfl | assumption
def pls:Nat→Option (List Int)→List Int×Option (List Int)
 | 0,σ=>([],σ)
 | _+1,none=>([],none)
 | n+1,some r=>(num (tk 4 (some r))::(pls n (nx 4 (some r))).1,(pls n (nx 4 (some r))).2)
def s1 (σ:Option (List Int)):=rnx σ
def s2 (σ:Option (List Int)):=nx 4 (s1 σ)
def s3 (σ:Option (List Int)):=nx 8 (s2 σ)
def s4 (σ:Option (List Int)):=nx 4 (s3 σ)
def s5 (σ:Option (List Int)):=nx 6 (s4 σ)
def s6 (σ:Option (List Int)):=nx 6 (s5 σ)
def s7 (σ:Option (List Int)):=nx 2 (s6 σ)
def s8 (σ:Option (List Int)):=nx 2 (s7 σ)
def s9 (σ:Option (List Int)):=nx 1 (s8 σ)
def s10 (σ:Option (List Int)):=nx 2 (s9 σ)
def s11 (σ:Option (List Int)):=nx 2 (s10 σ)
def s12 (σ:Option (List Int)):=nx 4 (s11 σ)
def s13 (σ:Option (List Int)):=nx 4 (s12 σ)
def s14 (σ:Option (List Int)):=nx 1 (s13 σ)
def s15 (σ:Option (List Int)):=nx 1 (s14 σ)
def s16 (σ:Option (List Int)):=nx 1 (s15 σ)
def rhd (σ:Option (List Int)):Ten:=⟨rnm σ,num (tk 4 (s1 σ)),tk 8 (s2 σ),num (tk 4 (s3 σ)),tk 6 (s4 σ),tk 6 (s5 σ),[],num (tk 2 (s6 σ)),num (tk 2 (s7 σ)),num (tk 1 (s8 σ)),[],[],num (tk 2 (s9 σ)),num (tk 2 (s10 σ)),num (tk 4 (s11 σ)),num (tk 4 (s12 σ))⟩
def rx (σ:Option (List Int)):Nat:=(num (tk 1 (s13 σ))).toNat
def ry (σ:Option (List Int)):Nat:=(num (tk 1 (s14 σ))).toNat
def rz (σ:Option (List Int)):Nat:=(num (tk 1 (s15 σ))).toNat
def rt (σ:Option (List Int)):Ten×Option (List Int) :=
 ({ rhd σ with pool:=(pls (rx σ) (s16 σ)).1,stat:=(prs (ry σ) (pls (rx σ) (s16 σ)).2).1,twi:=(prs (rz σ) (prs (ry σ) (pls (rx σ) (s16 σ)).2).2).1 },(prs (rz σ) (prs (ry σ) (pls (rx σ) (s16 σ)).2).2).2)
theorem owb_one {T:TypeId} {sz n:Nat} {v:Value} {xs:List Value} {B:List (Nat×Obj)} (h:OwB T sz v n xs B):v.oneCell'=true:=by
 rcases h.2 with ⟨rfl,-⟩ | ⟨g,cap,cur,rfl,-⟩ <;> rfl
theorem owb_slice {T:TypeId} {sz n:Nat} {v:Value} {xs:List Value} {B:List (Nat×Obj)} (h:OwB T sz v n xs B):∃ a m c,v=.slice a m c:=by
 rcases h.2 with ⟨rfl,-⟩ | ⟨g,cap,cur,rfl,-⟩ <;> exact ⟨_,_,_,rfl⟩
theorem tc_one3 (t:Ten) {p s q:Value} (h1:p.oneCell'=true) (h2:s.oneCell'=true) (h3:q.oneCell'=true):(tc t p s q).toArray.all (·.oneCell')=true:=by
 apply all_oneCell_toArray
 intro v hv
 simp only [tc,List.mem_cons,List.mem_append,List.mem_map,List.not_mem_nil,or_false] at hv
 rcases hv with rfl | rfl | ⟨x,_,rfl⟩ | rfl | ⟨x,_,rfl⟩ | ⟨x,_,rfl⟩ | rfl | rfl | rfl | rfl | rfl | rfl | rfl | rfl | rfl | rfl <;> first | rfl | assumption
end Go.Proofs.YtdigofgjhaakmaaGreatDoor
