/- Parts of the proof. -/
import Derived.Test.YtdigofgjhaakmaaGreatDoorF15
set_option linter.all false
set_option maxHeartbeats 40000000
set_option maxRecDepth 20000
open Go.Proofs.Tryz
open Go.IntKind renaming u64->a3,i64->a4
open List renaming mem_cons_of_mem->a5,mem_cons_self->a6,length_map->a7,mem_cons->a8,mem_append->a9,mem_map->aa,not_mem_nil->ab,append_assoc->ac
open Go.Value renaming int->ad
namespace Go.Proofs.YtdigofgjhaakmaaGreatDoor
variable {B E L:List (Nat×Obj)} {xs:List Value} {v p P:Value} {w V W:World} {T:TypeId} {n pl:Nat}
section
open Go.RowKit Sm Cf
end
section
open Go.RowKit Sm
def lnxt (t c:Int) (q:En) (r:List Int):En:=⟨1-q.s,a3.wrap (q.t+1),a4.wrap ((if ltr q.t t then q.c else c)+1),r⟩
theorem jjf {t c:Int} (J:W.heap[pl]?=some (.cells #[P,.int .u64 t,.int .i64 c,v] lgT (0,0))) (q:En) (Z:q.s<=1) (m:Option Addr) (i l:Nat) (a:Option Addr) (k cap:Nat) (r:List Int) (hr:r.length=k) :
  Calls prog 85 #[.pointer (some ⟨pl,0,none⟩),.agg (enA q.s q.t q.c (.slice m i l)),.slice a k cap] W fun e C=>e=.returned (.agg (enA (lnxt t c q r).s (lnxt t c q r).t (lnxt t c q r).c (.slice a k cap)))/\∃ K,Mem W C K:=by
 have A:pl<W.heap.size:=(Array.getElem?_eq_some_iff.mp J).1;obtain ⟨d,b,f,U⟩:=q;simp only at Z;have o:Mem W ((W.alloc (.cells (enA d b f (.slice m i l)) enT)).alloc (.cells en0 enT)) [(W.heap.size,.cells (enA d b f (.slice m i l)) enT (0,0)),(W.heap.size+1,.cells en0 enT (0,0))]:=((Mem.nil W).push W.heap.size (.cells (enA d b f (.slice m i l)) enT) rfl).push (W.heap.size+1) (.cells en0 enT) (by simp);have z:∀ j,((W.alloc (.cells (enA d b f (.slice m i l)) enT)).alloc (.cells en0 enT)).cell? ⟨pl,j,none⟩=(#[P,.int .u64 t,.int .i64 c,v]:Array Value)[j]?:=fun j=>(o.old A).trans (cell_of J j);have H:=z 1;have G:=z 2;have y:=o.cell 0 rfl 0;have x:=o.cell 0 rfl 1;have u:=o.cell 0 rfl 2;have X:=o.cell 1 rfl;have Y:=o.free 1 rfl;have D:Hid (Mem W ((W.alloc (.cells (enA d b f (.slice m i l)) enT)).alloc (.cells en0 enT)) [(W.heap.size,.cells (enA d b f (.slice m i l)) enT (0,0)),(W.heap.size+1,.cells en0 enT (0,0))]):=o;generalize a0:(W.alloc (.cells (enA d b f (.slice m i l)) enT)).alloc (.cells en0 enT)=S at *;simp at H G y x u;have h:Hid (∀ k,Calls prog 97 #[.int .u64 b,.int .u64 t] (S.drewN k) fun e C=>e=.returned (.bool (ltr b t))/\S.drewN k=C):=fun k=>j5a _ _ _;have HV:Hid (∀ V,Calls prog 120 #[.int .i64 d] V fun e C=>e=.returned (.int .i64 ((1-d:Nat):Int))/\V=C):=fun V=>jd8 V d Z;clear o z J;cases hlt:ltr b t with
 | false =>
  rw [hlt] at h;have Q:Hid (lnxt t c ⟨d,b,f,U⟩ r=⟨1-d,a3.wrap (b+1),a4.wrap (c+1),r⟩):=by show _=_;simp [lnxt,hlt]
  rw [Q.out];clear hlt;go_enter func85,ntmps85;go_upto_region 2 with fail
  go_quiet (first|(go_at_call 97;exact qy (h.out _)))
  go_upto_region 4 with fail;refine j5 (fun V=>Mem W V [(W.heap.size,.cells (enA d b f (.slice m i l)) enT (0,0)),(W.heap.size+1,.cells en0 enT (0,0))]) (D.out.drewN _) ?_;intro F g;have O:=g.cell 0 rfl 0;have N:=g.cell 0 rfl 1;have M:=g.cell 1 rfl;have bf:=g.free 1 rfl;simp at O N;have R:Hid (Mem W F [(W.heap.size,.cells (enA d b f (.slice m i l)) enT (0,0)),(W.heap.size+1,.cells en0 enT (0,0))]):=g;have I:W.heap.size+1≠W.heap.size:=by omega
  clear g X Y D H G y x u h
  go_region_held3 (fun w'=>w'.cell? ⟨W.heap.size,0,none⟩=some (.int .i64 d)/\w'.cell? ⟨W.heap.size,1,none⟩=some (.int .u64 b)) (first|go_keep|assumption)
   (first|(go_at_call 120;with_reducible refine (HV.out _).mono ?_;rintro e w5 ⟨rfl,rfl⟩))
  all_goals go_wp2
  exact bodyPost_ret (v:=.agg (enA ((1-d:Nat):Int) (a3.wrap (b+1)) (a4.wrap (c+1)) (.slice a k cap))) (by simp [results,results85,go_sem,M]) rfl ⟨rfl,_,((((R.out.set 1 rfl 0 _).set 1 rfl 1 _).set 1 rfl 2 _).set 1 rfl 3 _).drew⟩
 | true =>
  rw [hlt] at h;have Q:Hid (lnxt t c ⟨d,b,f,U⟩ r=⟨1-d,a3.wrap (b+1),a4.wrap (f+1),r⟩):=by show _=_;simp [lnxt,hlt]
  rw [Q.out];clear hlt;go_enter func85,ntmps85;go_upto_region 2 with fail
  go_quiet (first|(go_at_call 97;exact qy (h.out _)))
  go_upto_region 4 with fail;refine j5 (fun V=>Mem W V [(W.heap.size,.cells (enA d b f (.slice m i l)) enT (0,0)),(W.heap.size+1,.cells en0 enT (0,0))]) (D.out.drewN _) ?_;intro F g;have O:=g.cell 0 rfl 0;have N:=g.cell 0 rfl 1;have M:=g.cell 1 rfl;have bf:=g.free 1 rfl;simp at O N;have R:Hid (Mem W F [(W.heap.size,.cells (enA d b f (.slice m i l)) enT (0,0)),(W.heap.size+1,.cells en0 enT (0,0))]):=g;have I:W.heap.size+1≠W.heap.size:=by omega
  clear g X Y D H G y x u h
  go_region_held3 (fun w'=>w'.cell? ⟨W.heap.size,0,none⟩=some (.int .i64 d)/\w'.cell? ⟨W.heap.size,1,none⟩=some (.int .u64 b)) (first|go_keep|assumption)
   (first|(go_at_call 120;with_reducible refine (HV.out _).mono ?_;rintro e w5 ⟨rfl,rfl⟩))
  all_goals go_wp2
  exact bodyPost_ret (v:=.agg (enA ((1-d:Nat):Int) (a3.wrap (b+1)) (a4.wrap (f+1)) (.slice a k cap))) (by simp [results,results85,go_sem,M]) rfl ⟨rfl,_,((((R.out.set 1 rfl 0 _).set 1 rfl 1 _).set 1 rfl 2 _).set 1 rfl 3 _).drew⟩
end
section
open Go.RowKit Sm Cf
theorem jpj (V:World) (g a:Nat):Calls prog 151 #[.pointer (some ⟨g,a,none⟩)] V fun e b=>e=.returned (.pointer (some ⟨g,a+0,none⟩))/\V=b:=by
 go_enter func151,ntmps151
 go_wp2
 go_ret;exact ⟨rfl,rfl⟩
theorem jlc (V:World) (g a:Nat):Calls prog 153 #[.pointer (some ⟨g,a,none⟩)] V fun e b=>e=.returned (.slice (some ⟨g,a+1,none⟩) 6 6)/\V=b:=by
 go_enter func153,ntmps153
 go_wp2
 go_ret;exact ⟨rfl,rfl⟩
theorem jlb (V:World) (g a:Nat):Calls prog 154 #[.pointer (some ⟨g,a,none⟩)] V fun e b=>e=.returned (.slice (some ⟨g,a+7,none⟩) 6 6)/\V=b:=by
 go_enter func154,ntmps154
 go_wp2
 go_ret;exact ⟨rfl,rfl⟩
theorem jhv (V:World) (g a:Nat):Calls prog 155 #[.pointer (some ⟨g,a,none⟩)] V fun e b=>e=.returned (.slice (some ⟨g,a+13,none⟩) 6 6)/\V=b:=by
 go_enter func155,ntmps155
 go_wp2
 go_ret;exact ⟨rfl,rfl⟩
theorem jld (V:World) (g a:Nat):Calls prog 156 #[.pointer (some ⟨g,a,none⟩)] V fun e b=>e=.returned (.slice (some ⟨g,a+19,none⟩) 8 8)/\V=b:=by
 go_enter func156,ntmps156
 go_wp2
 go_ret;exact ⟨rfl,rfl⟩
theorem je8 (V:World) (g a:Nat):Calls prog 157 #[.pointer (some ⟨g,a,none⟩)] V fun e b=>e=.returned (.pointer (some ⟨g,a+27,none⟩))/\V=b:=by
 go_enter func157,ntmps157
 go_wp2
 go_ret;exact ⟨rfl,rfl⟩
theorem jcf (V:World) (g a:Nat):Calls prog 148 #[.pointer (some ⟨g,a,none⟩)] V fun e b=>e=.returned (.pointer (some ⟨g,a+28,none⟩))/\V=b:=by
 go_enter func148,ntmps148
 go_wp2
 go_ret;exact ⟨rfl,rfl⟩
def jii:Sp Cgf:=jz 4 (fun t=>t.ip) (fun t y=>{ t with ip:=y })
theorem jt9 {p:Nat×Obj} (h:Mem w V (p::(E++L))) :
  Calls prog 150 #[.int .i64 4,.func (.func 151) #[] #[]] V fun e V'=>∃ f E',e=.returned f.val/\Mem w V' (p::(E'++L))/\Sub E E'/\Fw w E' IC JC f jii:=by
 refine (j7x h 4 151).mono ?_;rintro e V' ⟨bs,bo,rfl,hM⟩;exact ⟨_,_::_::E,rfl,jj hM,fun q hq=>a5 _ (a5 _ hq),(j8d bs bo 4 151 0 (by omega) j1w _ _ (a6 ..) (a5 _ (a6 ..)) (enters_of func151 (by kernel_rfl) rfl) jpj (fun t r V g off h=>h.cell 0 (cget h.1.len (by rintro ip a b c d f g a1 b1 c1 d1 f1 g1 a2 b2 c2 d2 f2 g2 k1 k2 k3 k4 k5 k6 k7 k8 dr te rfl;rfl))) (jlr 0 (by omega) (fun t=>.int .u32 t.ip) (fun y=>.int .u32 y) (fun t y=>{ t with ip:=y }) (fun t p h=>cget h (by rintro ip a b c d f g a1 b1 c1 d1 f1 g1 a2 b2 c2 d2 f2 g2 k1 k2 k3 k4 k5 k6 k7 k8 dr te rfl;rfl)) (fun t y p h=>cset h (by rintro ip a b c d f g a1 b1 c1 d1 f1 g1 a2 b2 c2 d2 f2 g2 k1 k2 k3 k4 k5 k6 k7 k8 dr te rfl;rfl)) (fun t y h=>⟨h.mac,h.omac,h.nmac,h.key⟩) (fun t y=>rfl))).fw⟩
def jba:Sp Cgf:=j18 6 (fun t=>t.mac) (fun t y=>{ t with mac:=y })
theorem jsd {p:Nat×Obj} (h:Mem w V (p::(E++L))) :
  Calls prog 152 #[.func (.func 153) #[] #[]] V fun e b=>∃ f a,e=.returned f.val/\Mem w b (p::(a++L))/\Sub E a/\Fw w a IC JC f jba:=by
 refine (j34 h 153).mono ?_;rintro e b ⟨k,rfl,j⟩;refine ⟨_,_::E,rfl,ju j,fun q i=>a5 _ i,(j3b k 6 153 1 (by omega) (by omega) _ _ (a6 ..) (enters_of func153 (by kernel_rfl) rfl) jlc (fun t r V g c h=>⟨h.1.len.mac,h.row 1 t.mac h.1.mac (by rw [h.1.len.mac];omega) (.int .u32 t.ip::([])) (t.omac.map (ad .u8)++(t.nmac.map (ad .u8)++(t.key.map (ad .u8)++([.int .u32 t.drain,r.1])))) rfl (by simp [cc])⟩) ?_).fw⟩;exact j6j 1 6 (fun t y=>{ t with mac:=y }) (fun t p h=>⟨(.int .u32 t.ip::([])),t.mac.map (ad .u8),(t.omac.map (ad .u8)++(t.nmac.map (ad .u8)++(t.key.map (ad .u8)++([.int .u32 t.drain,p])))),rfl,(by rw [a7];exact h.mac),(by simp [cc]),fun y=>(by simp [cc])⟩) (fun t y d h=>⟨d,h.omac,h.nmac,h.key⟩) (fun t y=>rfl)
def jb9:Sp Cgf:=j18 6 (fun t=>t.omac) (fun t y=>{ t with omac:=y })
theorem jsc {p:Nat×Obj} (h:Mem w V (p::(E++L))) :
  Calls prog 152 #[.func (.func 154) #[] #[]] V fun e b=>∃ f a,e=.returned f.val/\Mem w b (p::(a++L))/\Sub E a/\Fw w a IC JC f jb9:=by
 refine (j34 h 154).mono ?_;rintro e b ⟨k,rfl,j⟩;refine ⟨_,_::E,rfl,ju j,fun q i=>a5 _ i,(j3b k 6 154 7 (by omega) (by omega) _ _ (a6 ..) (enters_of func154 (by kernel_rfl) rfl) jlb (fun t r V g c h=>⟨h.1.len.omac,h.row 7 t.omac h.1.omac (by rw [h.1.len.omac];omega) (.int .u32 t.ip::(t.mac.map (ad .u8)++[])) (t.nmac.map (ad .u8)++(t.key.map (ad .u8)++([.int .u32 t.drain,r.1]))) (by simp [h.1.len.mac]) (by simp [cc])⟩) ?_).fw⟩;exact j6j 7 6 (fun t y=>{ t with omac:=y }) (fun t p h=>⟨(.int .u32 t.ip::(t.mac.map (ad .u8)++[])),t.omac.map (ad .u8),(t.nmac.map (ad .u8)++(t.key.map (ad .u8)++([.int .u32 t.drain,p]))),(by simp [h.mac]),(by rw [a7];exact h.omac),(by simp [cc]),fun y=>(by simp [cc])⟩) (fun t y d h=>⟨h.mac,d,h.nmac,h.key⟩) (fun t y=>rfl)
def j5x:Sp Cgf:=j18 6 (fun t=>t.nmac) (fun t y=>{ t with nmac:=y })
theorem jp4 {p:Nat×Obj} (h:Mem w V (p::(E++L))) :
  Calls prog 152 #[.func (.func 155) #[] #[]] V fun e b=>∃ f a,e=.returned f.val/\Mem w b (p::(a++L))/\Sub E a/\Fw w a IC JC f j5x:=by
 refine (j34 h 155).mono ?_;rintro e b ⟨k,rfl,j⟩;refine ⟨_,_::E,rfl,ju j,fun q i=>a5 _ i,(j3b k 6 155 13 (by omega) (by omega) _ _ (a6 ..) (enters_of func155 (by kernel_rfl) rfl) jhv (fun t r V g c h=>⟨h.1.len.nmac,h.row 13 t.nmac h.1.nmac (by rw [h.1.len.nmac];omega) (.int .u32 t.ip::(t.mac.map (ad .u8)++t.omac.map (ad .u8)++[])) (t.key.map (ad .u8)++([.int .u32 t.drain,r.1])) (by simp [h.1.len.mac,h.1.len.omac]) (by simp [cc])⟩) ?_).fw⟩;exact j6j 13 6 (fun t y=>{ t with nmac:=y }) (fun t p h=>⟨(.int .u32 t.ip::(t.mac.map (ad .u8)++t.omac.map (ad .u8)++[])),t.nmac.map (ad .u8),(t.key.map (ad .u8)++([.int .u32 t.drain,p])),(by simp [h.mac,h.omac]),(by rw [a7];exact h.nmac),(by simp [cc]),fun y=>(by simp [cc])⟩) (fun t y d h=>⟨h.mac,h.omac,d,h.key⟩) (fun t y=>rfl)
def jbb:Sp Cgf:=j18 8 (fun t=>t.key) (fun t y=>{ t with key:=y })
theorem jse {p:Nat×Obj} (h:Mem w V (p::(E++L))) :
  Calls prog 152 #[.func (.func 156) #[] #[]] V fun e b=>∃ f a,e=.returned f.val/\Mem w b (p::(a++L))/\Sub E a/\Fw w a IC JC f jbb:=by
 refine (j34 h 156).mono ?_;rintro e b ⟨k,rfl,j⟩;refine ⟨_,_::E,rfl,ju j,fun q i=>a5 _ i,(j3b k 8 156 19 (by omega) (by omega) _ _ (a6 ..) (enters_of func156 (by kernel_rfl) rfl) jld (fun t r V g c h=>⟨h.1.len.key,h.row 19 t.key h.1.key (by rw [h.1.len.key];omega) (.int .u32 t.ip::(t.mac.map (ad .u8)++t.omac.map (ad .u8)++t.nmac.map (ad .u8)++[])) ([.int .u32 t.drain,r.1]) (by simp [h.1.len.mac,h.1.len.omac,h.1.len.nmac]) (by simp [cc])⟩) ?_).fw⟩;exact j6j 19 8 (fun t y=>{ t with key:=y }) (fun t p h=>⟨(.int .u32 t.ip::(t.mac.map (ad .u8)++t.omac.map (ad .u8)++t.nmac.map (ad .u8)++[])),t.key.map (ad .u8),([.int .u32 t.drain,p]),(by simp [h.mac,h.omac,h.nmac]),(by rw [a7];exact h.key),(by simp [cc]),fun y=>(by simp [cc])⟩) (fun t y d h=>⟨h.mac,h.omac,h.nmac,d⟩) (fun t y=>rfl)
def j2x:Sp Cgf:=jz 4 (fun t=>t.drain) (fun t y=>{ t with drain:=y })
theorem jkz {p:Nat×Obj} (h:Mem w V (p::(E++L))) :
  Calls prog 150 #[.int .i64 4,.func (.func 157) #[] #[]] V fun e R=>∃ f i,e=.returned f.val/\Mem w R (p::(i++L))/\Sub E i/\Fw w i IC JC f j2x:=by
 refine (j7x h 4 157).mono ?_;rintro e R ⟨bs,Y,rfl,X⟩;exact ⟨_,_::_::E,rfl,jj X,fun q U=>a5 _ (a5 _ U),(j8d bs Y 4 157 27 (by omega) j1w _ _ (a6 ..) (a5 _ (a6 ..)) (enters_of func157 (by kernel_rfl) rfl) je8 (fun t r V g S h=>h.cell 27 (cget h.1.len (by rintro z a b c d f g Q N K I F C O M J H D A x u s o m l k k8 G j rfl;rfl))) (jlr 27 (by omega) (fun t=>.int .u32 t.drain) (fun y=>.int .u32 y) (fun t y=>{ t with drain:=y }) (fun t p h=>cget h (by rintro z a b c d f g Q N K I F C O M J H D A x u s o m l k k8 G j rfl;rfl)) (fun t y p h=>cset h (by rintro z a b c d f g Q N K I F C O M J H D A x u s o m l k k8 G j rfl;rfl)) (fun t y h=>⟨h.mac,h.omac,h.nmac,h.key⟩) (fun t y=>rfl))).fw⟩
def jbc:Sp Cgf:=j1l (fun t=>t.ten.length) j3t
theorem jsg {p:Nat×Obj} (h:Mem w V (p::(E++L))) :
  Calls prog 158 #[.func (.func 148) #[] #[]] V fun e k=>∃ f i,e=.returned f.val/\Mem w k (p::(i++L))/\Sub E i/\Fw w i IC JC f jbc:=by
 refine (jfz h 148).mono ?_;rintro e k ⟨y,rfl,s⟩;refine ⟨_,_::E,rfl,ju s,fun q m=>a5 _ m,(jgv y 148 28 _ _ (a6 ..) (enters_of func148 (by kernel_rfl) rfl) jcf (fun r=>r.1) (fun t r V g l h=>⟨?_,h.cell 28 (cget h.1.len (by rintro J a b c d f g a1 Z X S O M a2 Y U R N K I H G F D C A k8 Q z rfl;rfl))⟩) jgf).fw⟩;obtain ⟨a,c,e,j,x,u,-⟩:=h.2.2.2.1;have o:(r.2.map zc).length=t.ten.length:=by rw [a7,<-h.2.2.1,a7]
 rw [o] at e j;exact ⟨a,c,e,j,x,u⟩
theorem jsf {p:Nat×Obj} (h:Mem w V (p::(E++L))) (a:Fv) (c:Fd w E IT JT a spT) :
  Calls prog 159 #[.func (.func 148) #[] #[],a.val] V fun e g=>∃ f d,e=.returned f.val/\Mem w g (p::(d++L))/\Sub E d/\Fw w d IC JC f qf:=by
 refine (jfx h 148 a).mono ?_;rintro e g ⟨j,k,rfl,i⟩;exact ⟨_,_::_::E,rfl,jj i,fun q b=>a5 _ (a5 _ b),jgp j k 148 a (c.more (fun q b=>a5 _ (a5 _ b))) (a6 ..) (a5 _ (a6 ..)) (enters_of func148 (by kernel_rfl) rfl) jcf⟩
theorem jkw {p:Nat×Obj} (h:Mem w V (p::(E++L))) :
  Calls prog 160 #[] V fun e c=>∃ f b,e=.returned f.val/\Mem w c (p::(b++L))/\Sub E b/\Fd w b IT JT f spT:=by
 refine (jcn h).mono ?_;rintro e c ⟨f,A,rfl,d,hF⟩;exact ⟨f,A++E,rfl,j5r d,fun q a=>List.mem_append_right _ a,hF.more (fun q a=>List.mem_append_left _ a)⟩
def csp:List (Sp Cgf):=[jii,jba,jb9,j5x,jbb,j2x,jbc,qf]
def spC:Sp Cgf:=j0j csp
theorem j4s {b:Array Oper} {o:Oper} {a:Act} {K:Act->World->Prop} {Q:Exit->Act->World->Prop} {E:Prop} (d:o.guard=none) (ty:TypeId) (x y:Operand) (f:o.op=.store ty x y)
  (g:Nat) (cells:Array Value) (hx:a.eval x=.pointer (some ⟨g,0,none⟩)) (e:a.eval y=.agg cells)
  (t:TypeId) (old:Array Value) (i:w.heap[g]?=some (.cells old t (0,0))) (hi:(prog.info? ty).map (·.size)=some cells.size)
  (c:old.size=cells.size) (j:cells.all (·.oneCell')=true) (h:K (a.put o.dst undef) (w.setRow g cells)) :
  if Region.wanted o (yielded b a.tmps)=true then Oper.wp prog o a w K Q else E:=by
 have hw:Region.wanted o (yielded b a.tmps)=true:=by simp [Region.wanted,d]
 rw [if_pos hw];exact wp_store_row ty x y f g cells hx e t old i hi c j h
theorem zz (V:World) (g:Nat) (old a:Array Value) (t:TypeId) (d:V.heap[g]?=some (.cells old t (0,0))) (hs:old.size=a.size) (b:a.all (·.oneCell')=true):(storeCells ⟨g,0,none⟩ a.toList).run prog V=.ok () (V.setRow g a):=by
 have:=run_storeCells_at prog g 0 t a.toList 0 old V d (by simp;omega) (fun u c=>by
  rw [Array.all_eq_true_iff_forall_mem] at b;exact b u (by simpa using c))
 simp only [Nat.add_zero,List.take_zero,List.nil_append,Nat.zero_add,Array.length_toList] at this;rw [List.drop_of_length_le (by simp;omega),List.append_nil] at this;simpa using this
theorem km {xs:List (List Value)} (h:Rw V n p xs):p.oneCell'=true:=by
 obtain ⟨a,c,rfl,_⟩:=h;rfl
theorem j23 (t:Ten) {s q:Value} (d:p.oneCell'=true) (c:s.oneCell'=true) (b:q.oneCell'=true):(tc t p s q).toArray.all (·.oneCell')=true:=by
 apply all_oneCell_toArray;intro v a;simp only [tc,a8,a9,aa,ab,or_false] at a;rcases a with rfl|rfl|⟨x,_,rfl⟩|rfl|⟨x,_,rfl⟩|⟨x,_,rfl⟩|rfl|rfl|rfl|rfl|rfl|rfl|rfl|rfl|rfl|rfl<;>first|rfl|assumption
def stL (A:Array Value):Nat->List Value->Array Value
 | _,[]=>A
 | o,v::r=>stL (A.setIfInBounds o v) (o+1) r
theorem jey (post:List Value):∀ (c b a:List Value),b.length=c.length->stL (a++(b++post)).toArray a.length c=(a++(c++post)).toArray
 | [],b,a,h=>by
  have:b=[]:=List.eq_nil_of_length_eq_zero h;subst this;rfl
 | v::c,[],a,h=>by simp at h
 | v::c,m::b,a,h=>by
  have hs:(a++(m::b++post)).toArray.setIfInBounds a.length v=((a++[v])++(b++post)).toArray:=by
   rw [List.setIfInBounds_toArray,List.set_append_right _ _ (Nat.le_refl _),Nat.sub_self,List.cons_append,List.set_cons_zero,ac];rfl
  rw [stL,hs];have:=jey post c b (a++[v]) (by simpa using h);rw [List.length_append,List.length_cons,List.length_nil] at this;rw [this,ac];rfl
theorem j01 {sz:Nat} (h:OwB T sz v n xs B):v.oneCell'=true:=by
 rcases h.2 with ⟨rfl,-⟩|⟨g,cap,cur,rfl,-⟩<;>rfl
theorem js {sz:Nat} (h:OwB T sz v n xs B):∃ a m c,v=.slice a m c:=by
 rcases h.2 with ⟨rfl,-⟩|⟨g,cap,cur,rfl,-⟩<;>exact ⟨_,_,_,rfl⟩
theorem j3n (t:Ten) {s q:Value} (d:p.oneCell'=true) (c:s.oneCell'=true) (b:q.oneCell'=true):(tc t p s q).toArray.all (·.oneCell')=true:=by
 apply all_oneCell_toArray;intro v a;simp only [tc,a8,a9,aa,ab,or_false] at a;rcases a with rfl|rfl|⟨x,_,rfl⟩|rfl|⟨x,_,rfl⟩|⟨x,_,rfl⟩|rfl|rfl|rfl|rfl|rfl|rfl|rfl|rfl|rfl|rfl<;>first|rfl|assumption
end
end Go.Proofs.YtdigofgjhaakmaaGreatDoor
