/- Parts of the proof. -/
import Derived.Test.YtdigofgjhaakmaaGreatDoorF03
set_option linter.all false
set_option maxHeartbeats 40000000
set_option maxRecDepth 20000
open Go.Proofs.Tryz
open Nat renaming zero_le->a2,le_refl->a5
open List renaming append_nil->a6,length_append->a7,append_assoc->a8,length_take->a9,drop_zero->aa,take_of_length_le->ab,length_map->ac,length_drop->ad,mem_map->ae
open Go.RowKit.Below renaming refl->af
open Go.IntKind renaming u8->ag,i64->ah,u64->ai,u16->aj,u32->ak
open Go.Act renaming eval->al
namespace Go.Proofs.YtdigofgjhaakmaaGreatDoor
variable {L:List (Nat×Obj)} {l:List Int} {v:Value} {a:Option Addr} {A:Array Value} {T:TypeId} {w W:World} {c g sz B:Nat}
open Go.RowKit Sm Cf
theorem jpf (fn:Nat) (hfn:fn=318\/fn=205\/fn=270) {H:Value->List Int->World->Prop} (hst:∀ v l V V',H v l V->Below V.heap.size V V'->H v l V') (p:Addr) (cb lb n:Nat) (hn:n<=1000) (kw kr ks:Nat->Nat) (cw cr cs:Nat->Array Value)
  (hcb:∀ v l V,H v l V->V.cell? ⟨cb,0,none⟩=some (.slice (some ⟨lb,0,none⟩) n n))
  (hlb:∀ v l V,H v l V->∀ i,i<n->V.cell? ⟨lb,i*3,none⟩=some (.func (.func (kw i)) #[] (cw i))/\V.cell? ⟨lb,i*3+1,none⟩=some (.func (.func (kr i)) #[] (cr i))/\V.cell? ⟨lb,i*3+2,none⟩=some (.func (.func (ks i)) #[] (cs i)))
  (enc:Nat->List Int) (en:∀ i,i<n->∀ args V,(callFunc (kw i) args).run prog V=.ok (.enter (kw i) args) V)
  (hw:∀ i,i<n->∀ v l V,H v l V->l.length+(enc i).length<=1000000000->Calls prog (kw i) (#[v,.pointer (some p)]++cw i) V fun e V'=>∃ v',e=.returned v'/\H v' (l++enc i) V')
  (v:Value) (l:List Int) (W:World) (h:H v l W) (hb:l.length+(cat enc n).length<=1000000000) :
  Calls prog fn #[v,.pointer (some p),.pointer (some ⟨cb,0,none⟩)] W fun e W'=>∃ v',e=.returned v'/\H v' (l++cat enc n) W':=by
 rcases hfn with rfl|rfl|rfl
 all_goals
 have c0:=hcb _ _ _ h
 first|go_enter func318,ntmps318|go_enter func205,ntmps205|go_enter func270,ntmps270
 go_wp2_with fail
 go_loopw [0,10] (fun u0 u10 w'=>∃ i:Nat,i<=n/\u10=.int .i64 i/\Hid (H u0 (l++cat enc i) w')) (fun u0 u10 w'=>n-(intOf u10).toNat)
 case atStart=>exact ⟨0,a2 _,rfl,by rw [cat,a6];exact h⟩
 case round =>
  obtain ⟨i,hi,rfl,HR⟩:=hrel;by_cases hlt:i<n
  ·have h1:(i:Int)<n:=by omega
   obtain ⟨d0,d1,d2⟩:=hlb _ _ _ HR.out i hlt;have eg:=en i hlt;have HW:Hid (∀ V,Below wr.heap.size wr V->Calls prog (kw i) (#[u0,.pointer (some p)]++cw i) V fun e V'=>∃ v',e=.returned v'/\H v' (l++cat enc (i+1)) V'):=by
    intro V hV;have:=hw i hlt u0 _ V (hst _ _ _ _ HR.out hV) (by rw [a7];have:=jc6 enc i n hlt;omega);rwa [a8] at this
   clear hw en hlb hcb hst c0;generalize kw i=k1 at d0 eg HW;generalize kr i=k2 at d1;generalize ks i=k3 at d2;generalize cw i=q1 at d0 HW;generalize cr i=q2 at d1;generalize cs i=q3 at d2;go_wp2_with fail;refine (HW.out _ ?hb).mono ?_
   case hb=>exact (af _ _).alloc (a5 _) _
   rintro e V ⟨v',rfl,hH⟩;have HH:Hid (H v' (l++cat enc (i+1)) V):=hH;clear hH HW HR;go_wp2_with fail;go_roundw
   case rel=>exact ⟨i+1,by omega,by go_num,HH⟩
   case measure=>simp [intOf];omega
  ·have h1:¬((i:Int)<n):=by omega
   obtain rfl:i=n:=by omega
   go_wp2_with fail;go_ret;exact ⟨_,rfl,HR.out⟩
theorem jpg (D:Nat) (H:D=319\/D=206\/D=271) {σ:Type} {J:σ->World->Prop} (o:∀ s V V',J s V->Below V.heap.size V V'->J s V') (p:Addr) (X lb n:Nat) (hn:n<=1000) (M k N:Nat->Nat) (U E cs:Nat->Array Value)
  (r:∀ s V,J s V->V.cell? ⟨X,0,none⟩=some (.slice (some ⟨lb,0,none⟩) n n))
  (q:∀ s V,J s V->∀ i,i<n->V.cell? ⟨lb,i*3,none⟩=some (.func (.func (M i)) #[] (U i))/\V.cell? ⟨lb,i*3+1,none⟩=some (.func (.func (k i)) #[] (E i))/\V.cell? ⟨lb,i*3+2,none⟩=some (.func (.func (N i)) #[] (cs i)))
  (dec:Nat->List Int->σ->Option (σ×List Int)) (en:∀ i,i<n->∀ args V,(callFunc (k i) args).run prog V=.ok (.enter (k i) args) V)
  (hr:∀ i,i<n->∀ s l a c V,J s V->Sl w a l c->Calls prog (k i) (#[.slice a l.length c,.pointer (some p)]++E i) V (qh w L J (dec i l s)))
  (s:σ) (l:List Int) (a:Option Addr) (c:Nat) (W:World) (h:J s W) (O:Sl w a l c) :
  Calls prog D #[.slice a l.length c,.pointer (some p),.pointer (some ⟨X,0,none⟩)] W (qh w L J (sq dec 0 n l s)):=by
 rcases H with rfl|rfl|rfl
 all_goals
 have c0:=r _ _ h;obtain ⟨R,I⟩:∃ R,sq dec 0 n l s=R:=⟨_,rfl⟩;rw [I]
 first|go_enter func319,ntmps319|go_enter func206,ntmps206|go_enter func271,ntmps271
 go_wp2_with fail
 go_loopw [0,13] (fun u0 u13 w'=>∃ (i:Nat) (s':σ) (d:List Int) (z:Option Addr) (y:Nat),i<=n/\u13=.int .i64 i/\u0=.slice z d.length y/\Hid (J s' w'/\Sl w z d y/\sq dec i (n-i) d s'=R)) (fun u0 u13 w'=>n-(intOf u13).toNat)
 case atStart=>exact ⟨0,s,l,a,c,a2 _,rfl,rfl,h,O,by simpa using I⟩
 case round =>
  obtain ⟨i,s',d,z,y,hi,rfl,rfl,K⟩:=hrel;obtain ⟨C,j,b⟩:=K.out;by_cases hlt:i<n
  ·have h1:(i:Int)<n:=by omega
   obtain ⟨S,Q,P⟩:=q _ _ C i hlt;have eg:=en i hlt;have f:Hid (∀ V,Below wr.heap.size wr V->Calls prog (k i) (#[.slice z d.length y,.pointer (some p)]++E i) V (qh w L J (dec i d s'))):=fun V hV=>hr i hlt s' d z y V (o _ _ _ C hV) j;rw [show n-i=(n-(i+1))+1 by omega,sq] at b;clear hr en q r o c0 C j I K h O;generalize M i=k1 at S;generalize k i=k2 at Q eg f;generalize N i=k3 at P;generalize U i=q1 at S;generalize E i=q2 at Q f;generalize cs i=q3 at P;generalize d.length=m at f;cases hd:dec i d s' with
   | none =>
    rw [hd] at b f;simp only at b;subst b;go_wp2_with fail;refine (f.out _ ?hb).mono ?_
    case hb=>exact (af _ _).alloc (a5 _) _
    rintro e V ⟨rfl,hM⟩;clear f;go_wp2_with fail;go_ret2;exact ⟨rfl,hM⟩
   | some x =>
    obtain ⟨F,G⟩:=x;rw [hd] at b f;simp only at b;go_wp2_with fail;refine (f.out _ ?hb2).mono ?_
    case hb2=>exact (af _ _).alloc (a5 _) _
    rintro e V ⟨Z,Y,rfl,t,u⟩;have HH:Hid (J F V/\Sl w Z G Y/\sq dec (i+1) (n-(i+1)) G F=R):=⟨u,t,b⟩;clear f u t b hd;go_wp2_with fail;go_roundw
    case rel=>exact ⟨i+1,F,G,Z,Y,by omega,by go_num,rfl,HH⟩
    case measure=>simp [intOf];omega
  ·have h1:¬((i:Int)<n):=by omega
   obtain rfl:i=n:=by omega
   rw [Nat.sub_self,sq] at b;subst b;clear K;go_wp2_with fail;go_ret2;exact ⟨_,_,rfl,j,C⟩
theorem jss (h:Out w W v l L) (E t:Nat) (p p':Addr) (s:ByteArray) (H:s.size<=140737488351232)
  (D:∀ V,Mem w V L->V.cell? ⟨E,0,none⟩=some (.func (.func t) #[] #[]))
  (R:∀ args V,(callFunc t args).run prog V=.ok (.enter t args) V) (z:∀ V,Calls prog t #[.pointer (some p)] V fun e P=>e=.returned (.pointer (some p'))/\V=P)
  (C:∀ V,Mem w V L->V.cell? p'=some (.string s)) (hb:l.length+(nm s).length<=1000000000) :
  Calls prog 273 #[v,.pointer (some p),.pointer (some ⟨E,0,none⟩)] W fun e O=>∃ y,e=.returned y/\Out w O y (l++nm s) L:=by
 have U:=D _ h.mem;have S:=C _ h.mem;have q:(nm s).length=1+min s.size 255:=by
  simp only [nm,List.length_cons,a9,j54];omega
 rw [q] at hb;clear q;obtain ⟨k,x⟩:∃ k,min s.size 255=k:=⟨_,rfl⟩;obtain ⟨s',d⟩:∃ s',s.extract 0 k=s':=⟨_,rfl⟩;have i:∀ V,(Instr.slice 9 (.string s) none (some (.int .i64 k)) none).run prog V=.ok (.string s') V:=by
  intro V;rw [run_slice_string_h V 9 s underlying9 .i64 k (by omega) (by omega),Int.toNat_natCast,d]
 have u:s'.size=k:=by rw [<-d,ByteArray.size_extract];omega
 have f:sb s'=(sb s).take 255:=by
  rw [<-d];unfold sb;rw [Lib.extract_data,aa,Nat.sub_zero,List.map_take];rw [<-x];by_cases hc:s.size<=255
  ·rw [Nat.min_eq_left hc,ab (l:=List.map _ _) (by rw [ac,Array.length_toList];exact a5 _),ab (by rw [ac,Array.length_toList];exact hc)]
  ·rw [Nat.min_eq_right (by omega)]
 obtain ⟨Q,X,j,r⟩:=j1b h (k:Int) (by omega) (by omega) 86;obtain ⟨G,N,o,m⟩:=jfp r s' (by rw [a7,u];simp;omega) 86;rw [f,a8] at m;have F:Hid (Out w N G (l++nm s) L):=by
  unfold nm;rw [x];exact m
 have M:ag.wrap (k:Int)=k:=by rw [yo];omega
 have K:(k:Int) % 256=k:=by omega
 rw [<-u] at M K j;clear h D C r m f d;by_cases hc:s.size<=255
 ·have b:k=s.size:=by omega
  have J:(s.size:Int)<=255:=by omega
  have I:¬((255:Int)<s.size):=by omega
  rw [b] at i;clear x u b;go_enter func273,ntmps273;go_wp2_with fail;refine (z _).mono ?_;rintro e V ⟨rfl,rfl⟩;go_wp2_with (first|(at_builtin;refine wpList_append_run (.tmp 17) (.tmp 21) 86 86 (by with_reducible rfl) j rfl rfl (by simp [al]) (by simp [al]) ?_)|(at_builtin;refine wpList_append_run (.tmp 22) (.tmp 23) 86 9 (by with_reducible rfl) o rfl rfl (by simp [al]) (by simp [al]) ?_))
  go_ret;exact ⟨_,rfl,F.out⟩
 ·have b:k=255:=by omega
  have J:¬((s.size:Int)<=255):=by omega
  have I:(255:Int)<s.size:=by omega
  rw [b] at i;simp only [Int.cast_ofNat_Int] at i;clear x u b;go_enter func273,ntmps273;go_wp2_with fail;refine (z _).mono ?_;rintro e V ⟨rfl,rfl⟩;go_wp2_with (first|(at_builtin;refine wpList_append_run (.tmp 17) (.tmp 21) 86 86 (by with_reducible rfl) j rfl rfl (by simp [al]) (by simp [al]) ?_)|(at_builtin;refine wpList_append_run (.tmp 22) (.tmp 23) 86 9 (by with_reducible rfl) o rfl rfl (by simp [al]) (by simp [al]) ?_))
  go_ret;exact ⟨_,rfl,F.out⟩
theorem jst (H:Mem w W ((g,.cells A T (0,0))::L)) (D:Sl w a l c) (M t j:Nat) (p:Addr) (y:ByteArray)
  (Y:A[j]?=some (.string y))
  (co:∀ V,Mem w V L->V.cell? ⟨M,0,none⟩=some (.func (.func t) #[] #[]))
  (eo:∀ args V,(callFunc t args).run prog V=.ok (.enter t args) V) (ho:∀ V,Calls prog t #[.pointer (some p)] V fun e V'=>e=.returned (.pointer (some ⟨g,j,none⟩))/\V=V') :
  Calls prog 274 #[.slice a l.length c,.pointer (some p),.pointer (some ⟨M,0,none⟩)] W (qh w L (fun x W'=>Mem w W' ((g,.cells (A.setIfInBounds j (.string x)) T (0,0))::L)) (dtxt l)):=by
 cases l with
 | nil =>
  have C:=yu W a 0 c 1 (by omega) (by omega);go_enter func274,ntmps274;go_wp2_with fail;refine C.mono ?_;rintro e V ⟨rfl,rfl⟩;go_wp2_with fail;go_ret2;exact ⟨rfl,H.sub⟩
 | cons b r =>
  have C:=qd (H.sl D) 1 (by simp) (by omega);have a0:0<=b/\b<=255:=by have:=D.row.bytes 0;simpa using this
  obtain ⟨n,hn⟩:∃ n:Nat,(b:Int)=n:=⟨b.toNat,by omega⟩;subst hn;have e1:ah.wrap (n:Int)=n:=qk (by omega) (by omega);simp only [dtxt,Int.toNat_natCast];have i:∀ V,Mem w V ((g,.cells A T (0,0))::L)->∀ I K F z,(∀ V,Sl V a ((n:Int)::r) c->Sl V I (((n:Int)::r).take 1) K/\Sl V F (((n:Int)::r).drop 1) z) ->
    Sl w F r z/\∃ E h,I=some ⟨E,h,none⟩/\V.cell? ⟨E,h,none⟩=some (.int .u8 n):=by
   intro V f I K F z d;have X:=(d V (f.sl D)).1;have o:=(d w D).2;simp only [List.take_succ_cons,List.take_zero,List.drop_succ_cons,aa] at X o;refine ⟨o,?_⟩;rcases X.row.cells with e|⟨E,h,e,hc⟩
   ·simp at e
   ·exact ⟨E,h,e,by have:=hc 0 (by simp);simpa using this⟩
  by_cases hlt:r.length<n
  ·rw [if_pos hlt];go_enter func274,ntmps274;go_wp2_with fail;refine C.mono ?_;rintro e V ⟨R,Q,rfl,⟨I,K,F,z,rfl,rfl,d⟩,q,rfl⟩;have f:=H.drewN q;generalize W.drewN q=V at f;obtain ⟨o,E,h,rfl,G⟩:=i V f _ _ _ _ d;have N:=yu V F r.length z n hlt (by omega);clear d o D C hlt i;go_wp2_with fail;refine N.mono ?_;rintro e V ⟨rfl,rfl⟩;go_wp2_with fail;go_ret2;exact ⟨rfl,f.sub⟩
  ·rw [if_neg hlt];have s:(r.take n).length=n:=by rw [a9];omega
   obtain ⟨S,u⟩:∃ S,strOfNums (r.take n)=S:=⟨_,rfl⟩;rw [u];go_enter func274,ntmps274;go_wp2_with fail;refine C.mono ?_;rintro e V ⟨R,Q,rfl,⟨I,K,F,z,rfl,rfl,d⟩,q,rfl⟩;have f:=H.drewN q;generalize W.drewN q=V at f;obtain ⟨o,E,h,rfl,G⟩:=i V f _ _ _ _ d;have N:=qd (f.sl o) n (by omega) (by omega);clear d D C hlt i;go_wp2_with fail;refine N.mono ?_;rintro e V ⟨R,Q,rfl,⟨a3,O,a4,k4,rfl,rfl,d⟩,U,rfl⟩;have m:=f.drewN U;generalize V.drewN U=V2 at m;have P:=(d w o).2;have KS:Hid (∀ V,Mem w V L->V.cell? ⟨M,0,none⟩=some (.func (.func t) #[] #[])/\(convert 86 9 (.slice a3 n O)).run prog V=.ok (.string S) V):=by
    intro V Z;refine ⟨co _ Z,?_⟩;have h1:=jd0 (Z.sl (d w o).1).row O;rwa [s,u] at h1
   have k:=m.drew;obtain ⟨c2,c4⟩:=KS.out _ k.sub;have c3:=(k.cell 0 rfl j).trans Y;have f3:=k.free 0 rfl j;have J:Hid (Mem w (V2.setCell ⟨g,j,none⟩ (.string S)).drew ((g,.cells (A.setIfInBounds j (.string S)) T (0,0))::L)):=by
    have:=m.set 0 rfl j (.string S);exact Mem.drew this
   clear d H f m N Y co u s k G;go_upto_region 6 with fail
   go_region_held3 (fun V=>V.cell? ⟨M,0,none⟩=some (.func (.func t) #[] #[])/\(convert 86 9 (.slice a3 n O)).run prog V=.ok (.string S) V) (first|assumption|exact KS.out _ J.out.sub|go_keep)
    (first|(go_at_fn t;refine (ho _).mono ?_;rintro e V ⟨rfl,rfl⟩))
   go_wp2_with fail;go_ret2;refine ⟨a4,k4,by rw [ad];rfl,P,J.out⟩
theorem jqu (h:Out w W v l L) (bs f sz d:Nat) (p p':Addr) (x:Int) (hs:sz<=7)
  (cs:∀ V,Mem w V L->V.cell? ⟨bs,0,none⟩=some (.int .i64 sz)) (m:∀ V,Mem w V L->V.cell? ⟨f,0,none⟩=some (.func (.func d) #[] #[]))
  (D:∀ args V,(callFunc d args).run prog V=.ok (.enter d args) V) (t:∀ V,Calls prog d #[.pointer (some p)] V fun e u=>e=.returned (.pointer (some p'))/\V=u)
  (k:∀ V,Mem w V L->V.cell? p'=some (.int .u16 x)) (hb:l.length+sz<=1000000000) :
  Calls prog 282 #[v,.pointer (some p),.pointer (some ⟨bs,0,none⟩),.pointer (some ⟨f,0,none⟩)] W fun e o=>∃ b,e=.returned b/\Out w o b (l++be sz (ai.wrap x)) L:=by
 have i:Hid (Out w W.drew v l L):=h.after ((af _ _).drew);have G:=cs _ i.out.mem;have F:=m _ i.out.mem;have E:=k _ i.out.mem;have hx:0<=ai.wrap x/\ai.wrap x<18446744073709551616:=by rw [qj];omega
 have C:Hid (∀ z,0<=z/\z<18446744073709551616->Calls prog 209 #[v,.int .i64 sz,.int .u64 z] W.drew fun e o=>∃ b,e=.returned b/\Out w o b (l++be sz z) L):=fun z s=>j9p i.out sz z hs s hb;have y:Hid (∀ V b q,Out w V b q L->V.cell? ⟨bs,0,none⟩=some (.int .i64 sz)/\V.cell? ⟨f,0,none⟩=some (.func (.func d) #[] #[])/\V.cell? p'=some (.int .u16 x)):=fun V b q j=>⟨cs _ j.mem,m _ j.mem,k _ j.mem⟩;clear h cs m k;go_enter func282,ntmps282;go_upto_region 1 with fail
 go_region_held3 (fun V=>V.cell? ⟨bs,0,none⟩=some (.int .i64 sz)/\V.cell? ⟨f,0,none⟩=some (.func (.func d) #[] #[])/\V.cell? p'=some (.int .u16 x)) (first|go_keep|exact y.out _ _ _ r)
  (first|(go_at_fn d;refine (t _).mono ?_;rintro e V ⟨rfl,rfl⟩)|(go_at_call 209;refine (C.out _ hx).mono ?_;rintro e V ⟨b,rfl,r⟩))
 go_wp2_with fail;go_ret;exact ⟨_,rfl,r⟩
theorem jqw (o:Mem w W ((g,.cells A T (0,0))::L)) (m:Sl w a l c) (bs E sz r j:Nat) (p:Addr) (y:Int) (hs:sz<=4)
  (h:∀ q,0<=q->q<256 ^ sz->aj.wrap q=q) (z:A[j]?=some (.int .u16 y))
  (cs:∀ V,Mem w V L->V.cell? ⟨bs,0,none⟩=some (.int .i64 sz)) (D:∀ V,Mem w V L->V.cell? ⟨E,0,none⟩=some (.func (.func r) #[] #[]))
  (U:∀ args V,(callFunc r args).run prog V=.ok (.enter r args) V) (J:∀ V,Calls prog r #[.pointer (some p)] V fun e P=>e=.returned (.pointer (some ⟨g,j,none⟩))/\V=P) :
  Calls prog 283 #[.slice a l.length c,.pointer (some p),.pointer (some ⟨bs,0,none⟩),.pointer (some ⟨E,0,none⟩)] W (qh w L (fun x M=>Mem w M ((g,.cells (A.setIfInBounds j (.int .u16 x)) T (0,0))::L)) (if l.length<sz then none else some (num (l.take sz),l.drop sz))):=by
 have Z:=cs _ o.sub;by_cases hlt:l.length<sz
 ·rw [if_pos hlt];have C:=yu W a l.length c sz hlt (by omega);clear m hlt;go_enter func283,ntmps283;go_wp2_with fail;refine C.mono ?_;rintro e V ⟨rfl,rfl⟩;go_wp2_with fail;go_ret2;exact ⟨rfl,o.sub⟩
 ·rw [if_neg hlt];have k:sz<=l.length:=by omega
  have C:=qd (o.sl m) sz k (by omega);have f:(l.take sz).length=sz:=by rw [a9];omega
  have d:=j0m (j0e m.row.bytes sz);rw [f] at d;have hw:=h _ d.1 d.2;clear h hlt k d;obtain ⟨N,s⟩:∃ N,num (l.take sz)=N:=⟨_,rfl⟩;rw [s] at hw;go_enter func283,ntmps283;go_wp2_with fail;refine C.mono ?_;rintro e V ⟨R,Q,rfl,⟨a1,H,K,G,rfl,rfl,i⟩,q,rfl⟩;have b:=o.drewN q;generalize W.drewN q=V at b;have u:=i V (b.sl m);have I:=(i w m).2;have F:=ja0 u.1.row sz H f (by omega);rw [s] at F;have Y:=D _ b.sub;have X:=(b.cell 0 rfl j).trans z;have S:=b.free 0 rfl j;have t:Hid (Mem w (V.setCell ⟨g,j,none⟩ (.int .u16 N)) ((g,.cells (A.setIfInBounds j (.int .u16 N)) T (0,0))::L)):=by
   have:=b.set 0 rfl j (.int .u16 N);exact this
  clear i u o C b z cs D;go_wp2_with fail;refine (J _).mono ?_;rintro e O ⟨rfl,rfl⟩;go_wp2_with fail;refine F.mono ?_;rintro e O ⟨rfl,rfl⟩;go_wp2_with fail;go_ret2;refine ⟨K,G,by rw [ad];rfl,I,?_⟩;rw [s];exact t.out
theorem jbn (f:Nat) (k:f=276\/f=208\/f=315\/f=321) (h:Out w W v l L) (bs i sz d:Nat) (p p':Addr) (x:Int) (hs:sz<=7)
  (cs:∀ V,Mem w V L->V.cell? ⟨bs,0,none⟩=some (.int .i64 sz)) (q:∀ V,Mem w V L->V.cell? ⟨i,0,none⟩=some (.func (.func d) #[] #[]))
  (F:∀ args V,(callFunc d args).run prog V=.ok (.enter d args) V) (y:∀ V,Calls prog d #[.pointer (some p)] V fun e C=>e=.returned (.pointer (some p'))/\V=C)
  (o:∀ V,Mem w V L->V.cell? p'=some (.int .u32 x)) (hb:l.length+sz<=1000000000) :
  Calls prog f #[v,.pointer (some p),.pointer (some ⟨bs,0,none⟩),.pointer (some ⟨i,0,none⟩)] W fun e r=>∃ b,e=.returned b/\Out w r b (l++be sz (ai.wrap x)) L:=by
 rcases k with rfl|rfl|rfl|rfl
 all_goals
 have j:Hid (Out w W.drew v l L):=h.after ((af _ _).drew);have I:=cs _ j.out.mem;have H:=q _ j.out.mem;have G:=o _ j.out.mem;have hx:0<=ai.wrap x/\ai.wrap x<18446744073709551616:=by rw [qj];omega
 have E:Hid (∀ z,0<=z/\z<18446744073709551616->Calls prog 209 #[v,.int .i64 sz,.int .u64 z] W.drew fun e r=>∃ b,e=.returned b/\Out w r b (l++be sz z) L):=fun z u=>j9p j.out sz z hs u hb;have D:Hid (∀ V b s,Out w V b s L->V.cell? ⟨bs,0,none⟩=some (.int .i64 sz)/\V.cell? ⟨i,0,none⟩=some (.func (.func d) #[] #[])/\V.cell? p'=some (.int .u32 x)):=fun V b s m=>⟨cs _ m.mem,q _ m.mem,o _ m.mem⟩;clear h cs q o
 first|go_enter func276,ntmps276|go_enter func208,ntmps208|go_enter func315,ntmps315|go_enter func321,ntmps321
 go_upto_region 1 with fail
 go_region_held3 (fun V=>V.cell? ⟨bs,0,none⟩=some (.int .i64 sz)/\V.cell? ⟨i,0,none⟩=some (.func (.func d) #[] #[])/\V.cell? p'=some (.int .u32 x)) (first|go_keep|exact D.out _ _ _ t)
  (first|(go_at_fn d;refine (y _).mono ?_;rintro e V ⟨rfl,rfl⟩)|(go_at_call 209;refine (E.out _ hx).mono ?_;rintro e V ⟨b,rfl,t⟩))
 go_wp2_with fail;go_ret;exact ⟨_,rfl,t⟩
theorem jbp (r:Nat) (t:r=277\/r=210\/r=316\/r=322) (o:Mem w W ((g,.cells A T (0,0))::L)) (m:Sl w a l c) (bs G sz s j:Nat) (p:Addr) (y:Int) (hs:sz<=4)
  (h:∀ q,0<=q->q<256 ^ sz->ak.wrap q=q) (E:A[j]?=some (.int .u32 y))
  (cs:∀ V,Mem w V L->V.cell? ⟨bs,0,none⟩=some (.int .i64 sz)) (F:∀ V,Mem w V L->V.cell? ⟨G,0,none⟩=some (.func (.func s) #[] #[]))
  (Y:∀ args V,(callFunc s args).run prog V=.ok (.enter s args) V) (M:∀ V,Calls prog s #[.pointer (some p)] V fun e R=>e=.returned (.pointer (some ⟨g,j,none⟩))/\V=R) :
  Calls prog r #[.slice a l.length c,.pointer (some p),.pointer (some ⟨bs,0,none⟩),.pointer (some ⟨G,0,none⟩)] W (qh w L (fun x P=>Mem w P ((g,.cells (A.setIfInBounds j (.int .u32 x)) T (0,0))::L)) (if l.length<sz then none else some (num (l.take sz),l.drop sz))):=by
 rcases t with rfl|rfl|rfl|rfl
 all_goals
 have c1:=cs _ o.sub;by_cases hlt:l.length<sz
 ·rw [if_pos hlt];have C:=yu W a l.length c sz hlt (by omega);clear m hlt
  first|go_enter func277,ntmps277|go_enter func210,ntmps210|go_enter func316,ntmps316|go_enter func322,ntmps322
  go_wp2_with fail;refine C.mono ?_;rintro e V ⟨rfl,rfl⟩;go_wp2_with fail;go_ret2;exact ⟨rfl,o.sub⟩
 ·rw [if_neg hlt];have k:sz<=l.length:=by omega
  have C:=qd (o.sl m) sz k (by omega);have f:(l.take sz).length=sz:=by rw [a9];omega
  have d:=j0m (j0e m.row.bytes sz);rw [f] at d;have hw:=h _ d.1 d.2;clear h hlt k d;obtain ⟨N,u⟩:∃ N,num (l.take sz)=N:=⟨_,rfl⟩;rw [u] at hw
  first|go_enter func277,ntmps277|go_enter func210,ntmps210|go_enter func316,ntmps316|go_enter func322,ntmps322
  go_wp2_with fail;refine C.mono ?_;rintro e V ⟨U,S,rfl,⟨a1,J,O,I,rfl,rfl,i⟩,q,rfl⟩;have b:=o.drewN q;generalize W.drewN q=V at b;have D:=i V (b.sl m);have K:=(i w m).2;have H:=ja0 D.1.row sz J f (by omega);rw [u] at H;have c2:=F _ b.sub;have Z:=(b.cell 0 rfl j).trans E;have X:=b.free 0 rfl j;have z:Hid (Mem w (V.setCell ⟨g,j,none⟩ (.int .u32 N)) ((g,.cells (A.setIfInBounds j (.int .u32 N)) T (0,0))::L)):=by
   have:=b.set 0 rfl j (.int .u32 N);exact this
  clear i D o C b E cs F;go_wp2_with fail;refine (M _).mono ?_;rintro e Q ⟨rfl,rfl⟩;go_wp2_with fail;refine H.mono ?_;rintro e Q ⟨rfl,rfl⟩;go_wp2_with fail;go_ret2;refine ⟨O,I,by rw [ad];rfl,K,?_⟩;rw [u];exact z.out
structure Ten where
 name:ByteArray
 vni:Int
 key:List Int
 vtep:Int
 vmac:List Int
 host:List Int
 pool:List Int
 lo:Int
 hi:Int
 filter:Int
 stat:List (Int×Int)
 twi:List (Int×Int)
 sess:Int
 queue:Int
 rate:Int
 burst:Int
structure TLen (t:Ten):Prop where
 key:t.key.length=8
 vmac:t.vmac.length=6
 host:t.host.length=6
def tc (t:Ten) (p s q:Value):List Value :=
 .string t.name::.int .u32 t.vni::(t.key.map (Value.int .u8)++.int .u32 t.vtep::(t.vmac.map (Value.int .u8)++(t.host.map (Value.int .u8) ++
  [p,.int .u16 t.lo,.int .u16 t.hi,.int .i64 t.filter,s,q,.int .i64 t.sess,.int .i64 t.queue,.int .u32 t.rate,.int .u32 t.burst])))
theorem six6 (h:l.length=6):∃ a b c d e f,l=[a,b,c,d,e,f]:=by
 match l,h with
 | [a,b,c,d,e,f],_=>exact ⟨a,b,c,d,e,f,rfl⟩
theorem kt (h:l.length=8):∃ a b c d e f x y,l=[a,b,c,d,e,f,x,y]:=by
 match l,h with
 | [a,b,c,d,e,f,x,y],_=>exact ⟨a,b,c,d,e,f,x,y,rfl⟩
theorem ji {t:Ten} (h:TLen t) (p s q:Value):(tc t p s q).length=33:=by
 simp [tc,h.key,h.vmac,h.host]
def ten0:Ten:=⟨ByteArray.empty,0,[0,0,0,0,0,0,0,0],0,[0,0,0,0,0,0],[0,0,0,0,0,0],[],0,0,0,[],[],0,0,0,0⟩
theorem j1h:TLen ten0:=⟨rfl,rfl,rfl⟩
abbrev nilV:Value:=.slice none 0 0
theorem j87:(prog.info? 46).map (fun i=>(i.zero,i.size,i.bytes))=some (some (.agg (tc ten0 nilV nilV nilV).toArray),33,160):=by kernel_rfl
theorem j86:(prog.info? 33).map (fun i=>(i.zero,i.size,i.bytes))=some (some (.int .u32 0),1,4):=by kernel_rfl
theorem jgj:(prog.info? 122).map (fun i=>(i.zero,i.size,i.bytes))=some (some (.agg #[.int .u32 0,.int .u32 0]),2,8):=by kernel_rfl
def Rw (V:World) (sz:Nat) (v:Value) (xs:List (List Value)):Prop :=
 ∃ a c,v=.slice a xs.length c/\xs.length<=c/\c<=9223372036854775807/\(a=none->c=0) /\
  (xs=[]\/∃ b off,a=some ⟨b,off,none⟩/\∀ i,i<xs.length->∀ j u,(xs.getD i [])[j]?=some u->V.cell? ⟨b,off+i*sz+j,none⟩=some u)
theorem Rw.below {V f:World} {xs:List (List Value)} (h:Rw V sz v xs) (m:∀ x∈xs,x≠[]) (hb:Below B V f) (t:V.heap.size<=B):Rw f sz v xs:=by
 obtain ⟨a,c,rfl,s,r,q,o⟩:=h;refine ⟨a,c,rfl,s,r,q,?_⟩;rcases o with e|⟨b,off,rfl,hc⟩
 ·exact Or.inl e
 ·refine Or.inr ⟨b,off,rfl,fun i hi j u k=>?_⟩;have:=hc i hi j u k;have d:=j9 this;rw [hb.cell (p:=⟨b,off+i*sz+j,none⟩) (by simp at d ⊢;omega)];exact this
def ux (l:List Int):List (List Value):=l.map (fun x=>[.int .u32 x])
def px (l:List (Int×Int)):List (List Value):=l.map (fun x=>[.int .u32 x.1,.int .u32 x.2])
theorem j1g:∀ x∈ux l,x≠[]:=by
 intro x hx;simp only [ux,ae] at hx;obtain ⟨y,_,rfl⟩:=hx;simp
theorem zj {l:List (Int×Int)}:∀ x∈px l,x≠[]:=by
 intro x hx;simp only [px,ae] at hx;obtain ⟨y,_,rfl⟩:=hx;simp
theorem Mem.rw' (d:Mem w W L) {xs:List (List Value)} (h:Rw w sz v xs) (b:∀ x∈xs,x≠[]):Rw W sz v xs:=h.below b d.below (a5 _)
theorem yb (z:Array Value) (n:Nat) (d:0<z.size):(madeCells z (n*z.size)).toList=(List.replicate n z.toList).flatten:=by
 have key:∀ m,(madeCells z m).toList=(List.range m).map (fun i=>z[i % z.size]!):=by
  intro m;simp [madeCells]
 rw [key]
 induction n with
 | zero=>simp
 | succ n ih =>
  rw [Nat.succ_mul,List.range_add,List.map_append,ih,List.replicate_succ',List.flatten_append];congr 1;simp only [List.map_map,List.flatten_cons,List.flatten_nil,a6];apply List.ext_getElem
  ·simp
  ·intro i e b;have hi:i<z.size:=by simpa using b
   simp only [List.getElem_map,List.getElem_range,Function.comp_apply,Array.getElem_toList];rw [Nat.mul_add_mod_self_right,Nat.mod_eq_of_lt hi,getElem!_pos z i hi]
end Go.Proofs.YtdigofgjhaakmaaGreatDoor
