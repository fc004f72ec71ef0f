/- Parts of the proof. -/
import Derived.Test.YtdigofgjhaakmaaGreatDoorF03
set_option linter.all false
set_option maxHeartbeats 40000000
set_option maxRecDepth 20000
open Go.Proofs.Tryz
open List renaming length_take->a0,length_drop->a2,take_of_length_le->a3,set_append_right->a4,getD->a5,getElem?_eq_getElem->a6,append_assoc->a7,getElem?_eq_some_iff->a8,take_left'->a9,perm_append_comm->aa,size_toArray->ab
open Go.IntKind renaming u64->ac,i64->ae
open Go.Builtin renaming append_->af
open Array renaming size_append->ag,toList_append->ah
namespace Go.Proofs.YtdigofgjhaakmaaGreatDoor
variable {l:List Int} {L R:List (Nat×Obj)} {a:Option Addr} {W w W1:World} {g n j h:Nat} {A c hc:Array Value} {T t:TypeId} {v:Value}
section
open Go.RowKit Sm Cf
theorem jqn (f:Nat) (d:f=279\/f=214) (h:Out w W v l L) (q b n:Nat) (p p':Addr) (x:List Int) (u:x.length=n)
  (o:∀ V,Mem w V L->V.cell? ⟨q,0,none⟩=some (.func (.func b) #[] #[]))
  (C:∀ args V,(callFunc b args).run prog V=.ok (.enter b args) V) (s:∀ V,Calls prog b #[.pointer (some p)] V fun e z=>e=.returned (.slice (some p') n n)/\V=z)
  (m:∀ V,Mem w V L->Row V (some p') x) (hb:l.length+n<=1000000000) :
  Calls prog f #[v,.pointer (some p),.pointer (some ⟨q,0,none⟩)] W fun e y=>∃ i,e=.returned i/\Out w y i (l++x) L:=by
 rcases d with rfl|rfl
 all_goals
 have D:=o _ h.mem;obtain ⟨r,W1,hr,k⟩:=qq (c:=n) h p' n x u (m _ h.mem) hb 86;have B:Hid (Out w W1 r (l++x) L):=k;clear h o m k
 first|go_enter func279,ntmps279|go_enter func214,ntmps214
 go_wp2_with fail;refine (s _).mono ?_;rintro e V ⟨rfl,rfl⟩;go_wp2_with (at_builtin;refine wpList_append_run (.tmp 6) (.tmp 9) 86 86 (by with_reducible rfl) hr rfl rfl (by simp [Act.eval]) (by simp [Act.eval]) ?_)
 go_ret;exact ⟨_,rfl,B.out⟩
theorem jqp (E:Nat) (z:E=280\/E=215) {c:Nat} (o:Mem w W ((g,.cells A T (0,0))::L)) (u:Sl w a l c) (I n r j:Nat) (p:Addr) (hs:n<=8) (N:0<n)
  (O:j+n<=A.size)
  (F:∀ V,Mem w V L->V.cell? ⟨I,0,none⟩=some (.func (.func r) #[] #[]))
  (eo:∀ args V,(callFunc r args).run prog V=.ok (.enter r args) V) (y:∀ V,Calls prog r #[.pointer (some p)] V fun e Y=>e=.returned (.slice (some ⟨g,j,none⟩) n n)/\V=Y) :
  Calls prog E #[.slice a l.length c,.pointer (some p),.pointer (some ⟨I,0,none⟩)] W (qh w L (fun x U=>Mem w U ((g,.cells (spl A j x) T (0,0))::L)) (if l.length<n then none else some (l.take n,l.drop n))):=by
 rcases z with rfl|rfl
 all_goals
 have c1:=F _ o.sub;by_cases hlt:l.length<n
 ·rw [if_pos hlt];have C:=yu W a l.length c n hlt (by omega);clear u hlt
  first|go_enter func280,ntmps280|go_enter func215,ntmps215
  go_wp2_with fail;refine (y _).mono ?_;rintro e V ⟨rfl,rfl⟩;go_wp2_with fail;refine C.mono ?_;rintro e V ⟨rfl,rfl⟩;go_wp2_with fail;go_ret2;exact ⟨rfl,o.sub⟩
 ·rw [if_neg hlt];have m:n<=l.length:=by omega
  have C:=qd (o.sl u) n m (by omega);have f:(l.take n).length=n:=by rw [a0];omega
  obtain ⟨X,D⟩:∃ X,l.take n=X:=⟨_,rfl⟩;rw [D] at f ⊢;clear hlt m
  first|go_enter func280,ntmps280|go_enter func215,ntmps215
  go_wp2_with fail;refine (y _).mono ?_;rintro e V ⟨rfl,rfl⟩;go_wp2_with fail;refine C.mono ?_;rintro e V ⟨v1,Z,rfl,⟨Q,K,P,J,rfl,rfl,i⟩,q,rfl⟩;have d:=o.drewN q;generalize W.drewN q=V at d;have s:=(i V (d.sl u)).1;have M:=(i w u).2;rw [D] at s;obtain ⟨S,B,k⟩:=j08 V 3 (some ⟨g,j,none⟩) Q n n n K g j A (spl A j X) T (d.get 0 rfl) X (by rw [f];exact (Nat.min_self n).symm)
   (fun H=>⟨rfl,by
    rcases s.row.cells with e|⟨b,off,rfl,_⟩
    ·rw [e] at H;simp at H
    ·exact ⟨_,rfl,s.row.news⟩⟩) (by omega) rfl
  rw [f] at B;have c2:=F _ d.sub;have G:Hid (Mem w S ((g,.cells (spl A j X) T (0,0))::L)):=d.wrote 0 rfl k;clear i s o C d O F k D;go_wp2_with fail;refine (y _).mono ?_;rintro e V1 ⟨rfl,rfl⟩;go_wp2_with fail;go_ret2;refine ⟨P,J,by rw [a2];rfl,M,G.out⟩
theorem jqt (h:Out w W v l L) (bs f sz d:Nat) (p p':Addr) (x:Int) (hs:sz<=7)
  (cs:∀ V,Mem w V L->V.cell? ⟨bs,0,none⟩=some (.int .i64 sz)) (o:∀ V,Mem w V L->V.cell? ⟨f,0,none⟩=some (.func (.func d) #[] #[]))
  (E:∀ args V,(callFunc d args).run prog V=.ok (.enter d args) V) (y:∀ V,Calls prog d #[.pointer (some p)] V fun e B=>e=.returned (.pointer (some p'))/\V=B)
  (m:∀ V,Mem w V L->V.cell? p'=some (.int .i64 x)) (hb:l.length+sz<=1000000000) :
  Calls prog 285 #[v,.pointer (some p),.pointer (some ⟨bs,0,none⟩),.pointer (some ⟨f,0,none⟩)] W fun e q=>∃ b,e=.returned b/\Out w q b (l++be sz (ac.wrap x)) L:=by
 have i:Hid (Out w W.drew v l L):=h.after ((Below.refl _ _).drew);have H:=cs _ i.out.mem;have G:=o _ i.out.mem;have F:=m _ i.out.mem;have hx:0<=ac.wrap x/\ac.wrap x<18446744073709551616:=by rw [qj];omega
 have D:Hid (∀ z,0<=z/\z<18446744073709551616->Calls prog 209 #[v,.int .i64 sz,.int .u64 z] W.drew fun e q=>∃ b,e=.returned b/\Out w q b (l++be sz z) L):=fun z u=>j9p i.out sz z hs u hb;have C:Hid (∀ V b r,Out w V b r L->V.cell? ⟨bs,0,none⟩=some (.int .i64 sz)/\V.cell? ⟨f,0,none⟩=some (.func (.func d) #[] #[])/\V.cell? p'=some (.int .i64 x)):=fun V b r k=>⟨cs _ k.mem,o _ k.mem,m _ k.mem⟩;clear h cs o m;go_enter func285,ntmps285;go_upto_region 1 with fail
 go_region_held3 (fun V=>V.cell? ⟨bs,0,none⟩=some (.int .i64 sz)/\V.cell? ⟨f,0,none⟩=some (.func (.func d) #[] #[])/\V.cell? p'=some (.int .i64 x)) (first|go_keep|exact C.out _ _ _ s)
  (first|(go_at_fn d;refine (y _).mono ?_;rintro e V ⟨rfl,rfl⟩)|(go_at_call 209;refine (D.out _ hx).mono ?_;rintro e V ⟨b,rfl,s⟩))
 go_wp2_with fail;go_ret;exact ⟨_,rfl,s⟩
theorem jqv {c:Nat} (r:Mem w W ((g,.cells A T (0,0))::L)) (o:Sl w a l c) (bs F sz s j:Nat) (p:Addr) (y:Int) (hs:sz<=4)
  (i:∀ q,0<=q->q<256 ^ sz->ae.wrap q=q) (D:A[j]?=some (.int .i64 y))
  (cs:∀ V,Mem w V L->V.cell? ⟨bs,0,none⟩=some (.int .i64 sz)) (E:∀ V,Mem w V L->V.cell? ⟨F,0,none⟩=some (.func (.func s) #[] #[]))
  (Y:∀ args V,(callFunc s args).run prog V=.ok (.enter s args) V) (K:∀ V,Calls prog s #[.pointer (some p)] V fun e Q=>e=.returned (.pointer (some ⟨g,j,none⟩))/\V=Q) :
  Calls prog 286 #[.slice a l.length c,.pointer (some p),.pointer (some ⟨bs,0,none⟩),.pointer (some ⟨F,0,none⟩)] W (qh w L (fun x O=>Mem w O ((g,.cells (A.setIfInBounds j (.int .i64 x)) T (0,0))::L)) (if l.length<sz then none else some (num (l.take sz),l.drop sz))):=by
 have c1:=cs _ r.sub;by_cases hlt:l.length<sz
 ·rw [if_pos hlt];have C:=yu W a l.length c sz hlt (by omega);clear o hlt;go_enter func286,ntmps286;go_wp2_with fail;refine C.mono ?_;rintro e V ⟨rfl,rfl⟩;go_wp2_with fail;go_ret2;exact ⟨rfl,r.sub⟩
 ·rw [if_neg hlt];have m:sz<=l.length:=by omega
  have C:=qd (r.sl o) sz m (by omega);have f:(l.take sz).length=sz:=by rw [a0];omega
  have d:=j0m (j0e o.row.bytes sz);rw [f] at d;have hw:=i _ d.1 d.2;clear i hlt m d;obtain ⟨N,u⟩:∃ N,num (l.take sz)=N:=⟨_,rfl⟩;rw [u] at hw;go_enter func286,ntmps286;go_wp2_with fail;refine C.mono ?_;rintro e V ⟨U,S,rfl,⟨a1,I,M,H,rfl,rfl,k⟩,q,rfl⟩;have b:=r.drewN q;generalize W.drewN q=V at b;have B:=k V (b.sl o);have J:=(k w o).2;have G:=ja0 B.1.row sz I f (by omega);rw [u] at G;have c2:=E _ b.sub;have Z:=(b.cell 0 rfl j).trans D;have X:=b.free 0 rfl j;have z:Hid (Mem w (V.setCell ⟨g,j,none⟩ (.int .i64 N)) ((g,.cells (A.setIfInBounds j (.int .i64 N)) T (0,0))::L)):=by
   have:=b.set 0 rfl j (.int .i64 N);exact this
  clear k B r C b D cs E;go_wp2_with fail;refine (K _).mono ?_;rintro e P ⟨rfl,rfl⟩;go_wp2_with fail;refine G.mono ?_;rintro e P ⟨rfl,rfl⟩;go_wp2_with fail;go_ret2;refine ⟨M,H,by rw [a2];rfl,J,?_⟩;rw [u];exact z.out
end
section
open Go.RowKit Sm
def lspl (l:List Int) (off:Nat) (b:List Int):List Int:=l.take off++(b++l.drop (off+b.length))
theorem qo (l:List Int) (d:Nat) (b:List Int) (h:d+b.length<=l.length):(lspl l d b).length=l.length:=by simp [lspl];omega
theorem jn2 (l:List Int) (b:Nat):lspl l b []=l:=by simp [lspl]
theorem j06 {b:List Int} (f:j6 l) (hb:j6 b) (d:Nat):j6 (lspl l d b):=by
 refine jp ?_ (jp hb ?_)
 ·have:=kh f 0 d;simpa [sl] using this
 ·have:=kh f (d+b.length) l.length;have e:sl l (d+b.length) l.length=l.drop (d+b.length):=by unfold sl;exact a3 (by simp)
  rwa [e] at this
theorem jn1 (l:List Int) (d i:Nat) (b:List Int) (hi:i<b.length) (h:d+b.length<=l.length):(lspl l d (b.take i)).set (d+i) (b.getD i 0)=lspl l d (b.take (i+1)):=by
 have f:(b.take i).length=i:=by simp;omega
 have m:(b.take (i+1)).length=i+1:=by simp;omega
 have k:(l.take d).length=d:=by simp;omega
 unfold lspl;rw [f,m,a4 _ _ (by omega),k,Nat.add_sub_cancel_left,a4 _ _ (by omega),f,Nat.sub_self];have e:l.drop (d+i)=l.getD (d+i) 0::l.drop (d+(i+1)):=by
  rw [a5,a6 (show d+i<l.length by omega)];exact List.drop_eq_getElem_cons (show d+i<l.length by omega)
 rw [e,List.set_cons_zero,List.take_add_one,a6 hi,a5,a6 hi];simp only [Option.toList,Option.getD,a7,List.cons_append,List.nil_append]
theorem Wrote.same (b:W.heap[g]?=some (.cells c t (0,0))):Wrote W W g c t:=⟨b,fun _ _=>rfl,rfl,fun _ _ _ h=>h⟩
theorem Wrote.byte (h:Wrote W W1 g (bs l) 5) (j:Nat) (x:Int):Wrote W (W1.setCell ⟨g,j,none⟩ (.int .u8 x)) g (bs (l.set j x)) 5:=by
 rw [setCell_eq_setRow W1 g j (bs l) 5 (0,0) _ h.here,jho];exact h.trans (j8 W1 g _ _ 5 h.here)
theorem jcj (h:Wrote W W1 g (bs l) 5) (b:j<l.length):W1.cell? ⟨g,j,none⟩=some (.int .u8 (l.getD j 0)):=by
 rw [cell_of h.here,jm2 b]
theorem jci (h:Wrote W W1 g c t) (j:Nat):W1.frozen? ⟨g,j,none⟩=false:=by
 simp [World.frozen?,h.here]
theorem j0x (s:W.heap[g]?=some (.cells (bs l) 5)) (b k c:Nat) (h:b+k<=l.length) (C:k<=8) (B:l.length<=140737488351232) (x:Int) (q:0<=x) (p:x<=18446744073709551615) :
  Calls prog 146 #[.slice (some ⟨g,b,none⟩) k c,.int .u64 x] W fun e y=>e=.returned (.tuple #[])/\Wrote W y g (bs (lspl l b (lbe k x))) 5:=by
 have d:=Wrote.same s;go_enter func146,ntmps146;go_wp2_with fail
 go_loopw [7] (fun v wr=>∃ i:Nat,v=.int .i64 i/\i<=k/\Wrote W wr g (bs (lspl l b ((lbe k x).take i))) 5) (fun v _=>k-(intOf v).toNat)
 case atStart=>exact ⟨0,rfl,by omega,by rw [List.take_zero,jn2];exact d⟩
 case round =>
  obtain ⟨i,rfl,hi,hw⟩:=hrel;have f:=jc k x;by_cases hlt:i<k
  ·have r:(lspl l b ((lbe k x).take i)).length=l.length:=qo _ _ _ (by simp;omega);have u:=jcj hw (j:=b+i) (by omega);have D:=jci hw (b+i);have z:Hid (x / 2 ^ (8*(k-1-i)) % 256=(lbe k x).getD i 0):=by
    rw [jpe k i x hlt,Int.pow_mul];rfl
   have o:=hw.byte (b+i) (x / 2 ^ (8*(k-1-i)) % 256);have m:Hid (Wrote W (wr.setCell ⟨g,b+i,none⟩ (.int .u8 (x / 2 ^ (8*(k-1-i)) % 256))) g (bs (lspl l b ((lbe k x).take (i+1)))) 5):=by
    rw [<-jn1 l b i (lbe k x) (by omega) (by omega),<-z.out];exact o
   clear o hw d f;generalize (lspl l b ((lbe k x).take i)).getD (b+i) 0=old at u
   go_wp2
   go_roundw
   case rel=>exact ⟨i+1,by go_num,by omega,m.out⟩
   case measure=>simp [intOf];omega
  ·have:i=k:=by omega
   subst this;rw [a3 (by omega)] at hw
   go_wp2
   go_end0
   exact ⟨rfl,hw⟩
theorem jnp (x y:Int) (f:0<=x) (e:x<72057594037927936) (b:0<=y) (d:y<=255):bits .or .u64 (x*256) y=x*256+y :=
 bits_join .u64 64 (by decide) wraps_u64 8 (x*256) y (by omega) (by omega) (by omega) b (by omega) (by omega)
theorem jt2 (l:List Int) (hb:j6 l) (k:Nat) (b:l.length=k) (h:k<=7):0<=gt l/\gt l<72057594037927936:=by
 have:=j0z l hb;refine ⟨this.1,Int.lt_of_lt_of_le this.2 ?_⟩;rw [b]
 match k,h with
 | 0,_=>decide
 | 1,_=>decide
 | 2,_=>decide
 | 3,_=>decide
 | 4,_=>decide
 | 5,_=>decide
 | 6,_=>decide
 | 7,_=>decide
theorem jk4 (h:j6 l) (i:Nat):j6 (l.take i):=by have:=kh h 0 i;simpa [sl] using this
theorem j0y (q:l.length=n) (hr:Row W a l) (z:n<=8) (c:Nat) :
  Calls prog 256 #[.slice a n c] W fun e r=>e=.returned (.int .u64 (gt l))/\W=r:=by
 have p:Hid (Row W a l):=hr;clear hr;go_enter func256,ntmps256;go_wp2_with fail
 go_loop [3,8] (fun s v=>∃ k:Nat,v=.int .i64 k/\k<=n/\s=.int .u64 (gt (l.take k))) (fun _ v=>n-(intOf v).toNat)
 case atStart=>exact ⟨0,rfl,by omega,rfl⟩
 case round =>
  obtain ⟨k,rfl,y,rfl⟩:=hrel;by_cases hlt:k<n
  ·obtain ⟨b,d,rfl,hc⟩:∃ b d,a=some ⟨b,d,none⟩/\W.cell? ⟨b,d+k,none⟩=some (.int .u8 (l.getD k 0)):=by
    rcases p.out.cells with e|⟨b,d,e,hc⟩
    ·rw [e] at q;simp at q;omega
    ·exact ⟨b,d,e,hc k (by omega)⟩
   have hx:=p.out.bytes k;have hs:=jt2 (l.take k) (jk4 p.out.bytes k) k (by simp;omega) (by omega);have u:Hid (gt (l.take (k+1))=gt (l.take k)*256+l.getD k 0):=joi _ _ (by omega);generalize gt (l.take k)=S at *;generalize l.getD k 0=X at *;obtain ⟨i,f⟩:=hx;obtain ⟨o,m⟩:=hs;have x:=jnp S X o m i f;have hw:ac.wrap (S*256)=S*256:=wraps_u64 _ (by omega) (by omega)
   go_wp2
   go_round
   case rel=>exact ⟨k+1,by go_num,by omega,by rw [u.out]⟩
   case measure=>simp [intOf];omega
  ·have:k=n:=by omega
   subst this;have e:l.take k=l:=a3 (by omega);rw [e]
   go_wp2
   go_ret;exact ⟨rfl,rfl⟩
theorem j0p (m:l.length=n) (hr:Row W a l) (c:Nat) :
  Calls prog 87 #[.slice a n c] W fun e y=>∃ g,e=.returned (.slice (some ⟨g,0,none⟩) n n)/\Mem W y [(g,.cells (bs l) 5)]:=by
 have u:=hr.len;have x:=j07 n (by omega) W;have f:Mem W (W.alloc (.cells (madeCells #[.int .u8 0] n) 5)) [(W.heap.size,.cells (madeCells #[.int .u8 0] n) 5)]:=(Mem.nil W).push1 rfl;have d:Row (W.alloc (.cells (madeCells #[.int .u8 0] n) 5)) a l:=yh hr;generalize W.alloc (.cells (madeCells #[.int .u8 0] n) 5)=r at x f d;obtain ⟨q,o,i⟩:=j08 r 3 (some ⟨W.heap.size,0,none⟩) a n n n c W.heap.size 0 _ (bs l) 5 (f.get 0 rfl) l (by rw [m];exact (Nat.min_self n).symm)
  (fun s=>by
   rcases d.cells with e|⟨b,off,rfl,hc⟩
   ·subst e;simp at s
   ·exact ⟨rfl,_,rfl,d.news⟩)
  (by rw [size_madeCells];simp;omega) (jbs n l m)
 rw [m] at o;have k:=f.wrote 0 rfl i;have p:Hid (Mem W q [(W.heap.size,.cells (bs l) 5)]):=k;generalize W.heap.size=g at *;clear f hr d i u m k;go_enter func87,ntmps87
 go_wp2
 go_ret;exact ⟨g,rfl,p.out⟩
theorem jam (r:Mem w W ((h,.cells hc 86)::R)) {c:Nat} (G:n<=c) (E:c<=hc.size) (hs:n<=1000) (ty:TypeId)
  (ad:Addr) (one:Value) (F:one.oneCell'=true) (p:W.cell? ad=some one) :
  ∃ B y C,(af #[84,84] ty #[.slice (some ⟨h,0,none⟩) n c,.slice (some ad) 1 1]).run prog W=.ok (.slice (some ⟨B,0,none⟩) (n+1) y) C /\
   ∃ o,n+1<=y/\y<=o.size/\o.toList.take (n+1)=hc.toList.take n++[one]/\Mem w C ((B,.cells o 86)::R):=by
 obtain ⟨i,hi,D,b,x⟩:=info_parts jgk;have z:=r.get 0 rfl;have d:∀ j u,[one][j]?=some u->W.cell? (ad.add j)=some u:=by
  intro j u m;have:j=0:=by
   have:=(a8.mp m).1;simpa using this
  subst this;simp at m;subst m;simpa [Addr.add] using p
 have f:(hc.toList.take n).length=n:=by simp;omega
 by_cases hroom:n+1<=c
 ·have hr:=run_append_room (P:=prog) W 84 ty 86 i underlying84 hi h n c hc z ad 1 1 [one] (by rw [b];rfl) d (by simpa using F) hroom (by rw [b];simp;omega);refine ⟨_,_,_,hr,_,hroom,?_,?_,r.wrote 0 rfl (j8 W h hc _ 86 z)⟩
  ·rw [b];simp;omega
  ·rw [b,Nat.mul_one,List.toList_toArray];exact a9 (by simp;omega)
 ·have k:∀ j u,(hc.toList.take n)[j]?=some u->W.cell? ((⟨h,0,none⟩:Addr).add j)=some u:=by
   intro j u m;have q:=(a8.mp m).1;rw [f] at q;have e:((⟨h,0,none⟩:Addr).add j)=⟨h,j,none⟩:=by
    by_cases e:j=0
    ·subst e;simp [Addr.add]
    ·simp [Addr.add,e]
   rw [e,r.cell 0 rfl];rw [List.getElem?_take,if_pos q] at m;simpa using m
  have hr:=run_append_grow (P:=prog) W 84 ty 86 i (.slice none 0 0) underlying84 hi D ⟨h,0,none⟩ n c (hc.toList.take n) (by rw [b,f];omega) k ad 1 1 [one] (by rw [b];rfl) d (by omega) (by omega) (growslice_fits (by omega) (by rw [x];omega));have s:=grownCap_ge W (n+1) c 86;refine ⟨_,_,_,hr,_,s,?_,?_,((r.sub.drew.alloc _).perm aa)⟩
  ·simp only [ag,ab,size_zeroCells,f,Value.cells];simp;omega
  ·simp only [ah,a7];rw [<-a7];exact a9 (by simp;omega)
theorem j8t (x:Mem w W R) (ty:TypeId) (ad:Addr) (one:Value) (e:W.cell? ad=some one) :
  ∃ q p r,(af #[84,84] ty #[.slice none 0 0,.slice (some ad) 1 1]).run prog W=.ok (.slice (some ⟨q,0,none⟩) 1 p) r /\
   ∃ d,1<=p/\p<=d.size/\d.toList.take 1=[one]/\Mem w r ((q,.cells d 86)::R):=by
 obtain ⟨i,hi,s,f,o⟩:=info_parts jgk;have b:∀ j u,[one][j]?=some u->W.cell? (ad.add j)=some u:=by
  intro j u k;have:j=0:=by
   have:=(a8.mp k).1;simpa using this
  subst this;simp at k;subst k;simpa [Addr.add] using e
 have hr:=run_append_nil (P:=prog) W 84 ty 86 i (.slice none 0 0) underlying84 hi s ad 1 1 [one] (by rw [f];rfl) b (by omega) (by omega) (by rw [o];omega);have m:=grownCap_ge W 1 0 86;refine ⟨_,_,_,hr,_,m,?_,?_,((x.drew.alloc _).perm aa)⟩
 ·simp only [ag,ab,size_zeroCells,Value.cells];simp;omega
 ·simp
theorem je3 (W:World) (p:l.length=n) (hr:Row W a l) (u:0<n) (c:Nat) (ty:TypeId) :
  ∃ g cap r,(af #[86,86] ty #[.slice none 0 0,.slice a n c]).run prog W=.ok (.slice (some ⟨g,0,none⟩) n cap) r /\
   ∃ f,Mem W r [(g,.cells f 5)]/\(Bk.mk g cap f l).Ok n:=by
 obtain ⟨i,hi,s,k,o⟩:=info_parts jdg;obtain ⟨b,d,rfl⟩:∃ b d,a=some ⟨b,d,none⟩:=by
  rcases hr.cells with e|⟨b,d,e,_⟩
  ·subst e;simp at p;omega
  ·exact ⟨b,d,e⟩
 have q:=hr.len;have h:=run_append_nil (P:=prog) W 86 ty 5 i (.int .u8 0) underlying86 hi s ⟨b,d,none⟩ n c (l.map (Value.int .u8)) (by rw [k];simp;omega) hr.news u (by omega) (by rw [o];omega);have m:=grownCap_ge W n 0 5;refine ⟨_,_,_,h,_,(Mem.nil W).drew.push1 rfl,⟨m,?_,?_,p,hr.bytes⟩⟩
 ·simp only [ag,ab,size_zeroCells,Value.cells];simp;omega
 ·simp only [ah];exact a9 (by simp;omega)
end
section
open Go.RowKit Sm Cf
end
end Go.Proofs.YtdigofgjhaakmaaGreatDoor
