/- Parts of the proof. -/
import Derived.Test.YtdigofgjhaakmaaGreatDoorF02
import Derived.Shelf.Abstract
import Derived.Laws.EntriesVeiled
set_option linter.all false
set_option maxHeartbeats 40000000
set_option maxRecDepth 20000
open Go.Proofs.Tryz
open List renaming getElem?_eq_some_iff->a0,map_set->a3,drop_of_length_le->a4,append_nil->a5,length_append->a6,length_take->a7,append_assoc->a8,take_of_length_le->a9,length_drop->aa,replicate->ab,perm_append_comm->ac,map_append->ae,getD->af
open Nat renaming min_eq_left->ag,min_self->ah,le_refl->ai,zero_le->aj,sub_self->ak
open Int renaming toNat_natCast->al,le_refl->am
open Go.IntKind renaming i64->an,wrap_i64->ao,u8->ap,wrap->aq,bits->ar,signed->au,u64->av
namespace Go.Proofs.YtdigofgjhaakmaaGreatDoor
variable {l b:List Int} {L:List (Nat×Obj)} {a:Option Addr} {W w W' W1:World} {cap c n g h m:Nat} {cur:Array Value} {e:Ending} {v:Value} {x:Int}
section
open Go.RowKit Sm
section
variable {w W:World} {p h m:Nat} {D:Dk} {hc:Array Value} {ks:List Bk} {L:List (Nat×Obj)}
theorem jh1 (H:DkAt w W p h m D hc ks L) (i:Nat) {k:Bk} (hi:ks[i]?=some k) (hd:D.dead=false) :
  Calls prog 161 #[.pointer (some ⟨p,0,none⟩),.int .i64 i] W fun e W'=>∃ g,e=.returned (.tuple #[.slice (some ⟨g,0,none⟩) m m,.int .i64 0])/\Mem W W' [(g,.cells (bs k.b) 5)]:=by
 have s:=H.st.box 0;have q:=H.st.box 1;simp at s q;have j:=j6y H i;have d:=(a0.mp hi).1;rw [show dIn ks.length i=true by simp [dIn,d]] at j;rw [hd] at q;have t:=H.st.head hi;have o:=H.st.okAt hi;have hs:=jh0 o.len (H.st.row hi (by have:=H.mhi;omega)) k.cap;have f:(i:Int)<(ks.length:Int):=by omega
 generalize ks.length=n at *;clear H hi hd o;go_enter func161,ntmps161;go_wp2_with fail;refine j.mono ?_;rintro e w' ⟨rfl,rfl⟩;go_wp2_with fail;refine hs.mono ?_;rintro e w' ⟨g,rfl,r⟩
 go_wp2
 exact bodyPost_ret (v:=.tuple #[.slice (some ⟨g,0,none⟩) m m,.int .i64 0]) (by simp [results,results161,go_sem]) rfl ⟨g,rfl,r⟩
theorem jc1 (cur:Array Value) (l:List Int):∃ d:Array Value,d.toList=cur.toList.take 0++(l.map (Value.int .u8)++cur.toList.drop (0+l.length)):=⟨_,List.toList_toArray⟩
theorem jh4 (H:DkAt w W p h m D hc ks L) (hr:Row W a l) (N:m<=cap) (K:l.length=m) (i:Nat) {k:Bk} (hi:ks[i]?=some k) :
  Calls prog 145 #[.pointer (some ⟨p,0,none⟩),.int .i64 i,.slice a m cap] W fun e W'=>e=.returned (.tuple #[])/\∃ y,DkAt w W' p h m ⟨true,false,0,0⟩ hc y L /\
   y.map Bk.b=(ks.map Bk.b).set i (l.take D.pre.toNat++k.b.drop D.pre.toNat):=by
 have Z:=H.st.box 0;have O:=H.st.box 4;simp at Z O;have C:=(a0.mp hi).1;have M:(i:Int)<(ks.length:Int):=by omega
 have c2:=H.st.head hi;obtain ⟨P,E,T⟩:∃ P:Nat,D.pre=P/\P<=m:=⟨D.pre.toNat,by have:=H.pre;omega,by have:=H.pre;omega⟩;have J:=H.mlo;obtain ⟨b,d,rfl⟩:∃ b d,a=some ⟨b,d,none⟩:=by
  rcases hr.cells with e|⟨b,d,e,_⟩
  ·subst e;simp at K;omega
  ·exact ⟨b,d,e⟩
 have t:Row W (some ⟨b,d,none⟩) (l.take P):=by have:=hr.part 0 P (by omega);simpa using this
 have u:(l.take P).length=P:=by simp;omega
 obtain ⟨f,r⟩:=jc1 k.cur (l.take P);have o:=H.st.okAt hi;have HG:Hid (W.drew.heap[k.g]?=some (.cells k.cur 5)):=H.st.drew.mem.get (i+2) (H.st.drew.at_ hi);have G:Hid ((l.take P).length=Nat.min P m):=by show _=_;rw [u];exact (ag T).symm
 have HP:Hid (0<(l.take P).length->some (⟨k.g,0,none⟩:Addr)=some ⟨k.g,0,none⟩/\∃ ad,some (⟨b,d,none⟩:Addr)=some ad/\∀ j v,((l.take P).map (Value.int .u8))[j]?=some v->W.drew.cell? (ad.add j)=some v) :=
  fun _=>⟨rfl,_,rfl,(j0v t).news⟩
 have HF:Hid (0+(l.take P).length<=k.cur.size):=by show _<=_;have:=o.cap;have:=o.size;omega
 have F:Hid _:=r;have Q:Hid (∀ W1,Wrote W.drew W1 k.g f 5->St w W1 p (dkA h ks.length D) dkT h m hc (ks.set i ⟨k.g,k.cap,f,l.take P++k.b.drop P⟩) L):=by
  intro W1 B;have:=H.st.drew.fill hi (by omega) t.bytes r B;rwa [u] at this
 have HH:Hid (DkAt w W p h m D hc ks L):=H;have z:Hid ((ks.set i ⟨k.g,k.cap,f,l.take P++k.b.drop P⟩).map Bk.b=(ks.map Bk.b).set i (l.take D.pre.toNat++k.b.drop D.pre.toNat)/\(ks.set i ⟨k.g,k.cap,f,l.take P++k.b.drop P⟩).length=ks.length):=by
  rw [E,al];exact ⟨by rw [a3],by simp⟩
 rw [E] at O;have q1:(P:Int)<=(cap:Int):=by omega
 have q2:P<=cap:=by omega
 generalize ks.set i ⟨k.g,k.cap,f,l.take P++k.b.drop P⟩=s at Q z;generalize I:ks.length=n at *;clear H r o t hr u hi K C;go_enter func145,ntmps145;go_upto_region 0 with fail
 go_cut [] from 6 (fun R=>St w R p (dkA h n D) dkT h m hc s L)
 case first =>
  go_region_law (refine j0h rfl (.tmp 12) (.tmp 19) 86 86 rfl underlying86 (some ⟨k.g,0,none⟩) (some ⟨b,d,none⟩) m k.cap P cap (by simp [Act.eval,Act.put]) (by simp [Act.eval,Act.put]) k.g 0 k.cur f 5 HG.out (l.take P) G.out HP.out HF.out F.out ?_;intro S A)
  all_goals
   go_wp2_with fail;go_meet
   case rel=>exact Q.out S A
 case rest =>
  have Y:=hcut.box 1;have X:=hcut.box 2;have V:=hcut.box 3;have U:=hcut.box 4;simp at Y X V U;have f1:=hcut.boxFree 1;have f2:=hcut.boxFree 2;have f3:=hcut.boxFree 3;have f4:=hcut.boxFree 4;have HC:Hid (St w wc p (dkA h n D) dkT h m hc s L):=hcut;clear hcut
  go_wp2
  go_end0
  have H:=HH.out;refine ⟨rfl,s,?_,by have q:=z.out.1;rwa [E,al] at q⟩;have hs:=(((HC.out.put 1 (.bool true)).put 2 (.bool false)).put 3 (.int .i64 0)).put 4 (.int .i64 0);have e:((((dkA h n D).setIfInBounds 1 (.bool true)).setIfInBounds 2 (.bool false)).setIfInBounds 3 (.int .i64 0)).setIfInBounds 4 (.int .i64 0)=dkA h s.length ⟨true,false,0,0⟩:=by
   rw [z.out.2];simp [dkA]
  rw [e] at hs;exact ⟨hs,by rw [z.out.2,<-I];exact H.pos,by rw [z.out.2,<-I];exact H.top,H.mlo,H.mhi,by decide,⟨am 0,Int.natCast_nonneg m⟩⟩
theorem jkn (H:DkAt w W p h m D hc ks L) {b d:Nat} (hr:Row W (some ⟨b,d,none⟩) l) (f:0<l.length):b≠p:=by
 rintro rfl;have e:=hr.cellAt 0 f;rw [H.st.box] at e
 match d,e with
 | 0,e=>simp at e
 | 1,e=>simp at e
 | 2,e=>simp at e
 | 3,e=>simp at e
 | 4,e=>simp at e
 | n+5,e=>simp at e
theorem j5d (H:DkAt w W p h m D hc ks L) (hr:Row W a l) (f:m<=cap) (q:l.length=m) (i:Nat) {k:Bk} (hi:ks[i]?=some k) (hd:D.dead=false) (d:D.set=true) (s:D.left=0) :
  Calls prog 122 #[.pointer (some ⟨p,0,none⟩),.int .i64 i,.slice a m cap] W fun e W'=>e=.returned (.int .i64 42)/\∃ j,DkAt w W' p h m ⟨true,false,0,0⟩ hc j L /\
   j.map Bk.b=(ks.map Bk.b).set i (l.take D.pre.toNat++k.b.drop D.pre.toNat):=by
 have y:=H.st.box 1;have u:=H.st.box 2;have t:=H.st.box 3;simp at y u t;rw [hd] at y;rw [d] at u;rw [s] at t;have r:=j6y H i;have o:=(a0.mp hi).1;rw [show dIn ks.length i=true by simp [dIn,o]] at r;have hs:=yk H;have A:=jh4 H hr f q i hi;have z:((m:Int) != m)=false:=by simp
 clear H hr f q hi o hd d s;go_enter func122,ntmps122;go_wp2_with fail;refine r.mono ?_;rintro e w' ⟨rfl,rfl⟩;go_wp2_with fail;refine hs.mono ?_;rintro e w' ⟨rfl,rfl⟩;go_wp2_with fail;refine A.mono ?_;rintro e w' ⟨rfl,hr⟩
 go_wp2
 go_ret;exact ⟨rfl,hr⟩
theorem j8g (H:DkAt w W p h m D hc ks L) (hr:Row W a l) (u:l.length=m) (i:Nat) {k:Bk} (hi:ks[i]?=some k) (hd:D.dead=false) (r:D.set=false\/D.left≠0) :
  Calls prog 122 #[.pointer (some ⟨p,0,none⟩),.int .i64 i,.slice a m cap] W fun e W'=>e=.returned (.int .i64 0)/\∃ E,DkAt w W' p h m (if D.set then ⟨false,true,D.left-1,D.pre⟩ else ⟨false,false,D.left,D.pre⟩) hc E L /\
   E.map Bk.b=(ks.map Bk.b).set i l:=by
 have R:=H.st.box 0;have Q:=H.st.box 1;have M:=H.st.box 2;have Z:=H.st.box 3;simp at R Q M Z;rw [hd] at Q;have K:=j6y H i;have B:=(a0.mp hi).1;rw [show dIn ks.length i=true by simp [dIn,B]] at K;have P:(i:Int)<(ks.length:Int):=by omega
 have hs:=yk H;have ch:=H.st.head hi;have U:((m:Int) != m)=false:=by simp
 have O:=H.mlo;obtain ⟨b,q,rfl⟩:∃ b q,a=some ⟨b,q,none⟩:=by
  rcases hr.cells with e|⟨b,q,e,_⟩
  ·subst e;simp at u;omega
  ·exact ⟨b,q,e⟩
 have J:=H.left;have o:=H.st.okAt hi;obtain ⟨j,d⟩:=jc1 k.cur l;have t:Hid ((ks.set i ⟨k.g,k.cap,j,l⟩).map Bk.b=(ks.map Bk.b).set i l/\(ks.set i ⟨k.g,k.cap,j,l⟩).length=ks.length):=⟨by rw [a3],by simp⟩;have S:Hid (DkAt w W p h m D hc ks L):=H;rcases Bool.eq_false_or_eq_true D.set with hst|hst
 ·rw [hst] at M r ⊢;have I:¬D.left=0:=by simpa using r
  have N:(D.left==0)=false:=by simpa using I
  have f3:=H.st.boxFree 3;have C:=H.st.put 3 (.int .i64 (D.left-1));have Y:=C.box 0;simp at Y;have dh:=C.head hi;have A:Row (W.setCell ⟨p,3,none⟩ (.int .i64 (D.left-1))) (some ⟨b,q,none⟩) l:=hr.setCell (fun e=>jkn H hr (by omega) e.symm) _;obtain ⟨W1,z,s⟩:=j08 (W.setCell ⟨p,3,none⟩ (.int .i64 (D.left-1))) 3 (some ⟨k.g,0,none⟩) (some ⟨b,q,none⟩) m k.cap m cap k.g 0 k.cur j 5 (C.mem.get (i+2) (C.at_ hi)) l (by rw [u];exact (ah m).symm)
   (fun _=>⟨rfl,_,rfl,A.news⟩) (by have:=o.cap;have:=o.size;omega) d
  rw [u] at z;have f:=C.fill hi (by omega) A.bytes d s;rw [u,a4 (by rw [o.len];exact ai _),a5] at f;rw [show (dkA h ks.length D).setIfInBounds 3 (.int .i64 (D.left-1))=dkA h ks.length ⟨false,true,D.left-1,D.pre⟩ by simp [dkA,hd,hst]] at f;have G:Hid (St w W1 p (dkA h ks.length ⟨false,true,D.left-1,D.pre⟩) dkT h m hc (ks.set i ⟨k.g,k.cap,j,l⟩) L):=f;obtain ⟨X,V⟩:=J;have T:an.wrap (D.left-1)=D.left-1:=by rw [ao];omega
  generalize ks.set i ⟨k.g,k.cap,j,l⟩=y at G t;generalize F:ks.length=n at *;clear H hr A hi B s f C d o r u R;go_enter func122,ntmps122;go_wp2_with fail;refine K.mono ?_;rintro e w' ⟨rfl,rfl⟩;go_wp2_with fail;refine hs.mono ?_;rintro e w' ⟨rfl,rfl⟩
  go_wp2
  go_ret;have H:=S.out;have hs:=G.out;rw [<-t.out.2] at hs;exact ⟨rfl,y,⟨hs,by rw [t.out.2,<-F];exact H.pos,by rw [t.out.2,<-F];exact H.top,H.mlo,H.mhi,⟨by show 0<=D.left-1;omega,by show D.left-1<=_;omega⟩,H.pre⟩,t.out.1⟩
 ·rw [hst] at M ⊢;obtain ⟨W1,z,s⟩:=j08 W 3 (some ⟨k.g,0,none⟩) (some ⟨b,q,none⟩) m k.cap m cap k.g 0 k.cur j 5 (H.st.mem.get (i+2) (H.st.at_ hi)) l (by rw [u];exact (ah m).symm)
   (fun _=>⟨rfl,_,rfl,hr.news⟩) (by have:=o.cap;have:=o.size;omega) d
  rw [u] at z;have f:=H.st.fill hi (by omega) hr.bytes d s;rw [u,a4 (by rw [o.len];exact ai _),a5] at f;rw [show dkA h ks.length D=dkA h ks.length ⟨false,false,D.left,D.pre⟩ by simp [dkA,hd,hst]] at f;have G:Hid (St w W1 p (dkA h ks.length ⟨false,false,D.left,D.pre⟩) dkT h m hc (ks.set i ⟨k.g,k.cap,j,l⟩) L):=f;generalize ks.set i ⟨k.g,k.cap,j,l⟩=y at G t;generalize F:ks.length=n at *;clear H hr hi B s f d o r u;go_enter func122,ntmps122;go_wp2_with fail;refine K.mono ?_;rintro e w' ⟨rfl,rfl⟩;go_wp2_with fail;refine hs.mono ?_;rintro e w' ⟨rfl,rfl⟩
  go_wp2
  go_ret;have H:=S.out;have hs:=G.out;rw [<-t.out.2] at hs;exact ⟨rfl,y,⟨hs,by rw [t.out.2,<-F];exact H.pos,by rw [t.out.2,<-F];exact H.top,H.mlo,H.mhi,H.left,H.pre⟩,t.out.1⟩
end
end
section
open Go.RowKit Sm Cf
theorem pow8 (k:Nat):(2:Int) ^ (8*k)=256 ^ k:=by rw [Int.pow_mul];rfl
theorem qk (f:-9223372036854775808<=x) (d:x<=9223372036854775807):an.wrap x=x:=by rw [ao];omega
theorem yo (x:Int):ap.wrap x=x % 256:=by simp [aq,ar,au]
theorem qj (x:Int):av.wrap x=x % 18446744073709551616:=by simp [aq,ar,au]
theorem j9p (h:Out w W v l L) (sz:Nat) (x:Int) (hs:sz<=7) (hx:0<=x/\x<18446744073709551616) (hb:l.length+sz<=1000000000) :
  Calls prog 209 #[v,.int .i64 sz,.int .u64 x] W fun e W'=>∃ j,e=.returned j/\Out w W' j (l++be sz x) L:=by
 have t:Hid (Out w W v l L):=h;clear h;go_enter func209,ntmps209;go_wp2_with fail
 go_loopw [0,9] (fun u0 u9 w'=>∃ i:Nat,i<=sz/\u9=.int .i64 i/\Hid (Out w w' u0 (l++(be sz x).take i) L)) (fun u0 u9 w'=>sz-(intOf u9).toNat)
 case atStart=>exact ⟨0,aj _,rfl,by simpa using t⟩
 case round =>
  obtain ⟨i,hi,rfl,q⟩:=hrel;by_cases hlt:i<sz
  ·have s:(i:Int)<sz:=by omega
   obtain ⟨k,r⟩:∃ k:Nat,sz-1-i=k:=⟨_,rfl⟩;have B:an.wrap ((sz:Int)-1)=(sz:Int)-1:=qk (by omega) (by omega);have A:an.wrap ((sz:Int)-1-i)=(k:Int):=by rw [qk (by omega) (by omega)];omega
   have z:an.wrap (8*(k:Int))=8*(k:Int):=qk (by omega) (by omega);have y:¬(8*(k:Int)<0):=by omega
   have o:(be sz x).take (i+1)=(be sz x).take i++[x / 2 ^ (8*k) % 256]:=by rw [jag sz x i hlt,r,pow8]
   have d:(l++(be sz x).take i).length+1<=1000000000:=by
    rw [a6,a7,jr];omega
   obtain ⟨u,W1,hr,f⟩:=j1b q.out (x / 2 ^ (8*k) % 256) (ya _) d 86;rw [a8,<-o] at f;clear o d;go_wp2_with (at_builtin;refine wpList_append_run (.tmp 12) (.tmp 21) 86 86 (by with_reducible rfl) hr rfl rfl (by simp [Act.eval]) (by simp [Act.eval]) ?_)
   go_roundw
   case rel=>exact ⟨i+1,by omega,by go_num,f⟩
   case measure=>simp [intOf];omega
  ·have s:¬((i:Int)<sz):=by omega
   obtain rfl:i=sz:=by omega
   go_wp2_with fail;go_ret;refine ⟨_,rfl,?_⟩;have:=q.out;rwa [a9 (by rw [jr];omega)] at this
theorem j84 (x y:Int) (hx:0<=x/\x<72057594037927936) (d:0<=y/\y<=255):bits .or .u64 (x*256) y=x*256+y :=
 bits_join .u64 64 (by decide) (fun n i f=>by rw [qj];omega) 8 (x*256) y (by omega) (by omega) (by omega) (by omega) (by omega) (by omega)
theorem ja0 (h:Row W a l) (n c:Nat) (o:l.length=n) (hs:n<=7) :
  Calls prog 212 #[.slice a n c] W fun e W'=>e=.returned (.int .u64 (num l))/\W=W':=by
 go_enter func212,ntmps212;go_wp2_with fail
 go_loopw [3,8] (fun u3 u8 w'=>∃ i:Nat,i<=n/\u8=.int .i64 i/\u3=.int .u64 (num (l.take i))/\W=w') (fun u3 u8 w'=>n-(intOf u8).toNat)
 case atStart=>exact ⟨0,aj _,rfl,rfl,rfl⟩
 case round =>
  obtain ⟨i,hi,rfl,rfl,rfl⟩:=hrel;by_cases hlt:i<n
  ·have q:(i:Int)<n:=by omega
   rcases h.cells with e|⟨b,off,rfl,hc⟩
   ·subst e;simp at o;omega
   ·have f:=hc i (by omega);have hb:=h.bytes i;have d:=jbo l i (by omega);have hr:=j0m (j0e h.bytes i);rw [a7,ag (by omega)] at hr;have k:(256:Int) ^ i<=256 ^ 6:=by
     have:i<=6:=by omega
     match i,this with
     | 0,_=>decide
     | 1,_=>decide
     | 2,_=>decide
     | 3,_=>decide
     | 4,_=>decide
     | 5,_=>decide
     | 6,_=>decide
    have j:num (l.take i)<281474976710656:=by
     have r:(256:Int) ^ 6=281474976710656:=by decide
     omega
    clear k;generalize num (l.take i)=x at d hr j;generalize l.getD i 0=y at f hb d;clear hc h;have A:av.wrap (x*256)=x*256:=by rw [qj];omega
    have z:av.wrap y=y:=by rw [qj];omega
    have u:=j84 x y (by omega) hb;have t:x*256 % 18446744073709551616=x*256:=by omega
    have s:y % 18446744073709551616=y:=by omega
    go_wp2_with fail;go_roundw
    case rel=>exact ⟨i+1,by omega,by go_num,by rw [d],trivial⟩
    case measure=>simp [intOf];omega
  ·have q:¬((i:Int)<n):=by omega
   obtain rfl:i=n:=by omega
   rw [a9 (by omega)];go_wp2_with fail;go_ret;exact ⟨rfl,rfl⟩
theorem yu (W:World) (a:Option Addr) (n c m:Nat) (h:n<m) (d:m<=1000000) :
  Calls prog 211 #[.slice a n c,.int .i64 m] W fun e W'=>e=.returned (.tuple #[.slice none 0 0,.slice none 0 0,.bool false])/\W=W':=by
 have f:(n:Int)<m:=by omega
 go_enter func211,ntmps211;go_wp2_with fail;exact bodyPost_ret (v:=.tuple #[.slice none 0 0,.slice none 0 0,.bool false]) (by simp [results,results211,go_sem]) rfl ⟨rfl,rfl⟩
structure Sl (V:World) (a:Option Addr) (l:List Int) (c:Nat):Prop where
 row:Row V a l
 le:l.length<=c
 big:c<=9223372036854775807
 nil:a=none->c=0
theorem Mem.sl (h:Mem w W L) (hr:Sl w a l c):Sl W a l c:=⟨h.row hr.row,hr.le,hr.big,hr.nil⟩
def Spl (a:Option Addr) (l:List Int) (c m:Nat) (v1 v2:Value):Prop :=
 ∃ a1 c1 a2 c2,v1=.slice a1 m c1/\v2=.slice a2 (l.drop m).length c2/\∀ V,Sl V a l c->Sl V a1 (l.take m) c1/\Sl V a2 (l.drop m) c2
theorem j7p (V:World) (a:Option Addr):Row V a []:=⟨ku,by simp,Or.inl rfl⟩
theorem qd (t:Sl W a l c) (m:Nat) (h:m<=l.length) (y:m<=1000000) :
  Calls prog 211 #[.slice a l.length c,.int .i64 m] W fun e W'=>∃ o k,e=.returned (.tuple #[o,k,.bool true])/\Spl a l c m o k/\∃ q,W'=W.drewN q:=by
 obtain ⟨hr,hc,r,s⟩:=t;obtain ⟨n,f⟩:∃ n,l.length=n:=⟨_,rfl⟩;rw [f] at h hc ⊢;have i:=hr.len;rw [f] at i;have C:¬((n:Int)<m):=by omega
 have B:(m:Int)<=c:=by omega
 have A:(m:Int)<=n:=by omega
 have z:(n:Int)<=c:=by omega
 by_cases hn0:n=0
 ·obtain rfl:m=0:=by omega
  obtain rfl:l=[]:=List.eq_nil_of_length_eq_zero (by omega);subst hn0;cases a with
  | none =>
   obtain rfl:c=0:=s rfl;go_enter func211,ntmps211;go_wp2_with fail
   go_quiet (fail)
   go_wp2_with fail;exact bodyPost_ret (v:=.tuple #[.slice none 0 0,.slice none 0 0,.bool true]) (by simp [results,results211,go_sem]) rfl ⟨_,_,rfl,⟨none,0,none,0,rfl,rfl,fun V d=>⟨d,d⟩⟩,_,rfl⟩
  | some ad =>
   by_cases hc0:c=0
   ·subst hc0;go_enter func211,ntmps211;go_wp2_with fail
    go_quiet (fail)
    go_wp2_with fail;exact bodyPost_ret (v:=.tuple #[.slice (some ad) 0 0,.slice (some ad) 0 0,.bool true]) (by simp [results,results211,go_sem]) rfl ⟨_,_,rfl,⟨some ad,0,some ad,0,rfl,rfl,fun V d=>⟨d,d⟩⟩,_,rfl⟩
   ·have u:¬((c:Int)=0):=by omega
    go_enter func211,ntmps211;go_wp2_with fail
    go_quiet (fail)
    go_wp2_with fail;exact bodyPost_ret (v:=.tuple #[.slice (some ad) 0 c,.slice (some ad) 0 c,.bool true]) (by simp [results,results211,go_sem]) rfl ⟨_,_,rfl,⟨some ad,c,some ad,c,rfl,rfl,fun V d=>⟨d,d⟩⟩,_,rfl⟩
 ·rcases hr.cells with e|⟨b,off,rfl,hcl⟩
  ·subst e;simp at f;omega
  ·clear hcl;by_cases hcm:c=m
   ·subst hcm;have j:n=c:=by omega
    subst j;go_enter func211,ntmps211;go_wp2_with fail
    go_quiet (fail)
    go_wp2_with fail;refine bodyPost_ret (v:=.tuple #[.slice (some ⟨b,off,none⟩) n n,.slice (some ⟨b,off,none⟩) 0 0,.bool true]) (by simp [results,results211,go_sem]) rfl ⟨_,_,rfl,⟨_,_,_,_,rfl,by rw [aa,f,ak],fun V d=>⟨?_,?_⟩⟩,_,rfl⟩
    ·rw [a9 (by omega)];exact d
    ·rw [a4 (by omega)];exact ⟨j7p V _,by simp,by omega,fun e=>by cases e⟩
   ·have u:(m:Int)<c:=by omega
    go_enter func211,ntmps211;go_wp2_with fail
    go_quiet (fail)
    go_wp2_with fail;refine bodyPost_ret (v:=.tuple #[.slice (some ⟨b,off,none⟩) m c,.slice (some ⟨b,off+m,none⟩) (n-m) (c-m),.bool true]) (by simp [results,results211,go_sem]) rfl ⟨_,_,rfl,⟨_,_,_,_,rfl,by rw [aa,f],fun V d=>⟨⟨?_,?_,d.big,fun e=>by cases e⟩,⟨?_,?_,by have:=d.big;omega,fun e=>by cases e⟩⟩⟩,_,rfl⟩
    ·have:=d.row.part 0 m (by omega);simpa using this
    ·rw [a7];omega
    ·have:=d.row.part m (n-m) (by omega);rwa [a9 (by rw [aa];omega)] at this
    ·rw [aa];omega
def qh {σ:Type} (w:World) (L:List (Nat×Obj)) (J:σ->World->Prop) (r:Option (σ×List Int)) (e:Ending) (W':World):Prop :=
 match r with
 | none=>e=.returned (.tuple #[.slice none 0 0,.bool false])/\Mem w W' L
 | some (s,l')=>∃ a c,e=.returned (.tuple #[.slice a l'.length c,.bool true])/\Sl w a l' c/\J s W'
theorem qh.mono {σ τ:Type} {K:List (Nat×Obj)} {J:σ->World->Prop} {H:τ->World->Prop} {r:Option (σ×List Int)} {q:Option (τ×List Int)} (f:σ->τ) (d:q=r.map (fun x=>(f x.1,x.2)))
  (h:qh w L J r e W') (i:Mem w W' L->Mem w W' K) (hs:∀ s,J s W'->H (f s) W'):qh w K H q e W':=by
 subst d;cases r with
 | none=>exact ⟨h.1,i h.2⟩
 | some x=>obtain ⟨a,c,o,k,j⟩:=h;exact ⟨a,c,o,k,hs _ j⟩
def spl (A:Array Value) (j:Nat) (x:List Int):Array Value:=(A.toList.take j++(x.map (Value.int .u8)++A.toList.drop (j+x.length))).toArray
def cat (enc:Nat->List Int):Nat->List Int
 | 0=>[]
 | n+1=>cat enc n++enc n
theorem jc6 (enc:Nat->List Int) (i n:Nat) (h:i<n):(cat enc i).length+(enc i).length<=(cat enc n).length:=by
 induction n with
 | zero=>omega
 | succ n ih =>
  rw [cat,a6];by_cases e:i=n
  ·subst e;omega
  ·have:=ih (by omega);omega
def sq {σ:Type} (dec:Nat->List Int->σ->Option (σ×List Int)):Nat->Nat->List Int->σ->Option (σ×List Int)
 | _,0,l,s=>some (s,l)
 | i,m+1,l,s=>match dec i l s with
  | none=>none
  | some (s',l')=>sq dec (i+1) m l' s'
def nm (s:ByteArray):List Int:=((min s.size 255:Nat):Int)::(sb s).take 255
def dtxt:List Int->Option (ByteArray×List Int)
 | []=>none
 | b::r=>if r.length<b.toNat then none else some (strOfNums (r.take b.toNat),r.drop b.toNat)
theorem jg2 (h:j6 l):∀ n∈l,0<=n/\n<=255:=by
 intro n d;obtain ⟨i,hi,rfl⟩:=List.getElem_of_mem d;have:=h i;rwa [j1c hi] at this
theorem jq5 (h:j6 l):sb (strOfNums l)=l:=by
 have f:=jg2 h;unfold sb strOfNums;simp only [List.map_map]
 conv=>rhs;rw [<-List.map_id l]
 refine List.map_congr_left fun n d=>?_;have:=f n d;simp only [Function.comp_apply,id];have e:(UInt8.ofNat n.toNat).toNat=n.toNat:=by
  simp only [UInt8.toNat_ofNat'];omega
 rw [e];omega
theorem jq6 {s t:ByteArray} (h:sb s=sb t):s.data.toList=t.data.toList:=by
 unfold sb at h;exact (List.map_inj_right (fun a b e=>UInt8.toNat_inj.mp (Int.ofNat_inj.mp e))).mp h
theorem jek (s t:ByteArray):(s.toList==t.toList)=decide (sb s=sb t):=by
 rw [ByteArray.toList_eq,ByteArray.toList_eq];by_cases h:s.data.toList=t.data.toList
 ·simp [h,sb]
 ·have:¬sb s=sb t:=fun e=>h (jq6 e);rw [beq_eq_false_iff_ne.mpr h,decide_eq_false this]
end
section
open Go.RowKit Sm
theorem jl5 (s:Int) (d:0<=s) (f:s<=4294967295):bits .and .u32 s 1=s % 2 :=
 bits_mask .u32 32 (by decide) wraps_u32 1 (by decide) s d (by omega)
theorem jhz (s:Int) (d:0<=s) (f:s<=4294967295):bits .xor .u32 s 0=s:=by
 rw [u32_xor s 0 d (by omega) (by decide) (by decide)];simp;omega
theorem j6g (r:l.length=n) (hr:Row W a l) (c:Nat) :
  Calls prog 147 #[.slice a n c] W fun e W'=>e=.returned (.int .u32 (crc l))/\W=W':=by
 have C:=hr.len;have t:Hid (Row W a l):=hr;rw [r] at C;clear hr;go_enter func147,ntmps147;go_wp2_with fail
 go_loop [3,9] (fun s v=>∃ k:Nat,v=.int .i64 k/\k<=n/\s=.int .u32 (crl 4294967295 (l.take k))) (fun _ v=>n-(intOf v).toNat)
 case atStart=>exact ⟨0,rfl,by omega,rfl⟩
 case round =>
  obtain ⟨k,rfl,G,rfl⟩:=hrel;by_cases hlt:k<n
  ·obtain ⟨b,d,rfl,hc⟩:∃ b d,a=some ⟨b,d,none⟩/\W.cell? ⟨b,d+k,none⟩=some (.int .u8 (l.getD k 0)):=by
    rcases t.out.cells with e|⟨b,d,e,hc⟩
    ·rw [e] at r;simp at r;omega
    ·exact ⟨b,d,e,hc k (by omega)⟩
   have hx:=t.out.bytes k;have hs:=j8k (l.take k) (by have:=kh t.out.bytes 0 k;simpa [sl] using this) 4294967295 (by decide) (by decide);have F:Hid (crl 4294967295 (l.take (k+1))=cby (crl 4294967295 (l.take k)) (l.getD k 0)):=jkq _ _ _ (by omega);generalize crl 4294967295 (l.take k)=S at *;generalize l.getD k 0=X at *;obtain ⟨f,B⟩:=hx;obtain ⟨q,o⟩:=hs;have E:Hid (cby S X=c8 8 (bits .xor .u32 S X)):=rfl;have u:=j0a S X q o f (by omega);go_wp2_with fail;generalize bits .xor .u32 S X=Y at *
   go_loop [3,17] (fun s v=>∃ j:Nat,v=.int .i64 j/\j<=8/\s=.int .u32 (c8 j Y)) (fun _ v=>8-(intOf v).toNat)
   case atStart=>exact ⟨0,rfl,by omega,rfl⟩
   case round =>
    obtain ⟨j,rfl,H,rfl⟩:=hrel;by_cases hlt2:j<8
    ·have A:=jc7 j Y u.1 u.2;have z:Hid (c8 (j+1) Y=crc1 (c8 j Y)):=jp6 j Y;generalize c8 j Y=Z at *;obtain ⟨hz0,i⟩:=A;have y:=jl5 Z hz0 i;by_cases ho:Z % 2=1
     ·rw [ho] at y
      go_wp2
      go_round
      case rel=>exact ⟨j+1,by go_num,by omega,by rw [z.out,crc1,if_pos ho]⟩
      case measure=>simp [intOf];omega
     ·rw [show Z % 2=0 by omega] at y;have f:=jhz (Z / 2) (by omega) (by omega)
      go_wp2
      go_round
      case rel=>exact ⟨j+1,by go_num,by omega,by rw [z.out,crc1,if_neg ho]⟩
      case measure=>simp [intOf];omega
    ·have:j=8:=by omega
     subst this
     go_wp2
     go_round
     case rel=>exact ⟨k+1,by go_num,by omega,by rw [F.out,E.out]⟩
     case measure=>simp [intOf];omega
  ·have:k=n:=by omega
   subst this;have e:l.take k=l:=a9 (by omega);rw [e]
   go_wp2
   go_ret;exact ⟨rfl,rfl⟩
theorem jgk:(prog.info? 86).map (fun i=>(i.zero,i.size,i.bytes))=some (some (.slice none 0 0),1,24):=by kernel_rfl
theorem j9t (n:Nat) (h:n<=1000000) (w:World):(Instr.makeSlice 84 (.int .i64 (n:Int)) (.int .i64 (n:Int))).run prog w=.ok (.slice (some ⟨w.heap.size,0,none⟩) n n) (w.alloc (.cells (madeCells #[.slice none 0 0] n) 86)) :=
 run_make_row' 84 86 (.slice none 0 0) 24 underlying84 jgk rfl .i64 .i64 n (by omega) (by omega) w
def hdP (m n:Nat) (ks:List Bk):List Value:=ks.map (Bk.hd m)++ab (n-ks.length) (.slice none 0 0)
structure Half (w W:World) (h m n:Nat) (ks:List Bk) (L:List (Nat×Obj)):Prop where
 mem:Mem w W ((h,.cells (hdP m n ks).toArray 86)::(ks.map Bk.ob++L))
 le:ks.length<=n
 ok:∀ k∈ks,k.Ok m
theorem half_start (d:Mem w W L) (m n:Nat):Half w (W.alloc (.cells (madeCells #[.slice none 0 0] n) 86)) W.heap.size m n [] L:=by
 refine ⟨?_,by simp,by simp⟩;have e:(hdP m n []).toArray=madeCells #[.slice none 0 0] n:=by
  apply Array.toList_inj.mp;rw [toList_madeCells_one];simp [hdP]
 rw [e];exact (d.alloc _).perm ac
theorem jgm {ks:List Bk} (H:Half w W h m n ks L) (i:Mem W W1 [(g,.cells cur 5)])
  (f:(Bk.mk g m cur b).Ok m) (o:ks.length<n):Half w (W1.setCell ⟨h,ks.length,none⟩ (.slice (some ⟨g,0,none⟩) m m)) h m n (ks++[Bk.mk g m cur b]) L:=by
 refine ⟨?_,by simp;omega,fun k i=>?_⟩
 ·have s:=H.mem.join i;have r:Mem w W1 ((h,.cells (hdP m n ks).toArray 86)::((ks++[Bk.mk g m cur b]).map Bk.ob++L)):=by
   refine s.perm ?_;simp only [List.cons_append,ae,a8];exact ((ac).append_left _).cons _
  have j:=r.set 0 rfl ks.length (.slice (some ⟨g,0,none⟩) m m);have e:(hdP m n ks).toArray.setIfInBounds ks.length (.slice (some ⟨g,0,none⟩) m m)=(hdP m n (ks++[Bk.mk g m cur b])).toArray:=by
   apply Array.toList_inj.mp;rw [Array.toList_setIfInBounds];simp only [hdP,a6,List.length_cons,List.length_nil,ae,List.map_cons,List.map_nil];obtain ⟨d,hd⟩:∃ d,n-ks.length=d+1:=⟨n-ks.length-1,by omega⟩;rw [hd,show n-(ks.length+(0+1))=d by omega,List.replicate_succ,List.set_append_right _ _ (by simp)];simp [Bk.hd]
  rw [e] at j;exact j
 ·rcases List.mem_append.mp i with q|q
  ·exact H.ok k q
  ·simp at q;subst q;exact f
theorem jgn {ks:List Bk} (H:Half w W h m n ks L) (d:ks.length<n):W.cell? ⟨h,ks.length,none⟩=some (.slice none 0 0):=by
 rw [H.mem.cell 0 rfl];simp [hdP,List.getElem?_append_right,List.getElem?_replicate];omega
theorem joh {ks:List Bk} (H:Half w W h m n ks L) (d:ks.length=n) (D:Dk) :
  St w (W.alloc (.cells (dkA h n D) dkT)) W.heap.size (dkA h ks.length D) dkT h m (hdP m n ks).toArray ks L:=by
 subst d;refine ⟨?_,?_,H.ok⟩
 ·exact (H.mem.alloc _).perm (ac (l₂:=[(W.heap.size,_)]))
 ·simp only [hdP,ak,List.replicate_zero,a5];exact a9 (by simp)
theorem jo3 (g m:Nat):(Bk.mk g m (bs (ab m 0)) (ab m 0)).Ok m:=by
 refine ⟨ai _,by simp,by simp,by simp,fun i=>?_⟩;by_cases h:i<m
 ·simp [af,h]
 ·simp [af,h]
theorem jkm (o:Mem w W L) (x y:Int) :
  Calls prog 10 #[.int .i64 x,.int .i64 y] W fun e W'=>∃ p,e=.returned (.pointer (some ⟨p,0,none⟩))/\∃ h hc ks,DkAt w W' p h (dbd y 64 65536).toNat ⟨false,false,0,0⟩ hc ks L /\
   ks.map Bk.b=ab (dbd x 1 64).toNat (ab (dbd y 64 65536).toNat 0):=by
 have G:=j1e x 1 64 W;have I:∀ W,Calls prog 39 #[.int .i64 y,.int .i64 64,.int .i64 65536] W _:=fun W=>j1e y 64 65536 W;obtain ⟨n,en⟩:∃ n:Nat,dbd x 1 64=n:=⟨(dbd x 1 64).toNat,by have:1<=dbd x 1 64:=(by unfold dbd;omega);omega⟩;obtain ⟨m,A⟩:∃ m:Nat,dbd y 64 65536=m:=⟨(dbd y 64 65536).toNat,by have:1<=dbd y 64 65536:=(by unfold dbd;omega);omega⟩;have j:1<=n/\n<=64:=by unfold dbd at en;omega
 have N:64<=m/\m<=65536:=by unfold dbd at A;omega
 rw [en] at G;simp only [A] at I;rw [en,A,al,al];clear en A;obtain ⟨M,K⟩:=j;obtain ⟨E,C⟩:=N;have t:=j9t n (by omega) W;have q:=half_start o m n;generalize W.alloc (.cells (madeCells #[.slice none 0 0] n) 86)=S at t q;generalize W.heap.size=h at t q;clear o;go_enter func10,ntmps10;go_wp2_with fail;refine G.mono ?_;rintro e w' ⟨rfl,rfl⟩;clear G;go_wp2_with fail
 go_loopw [6,12] (fun u v wr=>∃ ks,v=.int .i64 (ks.length:Nat)/\Half w wr h m n ks L/\ks.map Bk.b=ab ks.length (ab m 0)) (fun _ v _=>n-(intOf v).toNat)
 case atStart=>exact ⟨[],rfl,q,rfl⟩
 case round =>
  obtain ⟨ks,rfl,d,z⟩:=hrel;have k:=d.le;by_cases hlt:ks.length<n
  ·have F:=jgn d hlt;have o:=j07 m (by omega) wr;have s:Mem wr (wr.alloc (.cells (madeCells #[.int .u8 0] m) 5)) [(wr.heap.size,.cells (bs (ab m 0)) 5)]:=by rw [<-jaf];exact (Mem.nil wr).push1 rfl
   have P:(wr.alloc (.cells (madeCells #[.int .u8 0] m) 5)).cell? ⟨h,ks.length,none⟩=some (.slice none 0 0):=by
    have:=j9 F;rw [<-F];exact s.below.cell (p:=⟨h,ks.length,none⟩) this
   have f:Hid (Half w _ h m n (ks++[Bk.mk wr.heap.size m _ _]) L):=jgm d s (jo3 wr.heap.size m) hlt;have O:(wr.alloc (.cells (madeCells #[.int .u8 0] m) 5)).frozen? ⟨h,ks.length,none⟩=false:=(d.mem.join s).free 0 rfl _;have r:Hid ((ks++[Bk.mk wr.heap.size m (bs (ab m 0)) (ab m 0)]).map Bk.b=ab (ks.length+1) (ab m 0)):=by
    show _=_;rw [ae,z,List.replicate_succ'];rfl
   have J:((ks.length:Nat):Int)<(n:Int):=by omega
   have H:Hid ((ks++[Bk.mk wr.heap.size m (bs (ab m 0)) (ab m 0)]).length=ks.length+1):=by show _=_;simp
   generalize ks++[Bk.mk wr.heap.size m (bs (ab m 0)) (ab m 0)]=B at f r H;generalize wr.alloc (.cells (madeCells #[.int .u8 0] m) 5)=R at o P f O;generalize wr.heap.size=g at o f;clear s d z F k q t;generalize ks.length=i at *;go_wp2_with fail;refine (I _).mono ?_;rintro e w' ⟨rfl,rfl⟩
   go_wp2
   go_roundw
   case rel=>exact ⟨B,by rw [H.out];go_num,f.out,by rw [H.out];exact r.out⟩
   case measure=>simp [intOf];omega
  ·have j:ks.length=n:=by omega
   have Q:Hid (St w _ _ _ _ h m _ ks L):=joh d j ⟨false,false,0,0⟩;have f:Hid (ks.length=n):=j;rw [j] at z;have J:¬((ks.length:Nat):Int)<(n:Int):=by omega
   clear d k hlt j q t
   go_wp2
   go_ret;refine ⟨wr.heap.size,rfl,h,_,ks,⟨Q.out,?_,?_,E,C,by decide,⟨am 0,Int.natCast_nonneg m⟩⟩,z⟩
   ·rw [f.out];omega
   ·rw [f.out];omega
end
end Go.Proofs.YtdigofgjhaakmaaGreatDoor
