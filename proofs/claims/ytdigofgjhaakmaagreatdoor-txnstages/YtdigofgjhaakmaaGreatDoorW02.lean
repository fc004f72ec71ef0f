/-
  Rows of bytes that the call itself made: what is read of them, what a store turns, and what changing one word does to the sums.
  Rows of the call's own that grow: bytes appended as a step of a region, and what lychref1's Put16 and Put32 answer.
  Of no one layer: words of two and four bytes, a block of bytes into which numbers are written, a struct's box and a row of bytes behind it that grows, and what integers and bytes that come in are.
  Of no one layer: a struct's box whose first field is a slice of slices of bytes, the row of these slices, and the rows themselves, all of the call's own.
  Settings as bytes, the numbers alone: numbers of so many bytes, the highest first, and what is read off a row of bytes.
  What package disk's smaller functions answer: bounded, has, Blocks, Size, Dead, same, Power, Cut.
  Of no one layer: elements of a slice of the call's own that grows, beside whatever else the call made.
-/
import Derived.Test.YtdigofgjhaakmaaGreatDoorW01
import Derived.ProofKit
import Derived.OpenShut
import Derived.Lib.SmallJoins
import Derived.Maps.AppendAt
import Derived.Lib.AppendStr
set_option linter.unusedVariables false
set_option maxHeartbeats 40000000
namespace Go.Proofs.YtdigofgjhaakmaaGreatDoor
open Go.RowKit
open Sm
namespace Sm
end Sm
theorem Mem.over {w w' w2:World} {L:List (Nat×Obj)} (h:Mem w w' L) {B:Nat} (hb:Below B w' w2) (hB:w.heap.size≤B) (hL:∀ p∈L,p.1 < B):Mem w w2 L :=
 ⟨h.below.trans (hb.mono hB),h.low,fun p hp=>by rw [hb.block p.1 (hL p hp)];exact h.at_ p hp,h.apart⟩
theorem Mem.bytes {w w':World} {L:List (Nat×Obj)} (h:Mem w w' L) (i:Nat) {g:Nat} {c:Array Value} {t:TypeId} (hi:L[i]? = some (g,.cells c t (0,0))) (off:Nat) (l:List Int) (hb:IsBytes l) (hl:l.length≤1000)
  (hc:∀ j,j < l.length→c[off+j]? = some (.int .u8 (l.getD j 0))):Row w' (some ⟨g,off,none⟩) l :=
 ⟨hb,by omega,Or.inr ⟨g,off,rfl,fun j hj=>by rw [h.cell i hi];exact hc j hj⟩⟩
theorem row_lit (w:World) (l:List Int) (hb:IsBytes l) (hl:l.length≤140737488351232) (T:TypeId):Row (w.alloc (.cells (l.map (Value.int .u8)).toArray T)) (some ⟨w.heap.size,0,none⟩) l :=
 ⟨hb,hl,Or.inr ⟨_,0,rfl,fun i hi=>by rw [Nat.zero_add,World.cell?_alloc_new];simp [hi]⟩⟩
namespace Sm
theorem bytes_cons {x:Int} {l:List Int} (hx:0≤x∧x≤255) (h:IsBytes l):IsBytes (x::l):=by
 intro i
 cases i with
 | zero=>simpa using hx
 | succ i=>simpa using h i
theorem bytes_nil:IsBytes []:=fun i=>by simp
theorem bytes_part {l:List Int} (h:IsBytes l) (i m:Nat):IsBytes ((l.drop i).take m):=by
 intro j
 by_cases hj:j < m
 ·have:((l.drop i).take m).getD j 0=l.getD (i+j) 0:=by simp [List.getD,hj]
  rw [this];exact h _
 ·have:((l.drop i).take m).getD j 0=0:=by
   simp only [List.getD];rw [List.getElem?_eq_none (by simp;omega)];rfl
  rw [this];omega
end Sm
theorem wrap32_small (x:Int) (h0:0≤x) (h1:x≤4294967295):IntKind.u32.wrap x=x:=wraps_u32 x h0 (by omega)
theorem row_alloc {w:World} {a:Option Addr} {l:List Int} {o:Obj} (h:Row w a l):Row (w.alloc o) a l:=h.below ((Below.refl _ _).alloc (Nat.le_refl _) _) (Nat.le_refl _)
theorem row_drew {w:World} {a:Option Addr} {l:List Int} (h:Row w a l):Row w.drew a l:=h.below ((Below.refl _ _).drew) (Nat.le_refl _)
theorem row_drewN {w:World} {a:Option Addr} {l:List Int} {n:Nat} (h:Row w a l):Row (w.drewN n) a l:=h.below (Go.below_drewN (Below.refl _ _) n) (Nat.le_refl _)
theorem Mem.push1 {w W:World} {o:Obj} {g:Nat} (h:Mem w W []) (hg:g=W.heap.size):Mem w (W.alloc o) [(g,o)]:=h.push g o hg
theorem Mem.push2 {w W:World} {p:Nat×Obj} {o:Obj} {g:Nat} (h:Mem w W [p]) (hg:g=W.heap.size):Mem w (W.alloc o) [p,(g,o)]:=h.push g o hg
theorem Wrote.trans {w w1 w2:World} {g:Nat} {x y:Array Value} {t u:TypeId} (h:Wrote w w1 g x t) (k:Wrote w1 w2 g y u):Wrote w w2 g y u :=
 ⟨k.here,fun j hj=>(k.there j hj).trans (h.there j hj),k.size.trans h.size,fun B w0 hB hb=>k.below B w0 hB (h.below B w0 hB hb)⟩
theorem Wrote.cell {w w1:World} {g:Nat} {x:Array Value} {t:TypeId} (h:Wrote w w1 g x t) {b i:Nat} (hb:g≠b):w1.cell? ⟨b,i,none⟩=w.cell? ⟨b,i,none⟩:=by
 unfold World.cell?;simp only;rw [h.there b (fun e=>hb e.symm)]
theorem Wrote.row {w w1:World} {g:Nat} {x:Array Value} {t:TypeId} (h:Wrote w w1 g x t) {b off:Nat} (hb:g≠b) {l:List Int} (hr:Row w (some ⟨b,off,none⟩) l):Row w1 (some ⟨b,off,none⟩) l :=
 ⟨hr.bytes,hr.len,Or.inr ⟨b,off,rfl,fun i hi=>by rw [h.cell hb];exact hr.cellAt i hi⟩⟩
theorem Mem.join {w0 w w':World} {L K:List (Nat×Obj)} (h:Mem w0 w L) (k:Mem w w' K):Mem w0 w' (L++K):=by
 have hs:=h.below.size
 refine ⟨h.below.trans (k.below.mono hs),fun p hp=>?_,fun p hp=>?_,?_⟩
 ·rcases List.mem_append.mp hp with hp | hp
  ·exact h.low p hp
  ·exact Nat.le_trans hs (k.low p hp)
 ·rcases List.mem_append.mp hp with hp | hp
  ·rw [k.below.block p.1 (h.lt hp)];exact h.at_ p hp
  ·exact k.at_ p hp
 ·rw [List.map_append,List.nodup_append]
  refine ⟨h.apart,k.apart,fun a ha b hb=>?_⟩
  obtain ⟨p,hp,rfl⟩:=List.mem_map.mp ha
  obtain ⟨q,hq,rfl⟩:=List.mem_map.mp hb
  have h1:=h.lt hp
  have h2:=k.low q hq
  omega
abbrev bs (l:List Int):Array Value:=(l.map (Value.int .u8)).toArray
theorem bs_get {l:List Int} {i:Nat} (h:i < l.length):(bs l)[i]? = some (.int .u8 (l.getD i 0)):=by simp [h]
theorem bs_set (l:List Int) (i:Nat) (x:Int):(bs l).setIfInBounds i (.int .u8 x)=bs (l.set i x):=by
 simp [bs,List.map_set]
theorem bs_made (n:Nat):madeCells #[Value.int .u8 0] n=bs (List.replicate n 0):=by
 apply Array.toList_inj.mp;rw [toList_madeCells_one];simp
theorem bs_size (l:List Int):(bs l).size=l.length:=by simp [bs]
structure Inv (T:TypeId) (w W:World) (pA:Array Value) (v:Value) (n:Nat) (L:List Int):Prop where
 own:W.ownsRow (w.heap.size+1) 5 1 v n (L.map (Value.int .u8))
 mem:Mem w W [(w.heap.size,.cells pA T (0,0))]
 size:w.heap.size+1≤W.heap.size
section
variable {T:TypeId} {w W W':World} {pA:Array Value} {v v':Value} {n m:Nat} {L K:List Int}
theorem Inv.cell (h:Inv T w W pA v n L) (i:Nat):W.cell? ⟨w.heap.size,i,none⟩=pA[i]?:=h.mem.cell 0 rfl i
end
section
open Go.ChangeShapes Go.WideShapes Go.ChangeAt Go.Joins
variable {H:Type} {enc:TypeId×Value→H} {W:World} {base:Nat} {held:Bool}
theorem open_cell {fuel:Nat} {t:TypeId} {k:IntKind} {c0:Value} {y:DataW H×List MemPlace} (hu:Tryz.prog.underlying t=some (.int k)) (h:DataW.trod enc Tryz.prog W base (fun _=>true) held fuel t [c0]=some y) :
  ∃ x,c0=.int k x∧(Lit.int k x).wf=true:=by
 obtain ⟨a,e0,-,wa⟩:=DataW.trod_int hu h
 simp only [List.cons.injEq,and_true] at e0
 exact ⟨a,e0,wa⟩
end
structure Bk where
 g:Nat
 cap:Nat
 cur:Array Value
 b:List Int
def Bk.hd (m:Nat) (k:Bk):Value:=.slice (some ⟨k.g,0,none⟩) m k.cap
def Bk.ob (k:Bk):Nat×Obj:=(k.g,.cells k.cur 5)
structure Bk.Ok (m:Nat) (k:Bk):Prop where
 cap:m≤k.cap
 size:k.cap≤k.cur.size
 here:k.cur.toList.take m=k.b.map (Value.int .u8)
 len:k.b.length=m
 bytes:IsBytes k.b
abbrev dkL (p:Nat) (A:Array Value) (T:TypeId) (h:Nat) (hc:Array Value) (ks:List Bk) (L:List (Nat×Obj)):List (Nat×Obj) :=
 (p,.cells A T (0,0))::(h,.cells hc 86)::(ks.map Bk.ob++L)
structure St (w W:World) (p:Nat) (A:Array Value) (T:TypeId) (h m:Nat) (hc:Array Value) (ks:List Bk) (L:List (Nat×Obj)):Prop where
 mem:Mem w W (dkL p A T h hc ks L)
 heads:hc.toList.take ks.length=ks.map (Bk.hd m)
 ok:∀ k∈ks,k.Ok m
section
variable {w W:World} {p:Nat} {A:Array Value} {T:TypeId} {h m:Nat} {hc:Array Value} {ks:List Bk} {L:List (Nat×Obj)}
theorem St.box (s:St w W p A T h m hc ks L) (i:Nat):W.cell? ⟨p,i,none⟩=A[i]?:=s.mem.cell 0 rfl i
theorem St.boxFree (s:St w W p A T h m hc ks L) (i:Nat):W.frozen? ⟨p,i,none⟩=false:=s.mem.free 0 rfl i
theorem St.head (s:St w W p A T h m hc ks L) {i:Nat} {k:Bk} (hi:ks[i]? = some k):W.cell? ⟨h,i,none⟩=some (.slice (some ⟨k.g,0,none⟩) m k.cap):=by
 have hil:=(List.getElem?_eq_some_iff.mp hi).1
 rw [s.mem.cell 1 rfl i]
 have e:=congrArg (fun l=>l[i]?) s.heads
 simp only [List.getElem?_map,hi,Option.map_some,List.getElem?_take,if_pos hil,Array.getElem?_toList] at e
 exact e
theorem St.at_ (s:St w W p A T h m hc ks L) {i:Nat} {k:Bk} (hi:ks[i]? = some k):(dkL p A T h hc ks L)[i+2]? = some (k.g,.cells k.cur 5):=by
 have hil:=(List.getElem?_eq_some_iff.mp hi).1
 show ((ks.map Bk.ob++L))[i]? = _
 rw [List.getElem?_append_left (by simpa using hil),List.getElem?_map,hi]
 rfl
theorem St.okAt (s:St w W p A T h m hc ks L) {i:Nat} {k:Bk} (hi:ks[i]? = some k):k.Ok m:=s.ok k (List.mem_of_getElem? hi)
theorem St.cell (s:St w W p A T h m hc ks L) {i:Nat} {k:Bk} (hi:ks[i]? = some k) {j:Nat} (hj:j < m):W.cell? ⟨k.g,j,none⟩=some (.int .u8 (k.b.getD j 0)):=by
 have o:=s.okAt hi
 rw [s.mem.cell (i+2) (s.at_ hi) j]
 have e:=congrArg (fun l=>l[j]?) o.here
 have hjb:j < k.b.length:=by rw [o.len];exact hj
 simp only [List.getElem?_map,List.getElem?_take,if_pos hj,Array.getElem?_toList,List.getElem?_eq_getElem hjb,Option.map_some] at e
 rw [e,getD_eq hjb]
theorem St.row (s:St w W p A T h m hc ks L) {i:Nat} {k:Bk} (hi:ks[i]? = some k) (hm:m≤140737488351232):Row W (some ⟨k.g,0,none⟩) k.b:=by
 have o:=s.okAt hi
 exact ⟨o.bytes,by rw [o.len];exact hm,Or.inr ⟨k.g,0,rfl,fun j hj=>by rw [Nat.zero_add];exact s.cell hi (by rw [o.len] at hj;exact hj)⟩⟩
theorem St.drew (s:St w W p A T h m hc ks L):St w W.drew p A T h m hc ks L:=⟨s.mem.drew,s.heads,s.ok⟩
theorem St.put (s:St w W p A T h m hc ks L) (j:Nat) (v:Value):St w (W.setCell ⟨p,j,none⟩ v) p (A.setIfInBounds j v) T h m hc ks L :=
 ⟨s.mem.set 0 rfl j v,s.heads,s.ok⟩
theorem St.set (s:St w W p A T h m hc ks L) {i:Nat} {k:Bk} (hi:ks[i]? = some k) {W2:World} {new:Array Value} {b:List Int} (hw:Wrote W W2 k.g new 5) (hsz:new.size=k.cur.size)
  (hhere:new.toList.take m=b.map (Value.int .u8)) (hb:IsBytes b) (hl:b.length=m):St w W2 p A T h m hc (ks.set i ⟨k.g,k.cap,new,b⟩) L:=by
 have o:=s.okAt hi
 have hil:=(List.getElem?_eq_some_iff.mp hi).1
 refine ⟨?_,?_,?_⟩
 ·have:=s.mem.wrote (i+2) (s.at_ hi) hw
  have e:(dkL p A T h hc ks L).set (i+2) (k.g,.cells new 5)=dkL p A T h hc (ks.set i ⟨k.g,k.cap,new,b⟩) L:=by
   simp only [dkL,List.set_cons_succ,List.map_set]
   rw [List.set_append_left _ _ (by simpa using hil)]
   rfl
  rw [e] at this;exact this
 ·rw [List.length_set,s.heads,List.map_set]
  apply List.ext_getElem?;intro j
  by_cases e:i=j
  ·subst e
   rw [List.getElem?_set_self (by simpa using hil),List.getElem?_map,hi];rfl
  ·rw [List.getElem?_set_ne e]
 ·intro k' hk'
  rcases List.mem_or_eq_of_mem_set hk' with q | q
  ·exact s.ok k' q
  ·subst q;exact ⟨o.cap,by rw [hsz];exact o.size,hhere,hl,hb⟩
theorem St.fill (s:St w W p A T h m hc ks L) {i:Nat} {k:Bk} (hi:ks[i]? = some k) {l:List Int} (hl:l.length≤m) (hb:IsBytes l) {W2:World} {new:Array Value}
  (hnew:new.toList=k.cur.toList.take 0++(l.map (Value.int .u8)++k.cur.toList.drop (0+l.length))) (hw:Wrote W W2 k.g new 5) :
  St w W2 p A T h m hc (ks.set i ⟨k.g,k.cap,new,l++k.b.drop l.length⟩) L:=by
 have o:=s.okAt hi
 have hc1:=o.cap;have hc2:=o.size
 rw [List.take_zero,List.nil_append,Nat.zero_add] at hnew
 refine s.set hi hw ?_ ?_ ?_ ?_
 ·rw [←Array.length_toList,hnew,← Array.length_toList];simp;omega
 ·rw [hnew,List.map_append,List.map_drop,← o.here,List.drop_take,List.take_append,List.length_map,List.take_of_length_le (by simpa using hl)]
 ·refine bytes_append hb ?_
  intro j
  have:(k.b.drop l.length).getD j 0=k.b.getD (l.length+j) 0:=by simp [List.getD]
  rw [this];exact o.bytes _
 ·have:=o.len;simp;omega
theorem St.sub {q:Nat×Obj} (s:St w W p A T h m hc ks (q::L)):St w W p A T h m hc ks L:=by
 refine ⟨?_,s.heads,s.ok⟩
 have e:(dkL p A T h hc ks (q::L)).Perm (q::dkL p A T h hc ks L):=by
  refine (List.Perm.cons _ ((List.Perm.cons _ List.perm_middle).trans (List.Perm.swap _ _ _))).trans (List.Perm.swap _ _ _)
 exact (s.mem.perm e).sub
theorem St.perm {L':List (Nat×Obj)} (s:St w W p A T h m hc ks L) (hp:L.Perm L'):St w W p A T h m hc ks L' :=
 ⟨s.mem.perm (((hp.append_left _).cons _).cons _),s.heads,s.ok⟩
theorem St.join {W2:World} {K:List (Nat×Obj)} (s:St w W p A T h m hc ks L) (k:Mem W W2 K):St w W2 p A T h m hc ks (K++L):=by
 refine ⟨(s.mem.join k).perm ?_,s.heads,s.ok⟩
 simp only [dkL,List.cons_append,List.append_assoc]
 exact (((List.perm_append_comm).append_left _).cons _).cons _
theorem St.swap {p2:Nat} {A2:Array Value} {T2:TypeId} {h2 m2:Nat} {hc2:Array Value} {ks2:List Bk} (s:St w W p A T h m hc ks (dkL p2 A2 T2 h2 hc2 ks2 L))
  (h1:hc2.toList.take ks2.length=ks2.map (Bk.hd m2)) (h3:∀ k∈ks2,k.Ok m2):St w W p2 A2 T2 h2 m2 hc2 ks2 (dkL p A T h hc ks L):=by
 refine ⟨s.mem.perm ?_,h1,h3⟩
 have e:∀ (a b:List (Nat×Obj)) (x y u v:Nat×Obj),(x::y::(a++u::v::(b++L))).Perm (u::v::(b++x::y::(a++L))):=by
  intro a b x y u v
  have q:((x::y::a)++((u::v::b)++L)).Perm ((u::v::b)++((x::y::a)++L)):=by
   rw [←List.append_assoc,← List.append_assoc]
   exact (List.perm_append_comm).append_right L
  simpa using q
 exact e _ _ _ _ _ _
theorem St.extra {q:Nat×Obj} (s:St w W p A T h m hc ks (q::L)):(dkL p A T h hc ks (q::L))[ks.length+2]? = some q:=by
 show ((ks.map Bk.ob++q::L))[ks.length]? = _
 rw [List.getElem?_append_right (by simp)]
 simp
theorem St.extraFree {g:Nat} {c:Array Value} {t:TypeId} (s:St w W p A T h m hc ks ((g,.cells c t (0,0))::L)) (j:Nat):W.frozen? ⟨g,j,none⟩=false:=s.mem.free _ s.extra j
theorem St.extraSet {g:Nat} {c:Array Value} {t:TypeId} (s:St w W p A T h m hc ks ((g,.cells c t (0,0))::L)) (j:Nat) (v:Value):St w (W.setCell ⟨g,j,none⟩ v) p A T h m hc ks ((g,.cells (c.setIfInBounds j v) t (0,0))::L):=by
 refine ⟨?_,s.heads,s.ok⟩
 have h1:=s.mem.set _ s.extra j v
 have e:(dkL p A T h hc ks ((g,.cells c t (0,0))::L)).set (ks.length+2) (g,.cells (c.setIfInBounds j v) t (0,0))=dkL p A T h hc ks ((g,.cells (c.setIfInBounds j v) t (0,0))::L):=by
  simp only [dkL,List.set_cons_succ]
  rw [List.set_append_right _ _ (by simp)]
  simp
 rw [e] at h1
 exact h1
theorem St.below (s:St w W p A T h m hc ks L):Below w.heap.size w W:=s.mem.below
end
namespace Cf
def be:Nat→Int→List Int
 | 0,_=>[]
 | n+1,x=>(x / 256 ^ n % 256)::be n x
theorem be_len:∀ (n:Nat) (x:Int),(be n x).length=n
 | 0,_=>rfl
 | n+1,x=>by simp [be,be_len n x]
theorem mod_byte (x:Int):0≤x % 256∧x % 256≤255:=by omega
theorem be_get:∀ (n:Nat) (x:Int) (i:Nat),i < n→(be n x).getD i 0=x / 256 ^ (n - 1 - i) % 256
 | n+1,x,0,_=>by simp [be]
 | n+1,x,i+1,h=>by
  rw [be,List.getD_cons_succ,be_get n x i (by omega),show n+1 - 1 - (i+1)=n - 1 - i by omega]
theorem be_take (n:Nat) (x:Int) (i:Nat) (h:i < n):(be n x).take (i+1)=(be n x).take i++[x / 256 ^ (n - 1 - i) % 256]:=by
 rw [List.take_succ_eq_append_getElem (by rw [be_len];exact h)]
 congr 2
 rw [←be_get n x i h]
 simp [List.getD,be_len,h]
def num (l:List Int):Int:=l.foldl (fun x y=>x * 256+y) 0
theorem num_snoc (l:List Int) (y:Int):num (l++[y])=num l * 256+y:=by simp [num]
theorem num_take (l:List Int) (i:Nat) (h:i < l.length):num (l.take (i+1))=num (l.take i) * 256+l.getD i 0:=by
 rw [List.take_succ_eq_append_getElem h,num_snoc]
 simp [List.getD,h]
theorem fold_range (l:List Int):∀ (a:Int),IsBytes l→0≤a→a * 256 ^ l.length≤l.foldl (fun x y=>x * 256+y) a∧l.foldl (fun x y=>x * 256+y) a < (a+1) * 256 ^ l.length:=by
 induction l with
 | nil=>intro a _ h;simp;omega
 | cons y l ih =>
  intro a hb h
  have hy:=hb 0
  simp only [List.getD_cons_zero] at hy
  have hb':IsBytes l:=fun i=>by have:=hb (i+1);simpa using this
  obtain ⟨h1,h2⟩:=ih (a * 256+y) hb' (by omega)
  simp only [List.foldl_cons,List.length_cons,Int.pow_succ]
  have hp:(0:Int) < 256 ^ l.length:=Int.pow_pos (by decide)
  generalize (256:Int) ^ l.length=q at h1 h2 hp ⊢
  constructor
  ·refine Int.le_trans ?_ h1
   rw [Int.mul_comm q 256,← Int.mul_assoc]
   exact Int.mul_le_mul_of_nonneg_right (by omega) (by omega)
  ·refine Int.lt_of_lt_of_le h2 ?_
   rw [Int.mul_comm q 256,← Int.mul_assoc]
   exact Int.mul_le_mul_of_nonneg_right (by omega) (by omega)
theorem num_range {l:List Int} (h:IsBytes l):0≤num l∧num l < 256 ^ l.length:=by
 have:=fold_range l 0 h (Int.le_refl _)
 simp only [Int.zero_mul,Int.zero_add,Int.one_mul] at this
 exact this
theorem bytes_tk {l:List Int} (h:IsBytes l) (i:Nat):IsBytes (l.take i):=by
 have:=bytes_part h 0 i
 simpa using this
theorem bytes_app {a b:List Int} (ha:IsBytes a) (hb:IsBytes b):IsBytes (a++b):=by
 intro i
 by_cases h:i < a.length
 ·have:(a++b).getD i 0=a.getD i 0:=by simp [List.getD,List.getElem?_append_left h]
  rw [this];exact ha i
 ·have:(a++b).getD i 0=b.getD (i - a.length) 0:=by simp [List.getD,List.getElem?_append_right (Nat.le_of_not_lt h)]
  rw [this];exact hb _
end Cf
structure Dk where
 dead:Bool
 set:Bool
 left:Int
 pre:Int
abbrev dkA (h n:Nat) (D:Dk):Array Value:=#[.slice (some ⟨h,0,none⟩) n n,.bool D.dead,.bool D.set,.int .i64 D.left,.int .i64 D.pre]
abbrev dkT:TypeId:=90
structure DkAt (w W:World) (p h m:Nat) (D:Dk) (hc:Array Value) (ks:List Bk) (L:List (Nat×Obj)):Prop where
 st:St w W p (dkA h ks.length D) dkT h m hc ks L
 pos:0 < ks.length
 top:ks.length≤64
 mlo:64≤m
 mhi:m≤65536
 left:0≤D.left∧D.left≤9223372036854775807
 pre:0≤D.pre∧D.pre≤m
def dbd (n lo hi:Int):Int:=min (max n lo) hi
def dIn (n:Nat) (i:Int):Bool:=decide (0≤i) && decide (i < n)
theorem bounded_any (n lo hi:Int) (w:World):Calls Tryz.prog 39 #[.int .i64 n,.int .i64 lo,.int .i64 hi] w fun e w'=>e=.returned (.int .i64 (dbd n lo hi))∧w=w':=by
 go_enter Tryz.func39,Tryz.ntmps39
 go_wp2
 all_goals go_ret
 all_goals exact ⟨ret_int (by unfold dbd;omega),rfl⟩
section
variable {w W:World} {p h m:Nat} {D:Dk} {hc:Array Value} {ks:List Bk} {L:List (Nat×Obj)}
theorem dblocks_any (H:DkAt w W p h m D hc ks L):Calls Tryz.prog 74 #[.pointer (some ⟨p,0,none⟩)] W fun e W'=>e=.returned (.int .i64 ks.length)∧W=W':=by
 have c0:=H.st.box 0
 simp at c0
 generalize ks.length=n at c0 ⊢
 clear H
 go_enter Tryz.func74,Tryz.ntmps74
 go_wp2
 go_ret
 exact ⟨rfl,rfl⟩
theorem dsize_any (H:DkAt w W p h m D hc ks L):Calls Tryz.prog 50 #[.pointer (some ⟨p,0,none⟩)] W fun e W'=>e=.returned (.int .i64 m)∧W=W':=by
 have c0:=H.st.box 0
 simp at c0
 have hp:=H.pos
 obtain ⟨k,hk⟩:∃ k,ks[0]? = some k:=⟨_,List.getElem?_eq_getElem hp⟩
 have c1:=H.st.head hk
 have hp2:(0:Int) < (ks.length:Int):=by omega
 generalize ks.length=n at c0 hp hp2 ⊢
 clear H hk
 go_enter Tryz.func50,Tryz.ntmps50
 go_wp2
 go_ret
 exact ⟨rfl,rfl⟩
theorem dhas_any (H:DkAt w W p h m D hc ks L) (i:Int):Calls Tryz.prog 144 #[.pointer (some ⟨p,0,none⟩),.int .i64 i] W fun e W'=>e=.returned (.bool (dIn ks.length i))∧W=W':=by
 have c0:=H.st.box 0
 simp at c0
 generalize ks.length=n at c0 ⊢
 clear H
 unfold dIn
 by_cases h0:0≤i
 ·go_enter Tryz.func144,Tryz.ntmps144
  go_wp2
  go_ret
  exact ⟨by simp [h0],rfl⟩
 ·go_enter Tryz.func144,Tryz.ntmps144
  go_wp2
  go_ret
  exact ⟨by simp;omega,rfl⟩
theorem dsame_any {a:Option Addr} {l:List Int} {n:Nat} (hn:l.length=n) (hr:Row W a l) (c:Nat) :
  Calls Tryz.prog 255 #[.slice a n c] W fun e W'=>∃ g,e=.returned (.slice (some ⟨g,0,none⟩) n n)∧Mem W W' [(g,.cells (bs l) 5)]:=by
 have hl:=hr.len
 have hM:=make_bytes n (by omega) W
 have hM1:Mem W (W.alloc (.cells (madeCells #[.int .u8 0] n) 5)) [(W.heap.size,.cells (madeCells #[.int .u8 0] n) 5)]:=(Mem.nil W).push1 rfl
 have hr1:Row (W.alloc (.cells (madeCells #[.int .u8 0] n) 5)) a l:=row_alloc hr
 generalize W.alloc (.cells (madeCells #[.int .u8 0] n) 5)=w1 at hM hM1 hr1
 obtain ⟨w2,hr2,hw2⟩:=copy_bytes w1 3 (some ⟨W.heap.size,0,none⟩) a n n n c W.heap.size 0 _ (bs l) 5 (hM1.get 0 rfl) l (by rw [hn];exact (Nat.min_self n).symm)
  (fun hp=>by
   rcases hr1.cells with e | ⟨b,off,rfl,hc⟩
   ·subst e;simp at hp
   ·exact ⟨rfl,_,rfl,hr1.news⟩)
  (by rw [size_madeCells];simp;omega) (made_new n l hn)
 rw [hn] at hr2
 have hM2:=hM1.wrote 0 rfl hw2
 have HM2:Hid (Mem W w2 [(W.heap.size,.cells (bs l) 5)]):=hM2
 generalize W.heap.size=g at *
 clear hM1 hr hr1 hw2 hl hn hM2
 go_enter Tryz.func255,Tryz.ntmps255
 go_wp2
 go_ret
 exact ⟨g,rfl,HM2.out⟩
end
def Ow (w W:World) (e:TypeId) (sz:Nat) (v:Value) (n:Nat) (xs:List Value) (L:List (Nat×Obj)):Prop :=
 xs.length=n * sz∧((v=.slice none 0 0∧n=0∧Mem w W L) ∨
  ∃ g cap cur,v=.slice (some ⟨g,0,none⟩) n cap∧Mem w W ((g,.cells cur e (0,0))::L)∧n≤cap∧cap≤maxLen∧cur.size=cap * sz∧cur.toList.take (n * sz)=xs)
section
variable {w W W':World} {e t ty:TypeId} {sz bytes n m:Nat} {v v' z:Value} {xs ys:List Value} {L:List (Nat×Obj)}
theorem Ow.nil (h:Mem w W L):Ow w W e sz (.slice none 0 0) 0 [] L:=⟨by simp,Or.inl ⟨rfl,rfl,h⟩⟩
theorem Ow.mem (h:Ow w W e sz v n xs L):Mem w W L:=by
 rcases h.2 with ⟨_,_,h⟩ | ⟨g,cap,cur,_,h,_⟩
 ·exact h
 ·exact h.sub
theorem Ow.owns (h:Ow w W e sz v n xs L):W.ownsRow w.heap.size e sz v n xs:=by
 refine ⟨h.1,?_⟩
 rcases h.2 with ⟨rfl,rfl,_⟩ | ⟨g,cap,cur,rfl,hm,r⟩
 ·exact Or.inl ⟨rfl,rfl⟩
 ·exact Or.inr ⟨g,cap,cur,rfl,hm.ge 0 rfl,hm.get 0 rfl,r⟩
theorem Ow.after (h:Ow w W e sz v n xs L) (hb:Below W.heap.size W W'):Ow w W' e sz v n xs L:=by
 refine ⟨h.1,?_⟩
 rcases h.2 with ⟨rfl,rfl,hm⟩ | ⟨g,cap,cur,rfl,hm,r⟩
 ·exact Or.inl ⟨rfl,rfl,hm.after hb⟩
 ·exact Or.inr ⟨g,cap,cur,rfl,hm.after hb,r⟩
theorem Ow.of (h:Ow w W e sz v n xs L) (ho:W'.ownsRow w.heap.size e sz v' m ys) (hg:W.grownBy W' v.ownBlock) (hat:v'.ownBlock=v.ownBlock∨v'.ownBlock=some W.heap.size):Ow w W' e sz v' m ys L:=by
 have hM:=h.mem
 have hge:∀ k,v.ownBlock=some k→w.heap.size≤k∧∀ p∈L,p.1≠k:=by
  intro k hk
  rcases h.2 with ⟨rfl,_⟩ | ⟨g,cap,cur,rfl,hm,r⟩
  ·simp [Value.ownBlock] at hk
  ·simp only [Value.ownBlock,Option.some.injEq] at hk
   subst hk
   refine ⟨hm.ge 0 rfl,fun p hp e=>?_⟩
   have:=(List.nodup_cons.mp hm.apart).1
   exact this (by simp only [List.mem_map];exact ⟨p,hp,e⟩)
 have hM':Mem w W' L:=by
  refine ⟨hM.below.grown hg hM.below.size (fun k hk=>(hge k hk).1),hM.low,fun p hp=>?_,hM.apart⟩
  rw [hg.block p.1 (hM.lt hp) (fun e=>(hge p.1 e.symm).2 p hp rfl)]
  exact hM.at_ p hp
 refine ⟨ho.1,?_⟩
 rcases ho.2 with ⟨rfl,rfl⟩ | ⟨g,cap,cur,rfl,hb,hh,r⟩
 ·exact Or.inl ⟨rfl,rfl,hM'⟩
 ·refine Or.inr ⟨g,cap,cur,rfl,⟨hM'.below,fun p hp=>?_,fun p hp=>?_,?_⟩,r⟩
  ·rcases List.mem_cons.mp hp with rfl | hp
   ·exact hb
   ·exact hM'.low p hp
  ·rcases List.mem_cons.mp hp with rfl | hp
   ·exact hh
   ·exact hM'.at_ p hp
  ·rw [List.map_cons,List.nodup_cons]
   refine ⟨fun hin=>?_,hM'.apart⟩
   obtain ⟨p,hp,ep⟩:=List.mem_map.mp hin
   simp only [Value.ownBlock] at hat
   rcases hat with hat | hat
   ·exact (hge g hat.symm).2 p hp ep
   ·simp only [Option.some.injEq] at hat
    have:=hM.lt hp
    simp only at ep
    omega
theorem ow_append (ht:Tryz.prog.underlying t=some (.slice e)) (hi:(Tryz.prog.info? e).map (fun i=>(i.zero,i.size,i.bytes))=some (some z,sz,bytes)) (hzs:z.cells.size=sz) (hsz:0 < sz)
  (h:Ow w W e sz v n xs L) (a:Addr) (m c:Nat) (news:List Value) (hl:news.length=m * sz) (hnews:∀ j u,news[j]? = some u→W.cell? (a.add j)=some u) (h1:∀ u∈news,u.oneCell'=true)
  (h63:n+m≤maxLen) (hb:(n+m) * bytes≤140737488355328) :
  ∃ v' W',(Builtin.append_ #[t,t] ty #[v,.slice (some a) m c]).run Tryz.prog W=.ok v' W'∧Ow w W' e sz v' (n+m) (xs++news) L:=by
 obtain ⟨i,hi,hz,hs1,hby⟩:=info_parts hi
 obtain ⟨v',W',hr,h2,h3,_,h4⟩:=run_append_own_at (P:=Tryz.prog) W w.heap.size t ty e i z sz bytes ht hi hz hs1 hby hzs hsz v n xs h.owns a m c news hl hnews h1 h63 hb h.mem.below.size
 exact ⟨v',W',hr,h.of h2 h3 h4⟩
end
theorem wpList_append_run {ops:Array Oper} {rest:List Oper} {o:Oper} {a:Act} {W:World} {Q:Exit→Act→World→Prop}
  (s x:Operand) (t tn:TypeId) (ho:o.op=.call { callee:=.builtin .append,args:=#[s,x],argTypes:=#[t,tn] }) {vs vx:Value}
  {v':Value} {w':World} {ty:TypeId} (hr:(Builtin.append_ #[t,tn] ty #[vs,vx]).run Tryz.prog W=.ok v' w') (hty:o.type=ty) (hgd:Region.wanted o (yielded ops a.tmps)=true) (hs:a.eval s=vs) (hx:a.eval x=vx) (h:wpList Tryz.prog ops Q rest (a.put o.dst v') w') :
  wpList Tryz.prog ops Q (o::rest) a W:=by
 subst hty;exact wpList_wanted hgd fun K hK=>wp_append_out s x t tn ho hs hx hr (hK _ _ h)
def Out (w W:World) (v:Value) (l:List Int) (L:List (Nat×Obj)):Prop:=IsBytes l∧Ow w W 5 1 v l.length (l.map (Value.int .u8)) L
section
variable {w W W':World} {v:Value} {l:List Int} {L:List (Nat×Obj)}
theorem Out.mem (h:Out w W v l L):Mem w W L:=h.2.mem
theorem Out.after (h:Out w W v l L) (hb:Below W.heap.size W W'):Out w W' v l L:=⟨h.1,h.2.after hb⟩
theorem Out.nil (h:Mem w W L):Out w W (.slice none 0 0) [] L:=⟨bytes_nil,Ow.nil h⟩
theorem Out.own (h:Out w W v l L):W.ownsRow w.heap.size 5 1 v l.length (l.map (Value.int .u8)):=h.2.owns
theorem Out.drop {p:Nat×Obj} (h:Out w W v l (p::L)):Out w W v l L:=by
 refine ⟨h.1,h.2.1,?_⟩
 rcases h.2.2 with ⟨rfl,e,hm⟩ | ⟨g,cap,cur,rfl,hm,r⟩
 ·exact Or.inl ⟨rfl,e,hm.sub⟩
 ·exact Or.inr ⟨g,cap,cur,rfl,(hm.perm (List.Perm.swap _ _ _)).sub,r⟩
theorem Out.add {o:Obj} {g:Nat} (h:Out w W v l L) (hg:g=W.heap.size):Out w (W.alloc o) v l ((g,o)::L):=by
 refine ⟨h.1,h.2.1,?_⟩
 rcases h.2.2 with ⟨rfl,e,hm⟩ | ⟨k,cap,cur,rfl,hm,r⟩
 ·exact Or.inl ⟨rfl,e,(hm.push g o hg).perm List.perm_append_comm⟩
 ·refine Or.inr ⟨k,cap,cur,rfl,(hm.push g o hg).perm ?_,r⟩
  exact List.perm_append_comm.trans (List.Perm.swap _ _ _)
theorem Out.perm {K:List (Nat×Obj)} (h:Out w W v l L) (hp:L.Perm K):Out w W v l K:=by
 refine ⟨h.1,h.2.1,?_⟩
 rcases h.2.2 with ⟨rfl,e,hm⟩ | ⟨g,cap,cur,rfl,hm,r⟩
 ·exact Or.inl ⟨rfl,e,hm.perm hp⟩
 ·exact Or.inr ⟨g,cap,cur,rfl,hm.perm (hp.cons _),r⟩
theorem out_append (h:Out w W v l L) (ad:Addr) (m c:Nat) (k:List Int) (hk:k.length=m) (hr:Row W (some ad) k) (hb:l.length+m≤1000000000) (ty:TypeId) :
  ∃ v' W',(Builtin.append_ #[86,86] ty #[v,.slice (some ad) m c]).run Tryz.prog W=.ok v' W'∧Out w W' v' (l++k) L:=by
 obtain ⟨v',W',h1,h2⟩:=ow_append (ty:=ty) Tryz.underlying86 info5 rfl (by decide) h.2 ad m c (k.map (Value.int .u8)) (by simp [hk]) (by
  rcases hr.cells with e | ⟨b,off,e,_⟩
  ·subst e;intro j u hj;simp at hj
  ·cases e;exact hr.news) (ints_oneCell _ _) (by unfold maxLen;omega) (by omega)
 refine ⟨v',W',h1,Cf.bytes_app h.1 hr.bytes,?_⟩
 rw [List.length_append,List.map_append,hk]
 exact h2
theorem out_one (h:Out w W v l L) (x:Int) (hx:0≤x∧x≤255) (hb:l.length+1≤1000000000) (ty:TypeId) :
  ∃ v' W',(Builtin.append_ #[86,86] ty #[v,.slice (some ⟨W.heap.size,0,none⟩) 1 1]).run Tryz.prog (W.alloc (.cells #[.int .u8 x] 5))=.ok v' W'∧Out w W' v' (l++[x]) L:=by
 have hr:=row_lit W [x] (bytes_cons hx bytes_nil) (by simp) 5
 exact out_append (h.after ((Below.refl _ _).alloc (Nat.le_refl _) _)) _ 1 1 [x] rfl hr hb ty
theorem strCells_nums (s:ByteArray):Lib.strCells s=(s.data.toList.map (fun b=>(b.toNat:Int))).map (Value.int .u8):=by
 simp [Lib.strCells,Function.comp_def]
end
def sb (s:ByteArray):List Int:=s.data.toList.map (fun b=>(b.toNat:Int))
theorem sb_len (s:ByteArray):(sb s).length=s.size:=by simp only [sb,List.length_map,Array.length_toList];rfl
theorem sb_bytes (s:ByteArray):IsBytes (sb s):=by
 intro i
 by_cases h:i < (sb s).length
 ·rw [getD_eq h]
  simp only [sb,List.getElem_map]
  have:=(s.data.toList[i]'(by simpa [sb] using h)).toNat_lt
  omega
 ·have:(sb s).getD i 0=0:=by simp [List.getD,List.getElem?_eq_none (Nat.le_of_not_lt h)]
  rw [this];omega
theorem ok_block {a b:Value} {w w':World} (h:(Result.ok a w:Result Value)=.ok b w'):a.ownBlock=b.ownBlock:=by cases h;rfl
theorem out_str {w W:World} {v:Value} {l:List Int} {L:List (Nat×Obj)} (h:Out w W v l L) (s:ByteArray) (hb:l.length+s.size≤1000000000) (ty:TypeId) :
  ∃ v' W',(Builtin.append_ #[86,9] ty #[v,.string s]).run Tryz.prog W=.ok v' W'∧Out w W' v' (l++sb s) L:=by
 obtain ⟨i,hi,hz,hs1,hby⟩:=info_parts info5
 have hM:=h.mem
 have hu:=Tryz.underlying86
 have hus:=Tryz.underlying9
 obtain ⟨v',W',hr,h2,h3,h4⟩:=Lib.run_append_own_string (P:=Tryz.prog) W w.heap.size 86 9 ty 5 i hu hus hi hz hs1 hby v l.length _ h.own s (by unfold maxLen;omega) (by omega) hM.below.size
 refine ⟨v',W',hr,Cf.bytes_app h.1 (sb_bytes s),?_⟩
 rw [List.length_append,List.map_append,sb_len]
 rw [strCells_nums] at h2
 refine h.2.of h2 h3 ?_
 rcases h.2.2 with ⟨rfl,e,hm⟩ | ⟨g,cap,cur,rfl,hm,hnc,hcm,hcs,htake⟩
 ·have e0:l=[]:=List.length_eq_zero_iff.mp e
  subst e0
  obtain ⟨v2,W2,hr2,h22,_⟩:=Lib.run_append_own_string (P:=Tryz.prog) W W.heap.size 86 9 ty 5 i hu hus hi hz hs1 hby (.slice none 0 0) 0 [] (World.ownsRow_nil _ _ _ _) s (by unfold maxLen;omega) (by omega) (Nat.le_refl _)
  rw [hr] at hr2
  cases hr2
  rcases h22.2 with ⟨rfl,_⟩ | ⟨g,cap,cur,rfl,hb,hh,_⟩
  ·exact Or.inl rfl
  ·right
   simp only [Value.ownBlock,Option.some.injEq]
   have hg0:=hr
   by_cases hs0:s.size=0
   ·have:=(h4.2 ⟨rfl,hs0⟩);cases this
   ·have:=run_append_nil_string (P:=Tryz.prog) W 86 9 ty 5 i (.int .u8 0) hu hus hi hz s (by omega) (by omega) (by rw [hby];omega)
    have e1:=ok_block (hr.symm.trans this)
    simpa [Value.ownBlock] using e1
 ·by_cases hroom:l.length+s.size≤cap
  ·have:=Lib.run_append_room_string (P:=Tryz.prog) W 86 9 ty 5 i hu hus hi hs1 g l.length cap cur (hm.get 0 rfl) s hroom (by omega)
   have e1:=ok_block (hr.symm.trans this)
   exact Or.inl e1
  ·have:=Lib.run_append_grow_string (P:=Tryz.prog) W 86 9 ty 5 i (.int .u8 0) hu hus hi hz ⟨g,0,none⟩ l.length cap (l.map (Value.int .u8)) (by rw [hs1];simp) (World.ownsRow.cells h.own rfl) s (by omega) (by omega) (growslice_fits (by omega) (by rw [hby];omega))
   have e1:=ok_block (hr.symm.trans this)
   exact Or.inr e1
end Go.Proofs.YtdigofgjhaakmaaGreatDoor
