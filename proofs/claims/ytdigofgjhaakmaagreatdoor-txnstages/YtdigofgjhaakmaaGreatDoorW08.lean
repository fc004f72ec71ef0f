/-
  What package log's framed answers.
  What package log's unframed answers where a block holds a piece.
  Settings as bytes: the field of a list's elements (lych/api.Tenant, uint32).
  Settings as bytes: the field of a list's elements (lych/api.Config, lych/api.Tenant).
  Settings as bytes: fields one behind the other keep what is asked of a field (lych/api.Pair).
  Settings as bytes: the field of a number keeps what is asked of a field (lych/api.Tenant, int).
  Settings as bytes: the field of an array of bytes keeps what is asked of a field.
  Settings as bytes: fields one behind the other keep what is asked of a field (lych/api.Config).
-/
import Derived.Test.YtdigofgjhaakmaaGreatDoorW06
import Derived.Test.YtdigofgjhaakmaaGreatDoorW05
import Derived.Deep.MidRow
import Derived.Deep.WholeRow
import Derived.Test.YtdigofgjhaakmaaGreatDoorW04
set_option linter.unusedVariables false
set_option maxRecDepth 20000
set_option maxHeartbeats 40000000
namespace Go.Proofs.YtdigofgjhaakmaaGreatDoor
open Go.RowKit
open Sm
theorem spl_at (A B B' C:List Int) {k:Nat} (hk:A.length=k) (hb:B'.length=B.length):lspl (A++(B++C)) k B'=A++(B'++C):=by
 subst hk
 unfold lspl
 rw [List.take_left' rfl,hb,← List.append_assoc A B C,List.drop_left' (by simp)]
def fr1 (m:Nat):List Int:=((List.replicate m (0:Int)).set 0 165).set (m - 1) 165
def fr2 (m:Nat) (p:Pc):=lspl (fr1 m) 5 (lbe 8 p.t)
def fr3 (m:Nat) (p:Pc):=lspl (fr2 m p) 13 (lbe 8 p.c)
def fr4 (m:Nat) (p:Pc):=lspl (fr3 m p) 21 (lbe 1 p.i)
def fr5 (m:Nat) (p:Pc):=lspl (fr4 m p) 22 (lbe 1 p.n)
def fr6 (m:Nat) (p:Pc):=lspl (fr5 m p) 23 (lbe 4 p.b.length)
def fr7 (m:Nat) (p:Pc):=lspl (fr6 m p) 63 p.b
def fr8 (m:Nat) (p:Pc):=lspl (fr7 m p) 1 (lbe 4 (crc (sl (fr7 m p) 5 (63+p.b.length))))
theorem rep_add (a b:Nat) (x:Int):List.replicate (a+b) x=List.replicate a x++List.replicate b x:=List.replicate_append_replicate.symm
theorem fr1_eq (m k:Nat) (h:k+64≤m):fr1 m=[165]++(List.replicate 4 0++(List.replicate 8 0++(List.replicate 8 0++(List.replicate 1 0++(List.replicate 1 0++(List.replicate 4 0++(List.replicate 36 0++(List.replicate k 0++(List.replicate (m - 64 - k) 0++[165]))))))))):=by
 obtain ⟨d,rfl⟩:∃ d,m=64+k+d:=⟨m - 64 - k,by omega⟩
 have e:List.replicate (64+k+d) (0:Int)=[0]++(List.replicate (62+k+d) 0++[0]):=by
  have:64+k+d=1+(62+k+d+1):=by omega
  rw [this,rep_add,rep_add];rfl
 have e2:List.replicate (62+k+d) (0:Int)=List.replicate 4 0++(List.replicate 8 0++(List.replicate 8 0++(List.replicate 1 0++(List.replicate 1 0++(List.replicate 4 0++(List.replicate 36 0++(List.replicate k 0++List.replicate (64+k+d - 64 - k) 0))))))):=by
  have:62+k+d=4+(8+(8+(1+(1+(4+(36+(k+(64+k+d - 64 - k)))))))):=by omega
  conv=>lhs;rw [this]
  simp only [rep_add]
 unfold fr1
 rw [e,List.singleton_append,List.set_cons_zero,show 64+k+d - 1=(62+k+d)+1 by omega,List.set_cons_succ,List.set_append_right _ _ (by simp)]
 simp only [List.length_replicate,Nat.sub_self,List.set_cons_zero]
 rw [e2]
 simp only [List.append_assoc,List.cons_append,List.nil_append]
theorem fr7_eq {m:Nat} {p:Pc} (h:p.b.length+64≤m):fr7 m p=[165]++(List.replicate 4 0++(pbody p++(List.replicate (m - 64 - p.b.length) 0++[165]))):=by
 have z1:=fr1_eq m p.b.length h
 have z2:fr2 m p=[165]++(List.replicate 4 0++(lbe 8 p.t++(List.replicate 8 0++(List.replicate 1 0++(List.replicate 1 0++(List.replicate 4 0++(List.replicate 36 0++(List.replicate p.b.length 0++(List.replicate (m - 64 - p.b.length) 0++[165]))))))))):=by
  rw [fr2,z1,← List.append_assoc [165]];exact (spl_at ([165]++List.replicate 4 0) _ _ _ (by simp) (by simp [be_length])).trans (by simp)
 have z3:fr3 m p=[165]++(List.replicate 4 0++(lbe 8 p.t++(lbe 8 p.c++(List.replicate 1 0++(List.replicate 1 0++(List.replicate 4 0++(List.replicate 36 0++(List.replicate p.b.length 0++(List.replicate (m - 64 - p.b.length) 0++[165]))))))))):=by
  rw [fr3,z2,← List.append_assoc [165],← List.append_assoc ([165]++List.replicate 4 0)];exact (spl_at ([165]++List.replicate 4 0++lbe 8 p.t) _ _ _ (by simp [be_length]) (by simp [be_length])).trans (by simp)
 have z4:fr4 m p=[165]++(List.replicate 4 0++(lbe 8 p.t++(lbe 8 p.c++(lbe 1 p.i++(List.replicate 1 0++(List.replicate 4 0++(List.replicate 36 0++(List.replicate p.b.length 0++(List.replicate (m - 64 - p.b.length) 0++[165]))))))))):=by
  rw [fr4,z3,← List.append_assoc [165],← List.append_assoc ([165]++List.replicate 4 0),← List.append_assoc ([165]++List.replicate 4 0++lbe 8 p.t)];exact (spl_at ([165]++List.replicate 4 0++lbe 8 p.t++lbe 8 p.c) _ _ _ (by simp [be_length]) (by simp [be_length])).trans (by simp)
 have z5:fr5 m p=[165]++(List.replicate 4 0++(lbe 8 p.t++(lbe 8 p.c++(lbe 1 p.i++(lbe 1 p.n++(List.replicate 4 0++(List.replicate 36 0++(List.replicate p.b.length 0++(List.replicate (m - 64 - p.b.length) 0++[165]))))))))):=by
  rw [fr5,z4,← List.append_assoc [165],← List.append_assoc ([165]++List.replicate 4 0),← List.append_assoc ([165]++List.replicate 4 0++lbe 8 p.t),← List.append_assoc ([165]++List.replicate 4 0++lbe 8 p.t++lbe 8 p.c)];exact (spl_at ([165]++List.replicate 4 0++lbe 8 p.t++lbe 8 p.c++lbe 1 p.i) _ _ _ (by simp [be_length]) (by simp [be_length])).trans (by simp)
 have z6:fr6 m p=[165]++(List.replicate 4 0++(lbe 8 p.t++(lbe 8 p.c++(lbe 1 p.i++(lbe 1 p.n++(lbe 4 p.b.length++(List.replicate 36 0++(List.replicate p.b.length 0++(List.replicate (m - 64 - p.b.length) 0++[165]))))))))):=by
  rw [fr6,z5,← List.append_assoc [165],← List.append_assoc ([165]++List.replicate 4 0),← List.append_assoc ([165]++List.replicate 4 0++lbe 8 p.t),← List.append_assoc ([165]++List.replicate 4 0++lbe 8 p.t++lbe 8 p.c),← List.append_assoc ([165]++List.replicate 4 0++lbe 8 p.t++lbe 8 p.c++lbe 1 p.i)];exact (spl_at ([165]++List.replicate 4 0++lbe 8 p.t++lbe 8 p.c++lbe 1 p.i++lbe 1 p.n) _ _ _ (by simp [be_length]) (by simp [be_length])).trans (by simp)
 have z6':fr6 m p=([165]++List.replicate 4 0++lbe 8 p.t++lbe 8 p.c++lbe 1 p.i++lbe 1 p.n++lbe 4 p.b.length++List.replicate 36 0)++(List.replicate p.b.length 0++(List.replicate (m - 64 - p.b.length) 0++[165])):=by rw [z6];simp
 rw [fr7,z6',spl_at _ (List.replicate p.b.length 0) p.b _ (by simp [be_length]) (by simp)]
 simp [pbody]
theorem fr8_eq {m:Nat} {p:Pc} (h:p.b.length+64≤m):fr8 m p=frm m p:=by
 have z7:=fr7_eq h
 have hs:sl (fr7 m p) 5 (63+p.b.length)=pbody p:=by
  rw [z7,← List.append_assoc [165]]
  exact sl_mid _ _ _ (by simp) (by rw [pbody_length];omega)
 rw [fr8,hs,z7,spl_at [165] (List.replicate 4 0) _ _ (by simp) (by simp [be_length])]
 rfl
theorem fr_len {m:Nat} {p:Pc} (h:p.b.length+64≤m):(fr1 m).length=m∧(fr2 m p).length=m∧(fr3 m p).length=m∧(fr4 m p).length=m∧(fr5 m p).length=m∧(fr6 m p).length=m∧(fr7 m p).length=m:=by
 have h1:(fr1 m).length=m:=by simp [fr1]
 have h2:(fr2 m p).length=m:=by rw [fr2,spl_length _ _ _ (by rw [be_length,h1];omega),h1]
 have h3:(fr3 m p).length=m:=by rw [fr3,spl_length _ _ _ (by rw [be_length,h2];omega),h2]
 have h4:(fr4 m p).length=m:=by rw [fr4,spl_length _ _ _ (by rw [be_length,h3];omega),h3]
 have h5:(fr5 m p).length=m:=by rw [fr5,spl_length _ _ _ (by rw [be_length,h4];omega),h4]
 have h6:(fr6 m p).length=m:=by rw [fr6,spl_length _ _ _ (by rw [be_length,h5];omega),h5]
 exact ⟨h1,h2,h3,h4,h5,h6,by rw [fr7,spl_length _ _ _ (by omega),h6]⟩
theorem set_isb {l:List Int} (h:IsBytes l) (j:Nat) (x:Int) (hx:0≤x∧x≤255):IsBytes (l.set j x):=by
 intro q
 by_cases e:j=q
 ·subst e
  by_cases h2:j < l.length
  ·have:(l.set j x).getD j 0=x:=by simp [List.getD,h2]
   rw [this];exact hx
  ·have:(l.set j x).getD j 0=0:=by simp [List.getD,h2]
   rw [this];omega
 ·have:(l.set j x).getD q 0=l.getD q 0:=by simp [List.getD,List.getElem?_set_ne e]
  rw [this];exact h q
theorem fr7_isb {m:Nat} {p:Pc} (h:IsBytes p.b):IsBytes (fr7 m p):=by
 have h1:IsBytes (fr1 m):=set_isb (set_isb (bytes_rep _ _ (by omega)) _ _ (by omega)) _ _ (by omega)
 exact spl_bytes (spl_bytes (spl_bytes (spl_bytes (spl_bytes (spl_bytes h1 (lbe_bytes _ _) _) (lbe_bytes _ _) _) (lbe_bytes _ _) _) (lbe_bytes _ _) _) (lbe_bytes _ _) _) h _
set_option maxRecDepth 20000 in
theorem framed_any {W:World} {m:Nat} {p:Pc} (hp:PcOk m p) (hm0:256≤m) {a:Option Addr} {k cap:Nat} (hk:p.b.length=k) (hcap:k≤cap) (hr:Row W a p.b) :
  Calls Tryz.prog 123 #[.agg (pcA p.t p.c p.i p.n (.slice a k cap)),.int .i64 m] W fun e W'=>∃ g,e=.returned (.slice (some ⟨g,0,none⟩) m m)∧∃ K,Mem W W' ((g,.cells (bs (frm m p)) 5)::K):=by
 have hlen:=hp.len
 obtain ⟨l1,l2,l3,l4,l5,l6,l7⟩:=fr_len hp.len
 have hm1:=hp.top
 have ht:=hp.t
 have hpc:=hp.c
 have hpi:=hp.i
 have hpn:=hp.n
 have HF8:Hid (fr8 m p=frm m p):=fr8_eq hp.len
 have HI7:Hid (IsBytes (fr7 m p)):=fr7_isb hp.bytes
 obtain ⟨t,c,i,n,b⟩:=p
 simp only at *
 have hM0:=make_bytes m (by omega) (W.alloc (.cells (pcA t c i n (.slice a k cap)) pcT))
 have hA:Mem W ((W.alloc (.cells (pcA t c i n (.slice a k cap)) pcT)).alloc (.cells (madeCells #[.int .u8 0] m) 5)) ([]++[(W.heap.size,.cells (pcA t c i n (.slice a k cap)) pcT (0,0))]++[(W.heap.size+1,.cells (bs (List.replicate m 0)) 5)]):=by
  have:=((Mem.nil W).alloc (.cells (pcA t c i n (.slice a k cap)) pcT (0,0))).push (W.heap.size+1) (.cells (madeCells #[.int .u8 0] m) 5) (by simp)
  rw [bs_made] at this ⊢;exact this
 have hsz:(W.alloc (.cells (pcA t c i n (.slice a k cap)) pcT)).heap.size=W.heap.size+1:=by simp
 rw [hsz] at hM0
 have HA:Hid (Mem W ((W.alloc (.cells (pcA t c i n (.slice a k cap)) pcT)).alloc (.cells (madeCells #[.int .u8 0] m) 5)) ([]++[(W.heap.size,.cells (pcA t c i n (.slice a k cap)) pcT (0,0))]++[(W.heap.size+1,.cells (bs (List.replicate m 0)) 5)])):=hA
 have z0:=hA.cell 1 rfl 0
 have zl:=hA.cell 1 rfl (m - 1)
 rw [bs_get (by simp;omega)] at z0 zl
 have zf:=hA.free 1 rfl
 generalize hwA:(W.alloc (.cells (pcA t c i n (.slice a k cap)) pcT)).alloc (.cells (madeCells #[.int .u8 0] m) 5)=wA at *
 have HROW:Hid (Row W a b):=hr
 have qm:(0:Int) < m:=by omega
 have qm1:((m:Int) - 1).toNat=m - 1:=by omega
 have qw:IntKind.i64.wrap ((m:Int) - 1)=(m:Int) - 1:=by rw [IntKind.wrap_i64];omega
 have wc:IntKind.u64.wrap c=c:=wraps_u64 _ (by omega) (by omega)
 have wi:IntKind.u64.wrap i=i:=wraps_u64 _ (by omega) (by omega)
 have wn:IntKind.u64.wrap n=n:=wraps_u64 _ (by omega) (by omega)
 have wk:IntKind.u64.wrap (k:Int)=k:=wraps_u64 _ (by omega) (by omega)
 have n1:¬ m=1:=by omega
 have n5:¬ m=5:=by omega
 have n13:¬ m=13:=by omega
 have n21:¬ m=21:=by omega
 have n22:¬ m=22:=by omega
 have n23:¬ m=23:=by omega
 have n63:¬ m=63:=by omega
 have i1:(1:Int)≤m:=by omega
 have i5:(5:Int)≤m:=by omega
 have i13:(13:Int)≤m:=by omega
 have i21:(21:Int)≤m:=by omega
 have i22:(22:Int)≤m:=by omega
 have i23:(23:Int)≤m:=by omega
 have i27:(27:Int)≤m:=by omega
 have i63:(63:Int)≤m:=by omega
 have iL:(63:Int)+k≤m:=by omega
 have iL0:(0:Int)≤63+k:=by omega
 have iL5:(5:Int)≤63+k:=by omega
 have iL2:((63:Int)+k).toNat=63+k:=by omega
 have iLw:IntKind.i64.wrap ((63:Int)+k)=(63:Int)+k:=by rw [IntKind.wrap_i64];omega
 clear hA hr hp
 go_enter Tryz.func123,Tryz.ntmps123
 go_upto_region 3 with fail
 refine wp_letter (fun V=>Mem W V [(W.heap.size,.cells (pcA t c i n (.slice a k cap)) pcT (0,0)),(W.heap.size+1,.cells (bs (fr1 m)) 5)]) (by
  have:=(HA.out.set 1 rfl 0 (.int .u8 165)).set 1 rfl (m - 1) (.int .u8 165)
  rw [bs_set,bs_set] at this
  exact this) ?_
 clear HA hwA z0 zl zf hM0 hsz wA
 intro w3 h3
 have kc:=h3.cell 0 rfl 0
 simp at kc
 have hput:Calls Tryz.prog 146 #[.slice (some ⟨W.heap.size+1,5,none⟩) 8 (m - 5),.int .u64 t] w3.drew fun e W'=>e=.returned (.tuple #[])∧Wrote w3.drew W' (W.heap.size+1) (bs (lspl (fr1 m) 5 (lbe 8 t))) 5:=lput_any (h3.drew.get 1 rfl) 5 8 _ (by omega) (by omega) (by omega) t (by omega) (by omega)
 have HPUT:Hid (Calls Tryz.prog 146 #[.slice (some ⟨W.heap.size+1,5,none⟩) 8 (m - 5),.int .u64 t] w3.drew fun e W'=>e=.returned (.tuple #[])∧Wrote w3.drew W' (W.heap.size+1) (bs (lspl (fr1 m) 5 (lbe 8 t))) 5):=hput
 have HM:Hid (Mem W w3 [(W.heap.size,.cells (pcA t c i n (.slice a k cap)) pcT (0,0)),(W.heap.size+1,.cells (bs (fr1 m)) 5)]):=h3
 have hne:W.heap.size+1≠W.heap.size:=by omega
 clear h3 hput
 go_region_held3 (fun w'=>w'.cell? ⟨W.heap.size,0,none⟩=some (.int .u64 t)) (first | go_keep | assumption | exact (q5.cell hne).trans kc)
  (first | (go_at_call 146;with_reducible refine HPUT.out.mono ?_;rintro e w5 ⟨rfl,q5⟩))
 go_upto_region 4 with fail
 refine wp_letter (fun V=>Mem W V [(W.heap.size,.cells (pcA t c i n (.slice a k cap)) pcT (0,0)),(W.heap.size+1,.cells (bs (fr2 m ⟨t,c,i,n,b⟩)) 5)]) (HM.out.drew.wrote 1 rfl q5) ?_
 clear HM HPUT q5 kc hne
 intro w4 h4
 have kc:=h4.cell 0 rfl 1
 simp at kc
 have hput:Calls Tryz.prog 146 #[.slice (some ⟨W.heap.size+1,13,none⟩) 8 (m - 13),.int .u64 c] w4.drew fun e W'=>e=.returned (.tuple #[])∧Wrote w4.drew W' (W.heap.size+1) (bs (lspl (fr2 m ⟨t,c,i,n,b⟩) 13 (lbe 8 c))) 5:=lput_any (h4.drew.get 1 rfl) 13 8 _ (by omega) (by omega) (by omega) c (by omega) (by omega)
 have HPUT:Hid (Calls Tryz.prog 146 #[.slice (some ⟨W.heap.size+1,13,none⟩) 8 (m - 13),.int .u64 c] w4.drew fun e W'=>e=.returned (.tuple #[])∧Wrote w4.drew W' (W.heap.size+1) (bs (lspl (fr2 m ⟨t,c,i,n,b⟩) 13 (lbe 8 c))) 5):=hput
 have HM:Hid (Mem W w4 [(W.heap.size,.cells (pcA t c i n (.slice a k cap)) pcT (0,0)),(W.heap.size+1,.cells (bs (fr2 m ⟨t,c,i,n,b⟩)) 5)]):=h4
 have hne:W.heap.size+1≠W.heap.size:=by omega
 clear h4 hput
 go_region_held3 (fun w'=>w'.cell? ⟨W.heap.size,1,none⟩=some (.int .i64 c)) (first | go_keep | assumption | exact (q5.cell hne).trans kc)
  (first | (go_at_call 146;with_reducible refine HPUT.out.mono ?_;rintro e w5 ⟨rfl,q5⟩))
 go_upto_region 5 with fail
 refine wp_letter (fun V=>Mem W V [(W.heap.size,.cells (pcA t c i n (.slice a k cap)) pcT (0,0)),(W.heap.size+1,.cells (bs (fr3 m ⟨t,c,i,n,b⟩)) 5)]) (HM.out.drew.wrote 1 rfl q5) ?_
 clear HM HPUT q5 kc hne
 intro w5 h5
 have kc:=h5.cell 0 rfl 2
 simp at kc
 have hput:Calls Tryz.prog 146 #[.slice (some ⟨W.heap.size+1,21,none⟩) 1 (m - 21),.int .u64 i] w5.drew fun e W'=>e=.returned (.tuple #[])∧Wrote w5.drew W' (W.heap.size+1) (bs (lspl (fr3 m ⟨t,c,i,n,b⟩) 21 (lbe 1 i))) 5:=lput_any (h5.drew.get 1 rfl) 21 1 _ (by omega) (by omega) (by omega) i (by omega) (by omega)
 have HPUT:Hid (Calls Tryz.prog 146 #[.slice (some ⟨W.heap.size+1,21,none⟩) 1 (m - 21),.int .u64 i] w5.drew fun e W'=>e=.returned (.tuple #[])∧Wrote w5.drew W' (W.heap.size+1) (bs (lspl (fr3 m ⟨t,c,i,n,b⟩) 21 (lbe 1 i))) 5):=hput
 have HM:Hid (Mem W w5 [(W.heap.size,.cells (pcA t c i n (.slice a k cap)) pcT (0,0)),(W.heap.size+1,.cells (bs (fr3 m ⟨t,c,i,n,b⟩)) 5)]):=h5
 have hne:W.heap.size+1≠W.heap.size:=by omega
 clear h5 hput
 go_region_held3 (fun w'=>w'.cell? ⟨W.heap.size,2,none⟩=some (.int .i64 i)) (first | go_keep | assumption | exact (q5.cell hne).trans kc)
  (first | (go_at_call 146;with_reducible refine HPUT.out.mono ?_;rintro e w5 ⟨rfl,q5⟩))
 go_upto_region 6 with fail
 refine wp_letter (fun V=>Mem W V [(W.heap.size,.cells (pcA t c i n (.slice a k cap)) pcT (0,0)),(W.heap.size+1,.cells (bs (fr4 m ⟨t,c,i,n,b⟩)) 5)]) (HM.out.drew.wrote 1 rfl q5) ?_
 clear HM HPUT q5 kc hne
 intro w6 h6
 have kc:=h6.cell 0 rfl 3
 simp at kc
 have hput:Calls Tryz.prog 146 #[.slice (some ⟨W.heap.size+1,22,none⟩) 1 (m - 22),.int .u64 n] w6.drew fun e W'=>e=.returned (.tuple #[])∧Wrote w6.drew W' (W.heap.size+1) (bs (lspl (fr4 m ⟨t,c,i,n,b⟩) 22 (lbe 1 n))) 5:=lput_any (h6.drew.get 1 rfl) 22 1 _ (by omega) (by omega) (by omega) n (by omega) (by omega)
 have HPUT:Hid (Calls Tryz.prog 146 #[.slice (some ⟨W.heap.size+1,22,none⟩) 1 (m - 22),.int .u64 n] w6.drew fun e W'=>e=.returned (.tuple #[])∧Wrote w6.drew W' (W.heap.size+1) (bs (lspl (fr4 m ⟨t,c,i,n,b⟩) 22 (lbe 1 n))) 5):=hput
 have HM:Hid (Mem W w6 [(W.heap.size,.cells (pcA t c i n (.slice a k cap)) pcT (0,0)),(W.heap.size+1,.cells (bs (fr4 m ⟨t,c,i,n,b⟩)) 5)]):=h6
 have hne:W.heap.size+1≠W.heap.size:=by omega
 clear h6 hput
 go_region_held3 (fun w'=>w'.cell? ⟨W.heap.size,3,none⟩=some (.int .i64 n)) (first | go_keep | assumption | exact (q5.cell hne).trans kc)
  (first | (go_at_call 146;with_reducible refine HPUT.out.mono ?_;rintro e w5 ⟨rfl,q5⟩))
 go_upto_region 7 with fail
 refine wp_letter (fun V=>Mem W V [(W.heap.size,.cells (pcA t c i n (.slice a k cap)) pcT (0,0)),(W.heap.size+1,.cells (bs (fr5 m ⟨t,c,i,n,b⟩)) 5)]) (HM.out.drew.wrote 1 rfl q5) ?_
 clear HM HPUT q5 kc hne
 intro w7 h7
 have kc:=h7.cell 0 rfl 4
 simp at kc
 have hput:Calls Tryz.prog 146 #[.slice (some ⟨W.heap.size+1,23,none⟩) 4 (m - 23),.int .u64 (k:Int)] w7.drew fun e W'=>e=.returned (.tuple #[])∧Wrote w7.drew W' (W.heap.size+1) (bs (lspl (fr5 m ⟨t,c,i,n,b⟩) 23 (lbe 4 (k:Int)))) 5:=lput_any (h7.drew.get 1 rfl) 23 4 _ (by omega) (by omega) (by omega) (k:Int) (by omega) (by omega)
 have HPUT:Hid (Calls Tryz.prog 146 #[.slice (some ⟨W.heap.size+1,23,none⟩) 4 (m - 23),.int .u64 (k:Int)] w7.drew fun e W'=>e=.returned (.tuple #[])∧Wrote w7.drew W' (W.heap.size+1) (bs (lspl (fr5 m ⟨t,c,i,n,b⟩) 23 (lbe 4 (k:Int)))) 5):=hput
 have HM:Hid (Mem W w7 [(W.heap.size,.cells (pcA t c i n (.slice a k cap)) pcT (0,0)),(W.heap.size+1,.cells (bs (fr5 m ⟨t,c,i,n,b⟩)) 5)]):=h7
 have hne:W.heap.size+1≠W.heap.size:=by omega
 clear h7 hput
 go_region_held3 (fun w'=>w'.cell? ⟨W.heap.size,4,none⟩=some (.slice a k cap)) (first | go_keep | assumption | exact (q5.cell hne).trans kc)
  (first | (go_at_call 146;with_reducible refine HPUT.out.mono ?_;rintro e w5 ⟨rfl,q5⟩))
 go_upto_region 8 with fail
 refine wp_letter (fun V=>Mem W V [(W.heap.size,.cells (pcA t c i n (.slice a k cap)) pcT (0,0)),(W.heap.size+1,.cells (bs (fr6 m ⟨t,c,i,n,b⟩)) 5)]) (by rw [show fr6 m ⟨t,c,i,n,b⟩=lspl (fr5 m ⟨t,c,i,n,b⟩) 23 (lbe 4 (k:Int)) by simp only [fr6,hk]];exact HM.out.drew.wrote 1 rfl q5) ?_
 clear HM HPUT q5 kc hne
 intro w8 h8
 have kc:=h8.cell 0 rfl 4
 simp at kc
 have HROW8:Hid (Row w8.drew a b):=row_drew (h8.row HROW.out)
 have HM:Hid (Mem W w8 [(W.heap.size,.cells (pcA t c i n (.slice a k cap)) pcT (0,0)),(W.heap.size+1,.cells (bs (fr6 m ⟨t,c,i,n,b⟩)) 5)]):=h8
 have HLn:Hid (b.length=Nat.min k (m - 63)):=by show _=_;rw [hk];exact (Nat.min_eq_left (by omega)).symm
 have HP:Hid (0 < b.length→some (⟨W.heap.size+1,63,none⟩:Addr)=some ⟨W.heap.size+1,63,none⟩∧∃ ad,a=some ad∧∀ j v,(b.map (Value.int .u8))[j]? = some v→w8.drew.cell? (ad.add j)=some v):=by
  intro hp
  rcases HROW8.out.cells with e | ⟨b',off,e,hc⟩
  ·rw [e] at hp;simp at hp
  ·subst e;exact ⟨rfl,_,rfl,HROW8.out.news⟩
 have HF:Hid (63+b.length≤(bs (fr6 m ⟨t,c,i,n,b⟩)).size):=by show _≤_;rw [bs_size,l6];omega
 have HNw:Hid ((bs (fr7 m ⟨t,c,i,n,b⟩)).toList=(bs (fr6 m ⟨t,c,i,n,b⟩)).toList.take 63++(b.map (Value.int .u8)++(bs (fr6 m ⟨t,c,i,n,b⟩)).toList.drop (63+b.length))):=by
  show _=_
  simp only [fr7,lspl]
  simp [List.map_append,List.map_take,List.map_drop]
 clear h8
 go_cut [4] from 6 (fun s4 wx=>Mem W wx [(W.heap.size,.cells (pcA t c i n (.slice a k cap)) pcT (0,0)),(W.heap.size+1,.cells (bs (fr7 m ⟨t,c,i,n,b⟩)) 5)])
 case first =>
  go_region_law (refine step_copy_bytes rfl (.tmp 45) (.tmp 47) 86 86 rfl Tryz.underlying86 (some ⟨W.heap.size+1,63,none⟩) a (m - 63) (m - 63) k cap (by simp [Act.eval]) (by simp [Act.eval]) (W.heap.size+1) 63 (bs (fr6 m ⟨t,c,i,n,b⟩)) (bs (fr7 m ⟨t,c,i,n,b⟩)) 5 (HM.out.drew.get 1 rfl) b HLn.out HP.out HF.out HNw.out ?_;intro w9 hw9)
  all_goals
   go_wp2_with fail
   go_meet
   case rel=>exact HM.out.drew.wrote 1 rfl hw9
 case rest =>
 clear HM HLn HP HF HNw kc HROW8
 have kc:=hcut.cell 0 rfl 4
 simp at kc
 have hI:=HI7.out
 have hsum:∀ V,Row V (some ⟨W.heap.size+1,0,none⟩) (fr7 m ⟨t,c,i,n,b⟩)→Calls Tryz.prog 147 #[.slice (some ⟨W.heap.size+1,5,none⟩) (63+k - 5) (m - 5)] V fun e W'=>e=.returned (.int .u32 (crc (sl (fr7 m ⟨t,c,i,n,b⟩) 5 (63+b.length))))∧V=W':=fun V hV=>by
  have:=lsum_any (n:=63+k - 5) (by rw [sl_length _ _ _ (by rw [l7];omega)]) (hV.sl 5 (63+k) (by omega) (by rw [l7];omega)) (m - 5)
  rw [hk]
  simpa only [Nat.zero_add] using this
 have hcr:=crc_range (sl (fr7 m ⟨t,c,i,n,b⟩) 5 (63+b.length)) (sl_bytes hI _ _)
 have HR7:Hid (Row wc.drew (some ⟨W.heap.size+1,0,none⟩) (fr7 m ⟨t,c,i,n,b⟩)):=hcut.drew.own 1 rfl hI (by rw [l7];omega)
 have HSUM:Hid (Calls Tryz.prog 147 #[.slice (some ⟨W.heap.size+1,5,none⟩) (63+k - 5) (m - 5)] wc.drew fun e W'=>e=.returned (.int .u32 (crc (sl (fr7 m ⟨t,c,i,n,b⟩) 5 (63+b.length))))∧wc.drew=W'):=hsum _ HR7.out
 have HPUT:Hid (Calls Tryz.prog 146 #[.slice (some ⟨W.heap.size+1,1,none⟩) 4 (m - 1),.int .u64 (crc (sl (fr7 m ⟨t,c,i,n,b⟩) 5 (63+b.length)))] wc.drew fun e W'=>e=.returned (.tuple #[])∧Wrote wc.drew W' (W.heap.size+1) (bs (fr8 m ⟨t,c,i,n,b⟩)) 5):=lput_any (hcut.drew.get 1 rfl) 1 4 _ (by omega) (by omega) (by omega) _ (by omega) (by omega)
 generalize crc (sl (fr7 m ⟨t,c,i,n,b⟩) 5 (63+b.length))=S at *
 have wS:IntKind.u64.wrap S=S:=wraps_u64 _ (by omega) (by omega)
 have HM:Hid (Mem W wc [(W.heap.size,.cells (pcA t c i n (.slice a k cap)) pcT (0,0)),(W.heap.size+1,.cells (bs (fr7 m ⟨t,c,i,n,b⟩)) 5)]):=hcut
 have hne:W.heap.size+1≠W.heap.size:=by omega
 clear hcut hsum HR7 hI
 obtain ⟨hc0,hc1⟩:=hcr
 go_upto_region 9 with fail
 go_region_held3 (fun w'=>w'.cell? ⟨W.heap.size,4,none⟩=some (.slice a k cap)) (first | go_keep | assumption | exact (q5.cell hne).trans kc)
  (first
   | (go_at_call 147;with_reducible refine HSUM.out.mono ?_;rintro e w4 ⟨rfl,rfl⟩)
   | (go_at_call 146;with_reducible refine HPUT.out.mono ?_;rintro e w5 ⟨rfl,q5⟩))
 go_wp2
 go_ret
 refine ⟨W.heap.size+1,rfl,[(W.heap.size,.cells (pcA t c i n (.slice a k cap)) pcT (0,0))],?_⟩
 rw [←HF8.out]
 exact (HM.out.drew.wrote 1 rfl q5).perm (List.Perm.swap _ _ _)
section
variable {W:World} {g c m:Nat} {b:List Int} {E:Value}
set_option maxRecDepth 20000 in
theorem unf_yes (hlen:b.length=m) (hm0:256≤m) (hm1:m≤65536) (hr:Row W (some ⟨g,0,none⟩) b) (hcap:m≤c)
  (h0:b.getD 0 0=165) (hl:b.getD (m - 1) 0=165) {L:Nat} (hZ:gt (sl b 23 27)=L) (hL:L+64≤m) (hno:crc (sl b 5 (63+L))=gt (sl b 1 5)) :
  Calls Tryz.prog 162 #[.slice (some ⟨g,0,none⟩) m c] W fun e W'=>e=.returned (.tuple #[.agg (pcA (gt (sl b 5 13)) (IntKind.i64.wrap (gt (sl b 13 21))) (gt (sl b 21 22)) (gt (sl b 22 23)) (.slice (some ⟨g,63,none⟩) L (c - 63))),.nilIface])∧∃ K,Mem W W' K:=by
 have hM:Mem W (W.alloc (.cells pc0 pcT)) [(W.heap.size,.cells pc0 pcT (0,0))]:=(Mem.nil W).push1 rfl
 have hr1:Row (W.alloc (.cells pc0 pcT)) (some ⟨g,0,none⟩) b:=row_alloc hr
 have HM:Hid (Mem W (W.alloc (.cells pc0 pcT)) [(W.heap.size,.cells pc0 pcT (0,0))]):=hM
 have hne:W.heap.size≠g:=by
  have:=cell_lt (hr.cellAt 0 (by omega))
  simp only at this
  omega
 generalize hw1:W.alloc (.cells pc0 pcT)=w1 at *
 have c0:=hr1.cellAt 0 (by omega)
 have cl:=hr1.cellAt (m - 1) (by omega)
 simp only [Nat.zero_add] at c0 cl
 have hG:=lget_any (n:=4) (by rw [sl_length _ _ _ (by omega)]) (hr1.sl 23 27 (by omega) (by omega)) (by omega) (c - 23)
 simp only [Nat.zero_add] at hG
 have HG1:Hid (∀ k,Calls Tryz.prog 256 #[.slice (some ⟨g,1,none⟩) 4 (c - 1)] (w1.drewN k) fun e w'=>e=.returned (.int .u64 (gt (sl b 1 5)))∧w1.drewN k=w'):=fun k=>by
  have:=lget_any (n:=4) (by rw [sl_length _ _ _ (by omega)]) (row_drewN (n:=k) (hr1.sl 1 5 (by omega) (by omega))) (by omega) (c - 1)
  simpa only [Nat.zero_add] using this
 have HS1:Hid (∀ k,Calls Tryz.prog 147 #[.slice (some ⟨g,5,none⟩) (63+L - 5) (c - 5)] (w1.drewN k) fun e w'=>e=.returned (.int .u32 (crc (sl b 5 (63+L))))∧w1.drewN k=w'):=fun k=>by
  have:=lsum_any (n:=63+L - 5) (by rw [sl_length _ _ _ (by omega)]) (row_drewN (n:=k) (hr1.sl 5 (63+L) (by omega) (by omega))) (c - 5)
  simpa only [Nat.zero_add] using this
 rw [h0] at c0
 rw [hl] at cl
 rw [hZ] at hG
 have hcr:=crc_range (sl b 5 (63+L)) (sl_bytes hr.bytes _ _)
 have gA:∀ lo hi:Nat,lo≤hi→hi≤b.length→hi - lo≤8→∀ V,Row V (some ⟨g,0,none⟩) b→∀ cc,Calls Tryz.prog 256 #[.slice (some ⟨g,lo,none⟩) (hi - lo) cc] V fun e w'=>e=.returned (.int .u64 (gt (sl b lo hi)))∧V=w':=by
  intro lo hi e1 e2 e3 V hV cc
  have:=lget_any (n:=hi - lo) (by rw [sl_length _ _ _ e2]) (hV.sl lo hi e1 e2) e3 cc
  simpa only [Nat.zero_add] using this
 have HA1:Hid (∀ V,Row V (some ⟨g,0,none⟩) b→Calls Tryz.prog 256 #[.slice (some ⟨g,5,none⟩) 8 (c - 5)] V fun e w'=>e=.returned (.int .u64 (gt (sl b 5 13)))∧V=w'):=fun V hV=>gA 5 13 (by omega) (by omega) (by omega) V hV _
 have HA2:Hid (∀ V,Row V (some ⟨g,0,none⟩) b→Calls Tryz.prog 256 #[.slice (some ⟨g,13,none⟩) 8 (c - 13)] V fun e w'=>e=.returned (.int .u64 (gt (sl b 13 21)))∧V=w'):=fun V hV=>gA 13 21 (by omega) (by omega) (by omega) V hV _
 have HA3:Hid (∀ V,Row V (some ⟨g,0,none⟩) b→Calls Tryz.prog 256 #[.slice (some ⟨g,21,none⟩) 1 (c - 21)] V fun e w'=>e=.returned (.int .u64 (gt (sl b 21 22)))∧V=w'):=fun V hV=>gA 21 22 (by omega) (by omega) (by omega) V hV _
 have HA4:Hid (∀ V,Row V (some ⟨g,0,none⟩) b→Calls Tryz.prog 256 #[.slice (some ⟨g,22,none⟩) 1 (c - 22)] V fun e w'=>e=.returned (.int .u64 (gt (sl b 22 23)))∧V=w'):=fun V hV=>gA 22 23 (by omega) (by omega) (by omega) V hV _
 have r3:=gt_range (sl b 21 22) (sl_bytes hr.bytes _ _)
 have r4:=gt_range (sl b 22 23) (sl_bytes hr.bytes _ _)
 rw [sl_length _ _ _ (by omega)] at r3 r4
 generalize gt (sl b 5 13)=T1 at *
 generalize gt (sl b 13 21)=T2 at *
 generalize gt (sl b 21 22)=T3 at *
 generalize gt (sl b 22 23)=T4 at *
 have w3:IntKind.i64.wrap T3=T3:=by rw [IntKind.wrap_i64];have:=r3.2;have:=r3.1;omega
 have w4:IntKind.i64.wrap T4=T4:=by rw [IntKind.wrap_i64];have:=r4.2;have:=r4.1;omega
 rw [←hno] at HG1
 generalize crc (sl b 5 (63+L))=S at *
 have bn:(S != S)=false:=by simp
 have q23:(23:Int) < c:=by omega
 have q27:(27:Int)≤c:=by omega
 have q1:(1:Int) < c:=by omega
 have q5:(5:Int) < c:=by omega
 have q13:(13:Int) < c:=by omega
 have q21:(21:Int) < c:=by omega
 have q22:(22:Int) < c:=by omega
 have q63:(63:Int) < c:=by omega
 have n5:¬ c=5:=by omega
 have n13:¬ c=13:=by omega
 have n21:¬ c=21:=by omega
 have n22:¬ c=22:=by omega
 have n63:¬ c=63:=by omega
 have i13:(13:Int)≤c:=by omega
 have i21:(21:Int)≤c:=by omega
 have i22:(22:Int)≤c:=by omega
 have i23:(23:Int)≤c:=by omega
 have iL:(63:Int)+L≤c:=by omega
 have iL0:(0:Int)≤63+L:=by omega
 have iL1:(63:Int)≤63+L:=by omega
 have iL2:((63:Int)+L).toNat=63+L:=by omega
 have qm:(0:Int) < m:=by omega
 have qm1:((m:Int) - 1).toNat=m - 1:=by omega
 have qw:IntKind.i64.wrap ((m:Int) - 1)=(m:Int) - 1:=by rw [IntKind.wrap_i64];omega
 have qm2:IntKind.u64.wrap ((m:Int) - 64)=(m:Int) - 64:=wraps_u64 _ (by omega) (by omega)
 have qz:¬ ((m:Int) - 64 < (L:Int)):=by omega
 obtain ⟨hcr0,hcr1⟩:=hcr
 have HR:Hid (Row w1 (some ⟨g,0,none⟩) b):=hr1
 clear hM hr hr1 hno h0 hl hZ r3 r4 gA
 go_enter Tryz.func162,Tryz.ntmps162
 go_wp2_with fail
 refine hG.mono ?_
 rintro e w' ⟨rfl,rfl⟩
 go_upto_region 5 with fail
 go_quiet (first | (go_at_call 147;exact quiet_eq (HS1.out _)) | (go_at_call 256;exact quiet_eq (HG1.out _)))
 go_upto_region 7 with fail
 refine wp_letter (fun V=>Mem W V [(W.heap.size,.cells pc0 pcT (0,0))]∧Row V (some ⟨g,0,none⟩) b) ⟨HM.out.drewN _,row_drewN HR.out⟩ ?_
 rintro wx ⟨hMx,hrx⟩
 have kr:=hMx.cell 0 rfl
 have kf:=hMx.free 0 rfl
 have HMx:Hid (Mem W wx [(W.heap.size,.cells pc0 pcT (0,0))]):=hMx
 clear hMx HM HS1 HG1 hG c0 cl HR hw1
 go_region_held3 (fun w'=>Row w' (some ⟨g,0,none⟩) b) (repeat (first | assumption | refine Row.setCell ?_ hne _ | refine row_drewN ?_ | refine row_drew ?_))
  (first
   | (go_at_call 256;with_reducible refine (HA1.out _ (by assumption)).mono ?_;rintro e w5 ⟨rfl,rfl⟩)
   | (go_at_call 256;with_reducible refine (HA2.out _ (by assumption)).mono ?_;rintro e w5 ⟨rfl,rfl⟩)
   | (go_at_call 256;with_reducible refine (HA3.out _ (by assumption)).mono ?_;rintro e w5 ⟨rfl,rfl⟩)
   | (go_at_call 256;with_reducible refine (HA4.out _ (by assumption)).mono ?_;rintro e w5 ⟨rfl,rfl⟩))
 all_goals go_wp2
 exact bodyPost_ret (v:=.tuple #[.agg (pcA T1 (IntKind.i64.wrap T2) T3 T4 (.slice (some ⟨g,63,none⟩) L (c - 63))),.nilIface]) (by simp [results,Tryz.results162,go_sem,kr]) rfl ⟨rfl,_,(((((HMx.out.set 0 rfl 0 _).set 0 rfl 1 _).set 0 rfl 2 _).set 0 rfl 3 _).set 0 rfl 4 _).drew⟩
end
def unfV (g c:Nat) (E:Value):Option Pc→Value
 | none=>.tuple #[.agg pc0,E]
 | some p=>.tuple #[.agg (pcA p.t p.c p.i p.n (.slice (some ⟨g,63,none⟩) p.b.length (c - 63))),.nilIface]
theorem unf_facts {b:List Int} {p:Pc} {m:Nat} (h:unf b=some p) (hlen:b.length=m) (hm0:256≤m) (hb:IsBytes b) :
  p.b=sl b 63 (63+p.b.length)∧p.b.length+64≤m∧(0≤p.t∧p.t≤18446744073709551615)∧(0≤p.i∧p.i≤255)∧(0≤p.n∧p.n≤255)∧(-9223372036854775808≤p.c∧p.c≤9223372036854775807):=by
 have rg:∀ lo hi k,hi - lo=k→hi≤b.length→0≤gt (sl b lo hi)∧gt (sl b lo hi) < 256 ^ k:=by
  intro lo hi k e1 e2
  have:=gt_range (sl b lo hi) (sl_bytes hb lo hi)
  rwa [sl_length _ _ _ e2,e1] at this
 have r1:=rg 23 27 4 rfl (by omega)
 have r2:=rg 5 13 8 rfl (by omega)
 have r3:=rg 21 22 1 rfl (by omega)
 have r4:=rg 22 23 1 rfl (by omega)
 unfold unf at h
 split at h
 ·cases h
 ·rename_i h1
  split at h
  ·cases h
  ·simp only [Option.some.injEq] at h
   subst h
   have e1:¬ ((b.length:Int) - 64 < gt (sl b 23 27)):=fun e=>h1 (Or.inr (Or.inr e))
   have hL:(sl b 63 (63+(gt (sl b 23 27)).toNat)).length=(gt (sl b 23 27)).toNat:=by rw [sl_length _ _ _ (by omega)];omega
   refine ⟨by simp only [hL],by simp only [hL];omega,?_,?_,?_,?_⟩
   ·have:=r2.2;have:=r2.1;simp only;omega
   ·have:=r3.2;have:=r3.1;simp only;omega
   ·have:=r4.2;have:=r4.1;simp only;omega
   ·simp only;rw [IntKind.wrap_i64];omega
theorem unf_any {W:World} {g c m:Nat} {b:List Int} (hlen:b.length=m) (hm0:256≤m) (hm1:m≤65536) (hr:Row W (some ⟨g,0,none⟩) b) (hcap:m≤c) {t:TypeId} {v:Value} (hgl:W.cell? ⟨0,0,none⟩=some (.iface t v)) :
  Calls Tryz.prog 162 #[.slice (some ⟨g,0,none⟩) m c] W fun e W'=>e=.returned (unfV g c (.iface t v) (unf b))∧∃ K,Mem W W' K:=by
 unfold unf
 rw [hlen]
 by_cases h1:b.getD 0 0≠165∨b.getD (m - 1) 0≠165∨(m:Int) - 64 < gt (sl b 23 27)
 ·rw [if_pos h1]
  exact unf_bad hlen hm0 hm1 hr hcap hgl h1
 ·rw [if_neg h1]
  have e0:b.getD 0 0=165:=Classical.byContradiction fun e=>h1 (Or.inl e)
  have e1:b.getD (m - 1) 0=165:=Classical.byContradiction fun e=>h1 (Or.inr (Or.inl e))
  have e2:¬ ((m:Int) - 64 < gt (sl b 23 27)):=fun e=>h1 (Or.inr (Or.inr e))
  have hz:=(gt_range (sl b 23 27) (sl_bytes hr.bytes _ _)).1
  obtain ⟨k,hk⟩:∃ k:Nat,gt (sl b 23 27)=k:=⟨(gt (sl b 23 27)).toNat,by omega⟩
  by_cases h2:crc (sl b 5 (63+(gt (sl b 23 27)).toNat))≠gt (sl b 1 5)
  ·rw [if_pos h2]
   rw [hk,Int.toNat_natCast] at h2
   exact unf_sum hlen hm0 hm1 hr hcap hgl e0 e1 hk (by omega) h2
  ·rw [if_neg h2]
   have h3:crc (sl b 5 (63+(gt (sl b 23 27)).toNat))=gt (sl b 1 5):=Classical.byContradiction h2
   rw [hk,Int.toNat_natCast] at h3
   have hL:(sl b 63 (63+k)).length=k:=by rw [sl_length _ _ _ (by omega)];omega
   have:=unf_yes hlen hm0 hm1 hr hcap e0 e1 hk (by omega) h3
   simp only [unfV,hk,Int.toNat_natCast,hL]
   exact this
end Go.Proofs.YtdigofgjhaakmaaGreatDoor
namespace Go.Proofs.YtdigofgjhaakmaaGreatDoor
open Go.RowKit
open Sm
open Cf
theorem iwr_TU {w W:World} {v:Value} {l:List Int} {L:List (Nat×Obj)} (h:Out w W v l L) (bo bi ko kw kr ks:Nat) (cw cr cs:Array Value) (p p':Addr) (sv:Value) (xs:List (List Value)) (hx:∀ x∈xs,∃ z,x=[Value.int .u32 z])
  (co:∀ V,Mem w V L→V.cell? ⟨bo,0,none⟩=some (.func (.func ko) #[] #[]))
  (ci:∀ V,Mem w V L→V.cell? ⟨bi,0,none⟩=some (.func (.func kw) #[] cw)∧V.cell? ⟨bi,1,none⟩=some (.func (.func kr) #[] cr)∧V.cell? ⟨bi,2,none⟩=some (.func (.func ks) #[] cs))
  (eo:∀ args V,(callFunc ko args).run Tryz.prog V=.ok (.enter ko args) V) (ho:∀ V,Calls Tryz.prog ko #[.pointer (some p)] V fun e V'=>e=.returned (.pointer (some p'))∧V=V')
  (ew:∀ args V,(callFunc kw args).run Tryz.prog V=.ok (.enter kw args) V)
  (cx:∀ V,Mem w V L→V.cell? p'=some sv) (hrow:∀ V,Mem w V L→Rw V 1 sv xs) (enc:Nat→List Int)
  (hw:∀ i,i < min xs.length 255→∀ ge v l V,Out w V v l ((ge,.cells (xs.getD i []).toArray 33)::L)→l.length+(enc i).length≤1000000000→Calls Tryz.prog kw (#[v,.pointer (some ⟨ge,0,none⟩)]++cw) V fun e V'=>∃ v',e=.returned v'∧Out w V' v' (l++enc i) L)
  (hb:l.length+(cat enc (min xs.length 255)).length≤1000000000) :
  Calls Tryz.prog 296 #[v,.pointer (some p),.pointer (some ⟨bo,0,none⟩),.pointer (some ⟨bi,0,none⟩)] W fun e W'=>∃ v',e=.returned v'∧Out w W' v' (l++cat enc (min xs.length 255)) L:=by
 have c2:=co _ h.mem
 have c3:=cx _ h.mem
 obtain ⟨a,c,rfl,hlc,hcb,ha,-⟩:=hrow _ h.mem
 have CC:=counted_TU W a xs.length c hlc hcb ha
 obtain ⟨n,hn⟩:∃ n,min xs.length 255=n:=⟨_,rfl⟩
 have hn1:n≤255:=by omega
 have hn2:n≤xs.length:=by omega
 rw [hn] at CC hw hb ⊢
 have HO:Hid (Out w W v l L):=h
 have HRW:Hid (∀ V,Mem w V L→∀ i,i < n→∃ b off,a=some ⟨b,off,none⟩∧V.rangeAt b (off+i * 1) (xs.getD i [])):=by
  intro V hV i hi
  obtain ⟨a',c',e,_,_,_,hr⟩:=hrow V hV
  simp only [Value.slice.injEq] at e
  obtain ⟨rfl,-,rfl⟩:=e
  rcases hr with e | ⟨b,off,rfl,hc⟩
  ·rw [e] at hn2;simp at hn2;omega
  ·exact ⟨b,off,rfl,fun j u hj=>hc i (by omega) j u hj⟩
 have HX:Hid (∀ x∈xs,∃ z,x=[Value.int .u32 z]):=hx
 clear h co cx hrow hlc hcb ha hn hx
 go_enter Tryz.func296,Tryz.ntmps296
 go_wp2_with fail
 refine (ho _).mono ?_
 rintro e V ⟨rfl,rfl⟩
 go_wp2_with fail
 refine CC.mono ?_
 rintro e V ⟨rfl,rfl⟩
 go_wp2_with fail
 go_loopw [0,16] (fun u0 u16 w'=>∃ i:Nat,i≤n∧u16=.int .i64 i∧Hid (Out w w' u0 (l++cat enc i) L)) (fun u0 u16 w'=>n - (intOf u16).toNat)
 case atStart=>exact ⟨0,Nat.zero_le _,rfl,by rw [cat,List.append_nil];exact HO⟩
 case round =>
  obtain ⟨i,hi,rfl,HR⟩:=hrel
  clear c2 c3 CC HO
  by_cases hlt:i < n
  ·have h1:(i:Int) < n:=by omega
   obtain ⟨d0,d1,d2⟩:=ci _ HR.out.mem
   obtain ⟨b,off,rfl,hra⟩:=HRW.out _ HR.out.mem i hlt
   have hmem:xs.getD i []∈xs:=by
    rw [List.getD_eq_getElem?_getD,List.getElem?_eq_getElem (by omega),Option.getD_some]
    exact List.getElem_mem _
   have HW:Hid (∀ V ge,Out w V u0 (l++cat enc i) ((ge,.cells (xs.getD i []).toArray 33)::L)→Calls Tryz.prog kw (#[u0,.pointer (some ⟨ge,0,none⟩)]++cw) V fun e V'=>∃ v',e=.returned v'∧Out w V' v' (l++cat enc (i+1)) L):=by
    intro V ge hV
    have:=hw i hlt ge u0 _ V hV (by rw [List.length_append];have:=cat_le enc i n hlt;omega)
    rwa [List.append_assoc] at this
   have hsh:=HX.out _ hmem
   generalize xs.getD i []=x at hra hsh HW
   clear hw hmem HRW HX
   obtain ⟨z,rfl⟩:=hsh
   have d3:wr.cell? ⟨b,off+i,none⟩=some (.int .u32 z):=by have:=hra 0 _ rfl;simpa using this
   have HO2:=HR.out.add (o:=.cells #[.int .u32 z] 33) (g:=wr.heap.size) rfl
   have d5:=(ci _ HO2.mem.sub).1
   go_wp2_with fail
   refine (HW.out _ wr.heap.size HO2).mono ?_
   rintro e V ⟨v',rfl,hH⟩
   have HH:Hid (Out w V v' (l++cat enc (i+1)) L):=hH
   clear hH HW HR HO2
   go_wp2_with fail
   go_roundw
   case rel=>exact ⟨i+1,by omega,by go_num,HH⟩
   case measure=>simp [intOf];omega
  ·have h1:¬ ((i:Int) < n):=by omega
   obtain rfl:i=n:=by omega
   go_wp2_with fail
   go_ret
   exact ⟨_,rfl,HR.out⟩
theorem ird_TU {σ:Type} {w:World} {L:List (Nat×Obj)} {J:σ→World→Prop} (hst:∀ s V V',J s V→Below V.heap.size V V'→J s V') (hJL:∀ s V,J s V→Mem w V L) (bo bi ko kw kr ks:Nat) (cw cr cs:Array Value) (p p':Addr)
  (sa:Option Addr) (n sc:Nat) (hn:n≤255) (hb:Nat) (hsa:0 < n→sa=some ⟨hb,0,none⟩)
  (co:∀ V,Mem w V L→V.cell? ⟨bo,0,none⟩=some (.func (.func ko) #[] #[]))
  (ci:∀ V,Mem w V L→V.cell? ⟨bi,0,none⟩=some (.func (.func kw) #[] cw)∧V.cell? ⟨bi,1,none⟩=some (.func (.func kr) #[] cr)∧V.cell? ⟨bi,2,none⟩=some (.func (.func ks) #[] cs))
  (eo:∀ args V,(callFunc ko args).run Tryz.prog V=.ok (.enter ko args) V) (ho:∀ V,Calls Tryz.prog ko #[.pointer (some p)] V fun e V'=>e=.returned (.pointer (some p'))∧V=V')
  (er:∀ args V,(callFunc kr args).run Tryz.prog V=.ok (.enter kr args) V)
  (dec:Nat→List Int→σ→Option (σ×List Int))
  (hr:∀ i,i < n→∀ s l a c V,J s V→Sl w a l c→Calls Tryz.prog kr (#[.slice a l.length c,.pointer (some ⟨hb,i * 1,none⟩)]++cr) V (RPost w L J (dec i l s)))
  (s:σ) (l:List Int) (a:Option Addr) (c:Nat) (W:World) (h:J s W) (hS:Sl w a l c) (cx:W.cell? p'=some (.slice sa n sc)) :
  Calls Tryz.prog 297 #[.slice a l.length c,.pointer (some p),.pointer (some ⟨bo,0,none⟩),.pointer (some ⟨bi,0,none⟩)] W (RPost w L J (sq dec 0 n l s)):=by
 have c0:=co _ (hJL _ _ h)
 obtain ⟨R,hR⟩:∃ R,sq dec 0 n l s=R:=⟨_,rfl⟩
 rw [hR]
 have HCI:Hid (∀ V,Mem w V L→V.cell? ⟨bi,1,none⟩=some (.func (.func kr) #[] cr)):=fun V hV=>(ci V hV).2.1
 have HJL:Hid (∀ s V,J s V→Mem w V L):=hJL
 clear ci co hJL
 go_enter Tryz.func297,Tryz.ntmps297
 go_wp2_with fail
 refine (ho _).mono ?_
 rintro e V ⟨rfl,rfl⟩
 go_wp2_with fail
 go_loopw [0,19] (fun u0 u19 w'=>∃ (i:Nat) (s':σ) (l':List Int) (a':Option Addr) (c':Nat),i≤n∧u19=.int .i64 i∧u0=.slice a' l'.length c'∧Hid (J s' w'∧Sl w a' l' c'∧sq dec i (n - i) l' s'=R)) (fun u0 u19 w'=>n - (intOf u19).toNat)
 case atStart=>exact ⟨0,s,l,a,c,Nat.zero_le _,rfl,rfl,h,hS,by simpa using hR⟩
 case round =>
  obtain ⟨i,s',l',a',c',hi,rfl,rfl,HR⟩:=hrel
  obtain ⟨hJ,hSl,hsq⟩:=HR.out
  clear c0 cx
  by_cases hlt:i < n
  ·have h1:(i:Int) < n:=by omega
   obtain rfl:=hsa (by omega)
   have d1:=HCI.out _ (HJL.out _ _ hJ)
   have d2:=HCI.out _ (HJL.out _ _ hJ).drew
   have HW:Hid (∀ V,Below wr.heap.size wr V→Calls Tryz.prog kr (#[.slice a' l'.length c',.pointer (some ⟨hb,i * 1,none⟩)]++cr) V (RPost w L J (dec i l' s'))):=fun V hV=>hr i hlt s' l' a' c' V (hst _ _ _ hJ hV) hSl
   rw [show n - i=(n - (i+1))+1 by omega,sq] at hsq
   clear hr hst hJ hSl hR HR h hS
   generalize l'.length=m at HW
   simp only [Nat.mul_one] at HW
   cases hd:dec i l' s' with
   | none =>
    rw [hd] at hsq HW
    simp only at hsq
    subst hsq
    have CW:=HW.out _ ((Below.refl _ wr).drew)
    go_upto_region 5 with fail
    go_region_held3 (fun V=>V.cell? ⟨bi,1,none⟩=some (.func (.func kr) #[] cr)) (first | assumption | exact HCI.out _ hM | go_keep)
     (first | (go_at_fn kr;refine CW.mono ?_;rintro e V ⟨rfl,hM⟩))
    clear HW CW
    go_wp2_with fail
    go_ret2
    exact ⟨rfl,hM⟩
   | some x =>
    obtain ⟨s2,l2⟩:=x
    rw [hd] at hsq HW
    simp only at hsq
    have CW:=HW.out _ ((Below.refl _ wr).drew)
    go_upto_region 5 with fail
    go_region_held3 (fun V=>V.cell? ⟨bi,1,none⟩=some (.func (.func kr) #[] cr)) (first | assumption | exact HCI.out _ (HJL.out _ _ hJ2) | go_keep)
     (first | (go_at_fn kr;refine CW.mono ?_;rintro e V ⟨a2,c2,rfl,hS2,hJ2⟩))
    have HH:Hid (J s2 V∧Sl w a2 l2 c2∧sq dec (i+1) (n - (i+1)) l2 s2=R):=⟨hJ2,hS2,hsq⟩
    clear HW CW hJ2 hS2 hsq hd
    go_wp2_with fail
    go_roundw
    case rel=>exact ⟨i+1,s2,l2,a2,c2,by omega,by go_num,rfl,HH⟩
    case measure=>simp [intOf];omega
  ·have h1:¬ ((i:Int) < n):=by omega
   obtain rfl:i=n:=by omega
   rw [Nat.sub_self,sq] at hsq
   subst hsq
   clear HR
   go_wp2_with fail
   go_ret2
   exact ⟨_,_,rfl,hSl,hJ⟩
theorem iwr_CT {w W:World} {v:Value} {l:List Int} {L:List (Nat×Obj)} (h:Out w W v l L) (bo bi ko kw kr ks:Nat) (cw cr cs:Array Value) (p p':Addr) (sv:Value) (xs:List (List Value)) (hx:∀ x∈xs,x.length=33∧x.toArray.all (·.oneCell')=true)
  (co:∀ V,Mem w V L→V.cell? ⟨bo,0,none⟩=some (.func (.func ko) #[] #[]))
  (ci:∀ V,Mem w V L→V.cell? ⟨bi,0,none⟩=some (.func (.func kw) #[] cw)∧V.cell? ⟨bi,1,none⟩=some (.func (.func kr) #[] cr)∧V.cell? ⟨bi,2,none⟩=some (.func (.func ks) #[] cs))
  (eo:∀ args V,(callFunc ko args).run Tryz.prog V=.ok (.enter ko args) V) (ho:∀ V,Calls Tryz.prog ko #[.pointer (some p)] V fun e V'=>e=.returned (.pointer (some p'))∧V=V')
  (ew:∀ args V,(callFunc kw args).run Tryz.prog V=.ok (.enter kw args) V)
  (cx:∀ V,Mem w V L→V.cell? p'=some sv) (hrow:∀ V,Mem w V L→Rw V 33 sv xs) (enc:Nat→List Int)
  (hw:∀ i,i < min xs.length 255→∀ ge v l V,Out w V v l ((ge,.cells (xs.getD i []).toArray 46)::L)→l.length+(enc i).length≤1000000000→Calls Tryz.prog kw (#[v,.pointer (some ⟨ge,0,none⟩)]++cw) V fun e V'=>∃ v',e=.returned v'∧Out w V' v' (l++enc i) L)
  (hb:l.length+(cat enc (min xs.length 255)).length≤1000000000) :
  Calls Tryz.prog 222 #[v,.pointer (some p),.pointer (some ⟨bo,0,none⟩),.pointer (some ⟨bi,0,none⟩)] W fun e W'=>∃ v',e=.returned v'∧Out w W' v' (l++cat enc (min xs.length 255)) L:=by
 have c2:=co _ h.mem
 have c3:=cx _ h.mem
 obtain ⟨a,c,rfl,hlc,hcb,ha,-⟩:=hrow _ h.mem
 have CC:=counted_CT W a xs.length c hlc hcb ha
 obtain ⟨n,hn⟩:∃ n,min xs.length 255=n:=⟨_,rfl⟩
 have hn1:n≤255:=by omega
 have hn2:n≤xs.length:=by omega
 rw [hn] at CC hw hb ⊢
 have HO:Hid (Out w W v l L):=h
 have HRW:Hid (∀ V,Mem w V L→∀ i,i < n→∃ b off,a=some ⟨b,off,none⟩∧V.rangeAt b (off+i * 33) (xs.getD i [])):=by
  intro V hV i hi
  obtain ⟨a',c',e,_,_,_,hr⟩:=hrow V hV
  simp only [Value.slice.injEq] at e
  obtain ⟨rfl,-,rfl⟩:=e
  rcases hr with e | ⟨b,off,rfl,hc⟩
  ·rw [e] at hn2;simp at hn2;omega
  ·exact ⟨b,off,rfl,fun j u hj=>hc i (by omega) j u hj⟩
 have HX:Hid (∀ x∈xs,x.length=33∧x.toArray.all (·.oneCell')=true):=hx
 clear h co cx hrow hlc hcb ha hn hx
 go_enter Tryz.func222,Tryz.ntmps222
 go_wp2_with fail
 refine (ho _).mono ?_
 rintro e V ⟨rfl,rfl⟩
 go_wp2_with fail
 refine CC.mono ?_
 rintro e V ⟨rfl,rfl⟩
 go_wp2_with fail
 go_loopw [0,16] (fun u0 u16 w'=>∃ i:Nat,i≤n∧u16=.int .i64 i∧Hid (Out w w' u0 (l++cat enc i) L)) (fun u0 u16 w'=>n - (intOf u16).toNat)
 case atStart=>exact ⟨0,Nat.zero_le _,rfl,by rw [cat,List.append_nil];exact HO⟩
 case round =>
  obtain ⟨i,hi,rfl,HR⟩:=hrel
  clear c2 c3 CC HO
  by_cases hlt:i < n
  ·have h1:(i:Int) < n:=by omega
   obtain ⟨d0,d1,d2⟩:=ci _ HR.out.mem
   obtain ⟨b,off,rfl,hra⟩:=HRW.out _ HR.out.mem i hlt
   have hmem:xs.getD i []∈xs:=by
    rw [List.getD_eq_getElem?_getD,List.getElem?_eq_getElem (by omega),Option.getD_some]
    exact List.getElem_mem _
   have HW:Hid (∀ V ge,Out w V u0 (l++cat enc i) ((ge,.cells (xs.getD i []).toArray 46)::L)→Calls Tryz.prog kw (#[u0,.pointer (some ⟨ge,0,none⟩)]++cw) V fun e V'=>∃ v',e=.returned v'∧Out w V' v' (l++cat enc (i+1)) L):=by
    intro V ge hV
    have:=hw i hlt ge u0 _ V hV (by rw [List.length_append];have:=cat_le enc i n hlt;omega)
    rwa [List.append_assoc] at this
   have hsh:=HX.out _ hmem
   generalize xs.getD i []=x at hra hsh HW
   clear hw hmem HRW HX
   obtain ⟨hsz,hone⟩:=hsh
   have hi33:(Tryz.prog.info? 46).map (·.size)=some x.length:=by rw [hsz];kernel_rfl
   have hi34:(Tryz.prog.info? 46).map (·.size)=some x.toArray.size:=by rw [List.size_toArray];exact hi33
   have HO2:=HR.out.add (o:=.cells x.toArray 46) (g:=wr.heap.size) rfl
   have d5:=(ci _ HO2.mem.sub).1
   go_upto_region 4 with (first | (refine wpList_load_mid rfl 46 (.tmp 18) (by with_reducible rfl) b (off+i * 33) (by simp [Act.eval]) x _ hra Tryz.underlying46 rfl hi33 ?_) | (refine wpList_store_row rfl 46 (.tmp 8) (.tmp 19) (by with_reducible rfl) wr.heap.size x.toArray (by simp [Act.eval]) (by simp [Act.eval]) 46 (tc ten0 nilV nilV nilV).toArray (heap_alloc_new wr _) hi34 (by rw [List.size_toArray,List.size_toArray,hsz];rfl) hone ?_))
   refine wp_letter (fun V=>V=wr.alloc (.cells x.toArray 46)) (by exact World.setRow_alloc_new ..) ?_
   rintro V rfl
   go_wp2_with fail
   refine (HW.out _ wr.heap.size HO2).mono ?_
   rintro e V ⟨v',rfl,hH⟩
   have HH:Hid (Out w V v' (l++cat enc (i+1)) L):=hH
   clear hH HW HR HO2
   go_wp2_with fail
   go_roundw
   case rel=>exact ⟨i+1,by omega,by go_num,HH⟩
   case measure=>simp [intOf];omega
  ·have h1:¬ ((i:Int) < n):=by omega
   obtain rfl:i=n:=by omega
   go_wp2_with fail
   go_ret
   exact ⟨_,rfl,HR.out⟩
theorem ird_CT {σ:Type} {w:World} {L:List (Nat×Obj)} {J:σ→World→Prop} (hst:∀ s V V',J s V→Below V.heap.size V V'→J s V') (hJL:∀ s V,J s V→Mem w V L) (bo bi ko kw kr ks:Nat) (cw cr cs:Array Value) (p p':Addr)
  (sa:Option Addr) (n sc:Nat) (hn:n≤255) (hb:Nat) (hsa:0 < n→sa=some ⟨hb,0,none⟩)
  (co:∀ V,Mem w V L→V.cell? ⟨bo,0,none⟩=some (.func (.func ko) #[] #[]))
  (ci:∀ V,Mem w V L→V.cell? ⟨bi,0,none⟩=some (.func (.func kw) #[] cw)∧V.cell? ⟨bi,1,none⟩=some (.func (.func kr) #[] cr)∧V.cell? ⟨bi,2,none⟩=some (.func (.func ks) #[] cs))
  (eo:∀ args V,(callFunc ko args).run Tryz.prog V=.ok (.enter ko args) V) (ho:∀ V,Calls Tryz.prog ko #[.pointer (some p)] V fun e V'=>e=.returned (.pointer (some p'))∧V=V')
  (er:∀ args V,(callFunc kr args).run Tryz.prog V=.ok (.enter kr args) V)
  (dec:Nat→List Int→σ→Option (σ×List Int))
  (hr:∀ i,i < n→∀ s l a c V,J s V→Sl w a l c→Calls Tryz.prog kr (#[.slice a l.length c,.pointer (some ⟨hb,i * 33,none⟩)]++cr) V (RPost w L J (dec i l s)))
  (s:σ) (l:List Int) (a:Option Addr) (c:Nat) (W:World) (h:J s W) (hS:Sl w a l c) (cx:W.cell? p'=some (.slice sa n sc)) :
  Calls Tryz.prog 223 #[.slice a l.length c,.pointer (some p),.pointer (some ⟨bo,0,none⟩),.pointer (some ⟨bi,0,none⟩)] W (RPost w L J (sq dec 0 n l s)):=by
 have c0:=co _ (hJL _ _ h)
 obtain ⟨R,hR⟩:∃ R,sq dec 0 n l s=R:=⟨_,rfl⟩
 rw [hR]
 have HCI:Hid (∀ V,Mem w V L→V.cell? ⟨bi,1,none⟩=some (.func (.func kr) #[] cr)):=fun V hV=>(ci V hV).2.1
 have HJL:Hid (∀ s V,J s V→Mem w V L):=hJL
 clear ci co hJL
 go_enter Tryz.func223,Tryz.ntmps223
 go_wp2_with fail
 refine (ho _).mono ?_
 rintro e V ⟨rfl,rfl⟩
 go_wp2_with fail
 go_loopw [0,19] (fun u0 u19 w'=>∃ (i:Nat) (s':σ) (l':List Int) (a':Option Addr) (c':Nat),i≤n∧u19=.int .i64 i∧u0=.slice a' l'.length c'∧Hid (J s' w'∧Sl w a' l' c'∧sq dec i (n - i) l' s'=R)) (fun u0 u19 w'=>n - (intOf u19).toNat)
 case atStart=>exact ⟨0,s,l,a,c,Nat.zero_le _,rfl,rfl,h,hS,by simpa using hR⟩
 case round =>
  obtain ⟨i,s',l',a',c',hi,rfl,rfl,HR⟩:=hrel
  obtain ⟨hJ,hSl,hsq⟩:=HR.out
  clear c0 cx
  by_cases hlt:i < n
  ·have h1:(i:Int) < n:=by omega
   obtain rfl:=hsa (by omega)
   have d1:=HCI.out _ (HJL.out _ _ hJ)
   have d2:=HCI.out _ (HJL.out _ _ hJ).drew
   have HW:Hid (∀ V,Below wr.heap.size wr V→Calls Tryz.prog kr (#[.slice a' l'.length c',.pointer (some ⟨hb,i * 33,none⟩)]++cr) V (RPost w L J (dec i l' s'))):=fun V hV=>hr i hlt s' l' a' c' V (hst _ _ _ hJ hV) hSl
   rw [show n - i=(n - (i+1))+1 by omega,sq] at hsq
   clear hr hst hJ hSl hR HR h hS
   generalize l'.length=m at HW
   cases hd:dec i l' s' with
   | none =>
    rw [hd] at hsq HW
    simp only at hsq
    subst hsq
    have CW:=HW.out _ ((Below.refl _ wr).drew)
    go_upto_region 5 with fail
    go_region_held3 (fun V=>V.cell? ⟨bi,1,none⟩=some (.func (.func kr) #[] cr)) (first | assumption | exact HCI.out _ hM | go_keep)
     (first | (go_at_fn kr;refine CW.mono ?_;rintro e V ⟨rfl,hM⟩))
    clear HW CW
    go_wp2_with fail
    go_ret2
    exact ⟨rfl,hM⟩
   | some x =>
    obtain ⟨s2,l2⟩:=x
    rw [hd] at hsq HW
    simp only at hsq
    have CW:=HW.out _ ((Below.refl _ wr).drew)
    go_upto_region 5 with fail
    go_region_held3 (fun V=>V.cell? ⟨bi,1,none⟩=some (.func (.func kr) #[] cr)) (first | assumption | exact HCI.out _ (HJL.out _ _ hJ2) | go_keep)
     (first | (go_at_fn kr;refine CW.mono ?_;rintro e V ⟨a2,c2,rfl,hS2,hJ2⟩))
    have HH:Hid (J s2 V∧Sl w a2 l2 c2∧sq dec (i+1) (n - (i+1)) l2 s2=R):=⟨hJ2,hS2,hsq⟩
    clear HW CW hJ2 hS2 hsq hd
    go_wp2_with fail
    go_roundw
    case rel=>exact ⟨i+1,s2,l2,a2,c2,by omega,by go_num,rfl,HH⟩
    case measure=>simp [intOf];omega
  ·have h1:¬ ((i:Int) < n):=by omega
   obtain rfl:i=n:=by omega
   rw [Nat.sub_self,sq] at hsq
   subst hsq
   clear HR
   go_wp2_with fail
   go_ret2
   exact ⟨_,_,rfl,hSl,hJ⟩
def fvAll_P (cb:Nat):Fv:=⟨318,319,320,#[.pointer (some ⟨cb,0,none⟩)],#[.pointer (some ⟨cb,0,none⟩)],#[.pointer (some ⟨cb,0,none⟩)]⟩
theorem fd_all_P {α ρ:Type} {w:World} {L:List (Nat×Obj)} {I:Rp α ρ} {J:St' α} (cb lb n:Nat) (fs:List Fv) (ss:List (Sp α)) (hn:fs.length=n) (hn2:n≤1000)
  (mc:(cb,.cells #[.slice (some ⟨lb,0,none⟩) n n] 338)∈L) (ml:(lb,.cells (fs.flatMap Fv.cells).toArray 315)∈L)
  (hfs:FdAll w L I J fs ss) (hst:∀ x g T pre post V V' K,J w x g T pre post V K→Below V.heap.size V V'→J w x g T pre post V' K) (hJM:∀ x g T pre post V K,J w x g T pre post V K→Mem w V K) :
  Fd w L I J (fvAll_P cb) (spAll ss):=by
 have hss:ss.length=n:=by rw [←hfs.len];exact hn
 have hcell:∀ K,Sub L K→∀ V,Mem w V K→V.cell? ⟨cb,0,none⟩=some (.slice (some ⟨lb,0,none⟩) n n):=fun K hK V hV=>by rw [mem_box hV (hK _ mc)];rfl
 have hcells:∀ K,Sub L K→∀ V,Mem w V K→∀ i,i < n→V.cell? ⟨lb,i * 3,none⟩=some (.func (.func (fs.getD i fv0).kw) #[] (fs.getD i fv0).cw) ∧
   V.cell? ⟨lb,i * 3+1,none⟩=some (.func (.func (fs.getD i fv0).kr) #[] (fs.getD i fv0).cr)∧V.cell? ⟨lb,i * 3+2,none⟩=some (.func (.func (fs.getD i fv0).ks) #[] (fs.getD i fv0).cs):=by
  intro K hK V hV i hi
  obtain ⟨h1,h2,h3⟩:=flat_get fs i (by omega)
  refine ⟨?_,?_,?_⟩
  ·rw [mem_box hV (hK _ ml)];simpa using h1
  ·rw [mem_box hV (hK _ ml)];simpa using h2
  ·rw [mem_box hV (hK _ ml)];simpa using h3
 refine ⟨enters_of Tryz.func318 (by kernel_rfl) rfl,enters_of Tryz.func319 (by kernel_rfl) rfl,enters_of Tryz.func320 (by kernel_rfl) rfl,?_,?_,?_⟩
 ·intro K hK x r g off hx v l V hO hb
  have:=awr_P (H:=fun v l V=>Out w V v l K) (fun v l V V' h hB=>h.after hB) ⟨g,off,none⟩ cb lb n hn2 (fun i=>(fs.getD i fv0).kw) (fun i=>(fs.getD i fv0).kr) (fun i=>(fs.getD i fv0).ks) (fun i=>(fs.getD i fv0).cw) (fun i=>(fs.getD i fv0).cr) (fun i=>(fs.getD i fv0).cs)
   (fun v l V h=>hcell K hK V h.mem) (fun v l V h=>hcells K hK V h.mem) (fun i=>(ss.getD i sp0).enc x) (fun i hi=>(hfs.at_ i (by omega)).ew) (fun i hi v l V h hb=>(hfs.at_ i (by omega)).wr K hK x r g off hx v l V h hb) v l V hO (by simp only [spAll,hss] at hb;exact hb)
  simp only [spAll,hss]
  exact this
 ·intro K hK x g T pre post a l c V hj hS
  have:=ard_P (w:=w) (L:=K) (J:=fun y V=>J w y g T pre post V K) (fun y V V' h hB=>hst y g T pre post V V' K h hB) ⟨g,pre.length,none⟩ cb lb n hn2 (fun i=>(fs.getD i fv0).kw) (fun i=>(fs.getD i fv0).kr) (fun i=>(fs.getD i fv0).ks) (fun i=>(fs.getD i fv0).cw) (fun i=>(fs.getD i fv0).cr) (fun i=>(fs.getD i fv0).cs)
   (fun y V h=>hcell K hK V (hJM _ _ _ _ _ _ _ h)) (fun y V h=>hcells K hK V (hJM _ _ _ _ _ _ _ h)) (fun i=>(ss.getD i sp0).dec) (fun i hi=>(hfs.at_ i (by omega)).er) (fun i hi y l a c V h hS=>(hfs.at_ i (by omega)).rd K hK y g T pre post a l c V h hS) x l a c V hj hS
  simp only [spAll,hss]
  exact this
 ·intro K hK x y r r' g off h of' hx V hV
  have:=asm_P (M:=fun V=>Mem w V K) (fun V V' h hB=>h.after hB) ⟨g,off,none⟩ ⟨h,of',none⟩ cb lb n hn2 (fun i=>(fs.getD i fv0).kw) (fun i=>(fs.getD i fv0).kr) (fun i=>(fs.getD i fv0).ks) (fun i=>(fs.getD i fv0).cw) (fun i=>(fs.getD i fv0).cr) (fun i=>(fs.getD i fv0).cs)
   (fun V h=>hcell K hK V h) (fun V h=>hcells K hK V h) (fun i=>(ss.getD i sp0).eq x y) (fun i hi=>(hfs.at_ i (by omega)).es) (fun i hi V hV=>(hfs.at_ i (by omega)).sm K hK x y r r' g off h of' hx V hV) V hV
  simp only [spAll,hss]
  exact this
theorem mk_all_P {w W:World} {L:List (Nat×Obj)} (h:Mem w W L) (lb n:Nat) :
  Calls Tryz.prog 308 #[.slice (some ⟨lb,0,none⟩) n n] W fun e W'=>∃ cb,e=.returned (fvAll_P cb).val∧Mem w W' ((cb,.cells #[.slice (some ⟨lb,0,none⟩) n n] 338)::L):=by
 have hM:Mem w (W.alloc (.cells #[.slice (some ⟨lb,0,none⟩) n n] 338)) ((W.heap.size,.cells #[.slice (some ⟨lb,0,none⟩) n n] 338)::L):=(h.push W.heap.size (.cells #[.slice (some ⟨lb,0,none⟩) n n] 338) rfl).perm List.perm_append_comm
 have hmf:∀ (fn:Fn) (first cap:Array Value) (w:World),(Instr.makeFunc fn first cap).run Tryz.prog w=.ok (.func fn first cap) w:=fun _ _ _ _=>rfl
 have HM:Hid (Mem w (W.alloc (.cells #[.slice (some ⟨lb,0,none⟩) n n] 338)) ((W.heap.size,.cells #[.slice (some ⟨lb,0,none⟩) n n] 338)::L)):=hM
 clear hM h
 go_enter Tryz.func308,Tryz.ntmps308
 go_wp2_with fail
 refine bodyPost_ret (v:=(fvAll_P W.heap.size).val) ?_ rfl ⟨_,rfl,HM.out.after ((Below.refl _ _).alloc (Nat.le_refl _) _)⟩
 exact results_cell_row (p:=2) (ty:=315) rfl _ _ (W.heap.size+1) 315 _ (0,0) _ rfl (heap_alloc2_new _ _ _) Tryz.underlying315 rfl (by kernel_rfl)
def fvNum_TI (bs bo:Nat):Fv:=⟨285,286,287,#[.pointer (some ⟨bs,0,none⟩),.pointer (some ⟨bo,0,none⟩)],#[.pointer (some ⟨bs,0,none⟩),.pointer (some ⟨bo,0,none⟩)],#[.pointer (some ⟨bo,0,none⟩)]⟩
theorem fd_num_TI {α ρ:Type} {w:World} {L:List (Nat×Obj)} {I:Rp α ρ} {J:St' α} (bs bo sz ko o:Nat) (hs:sz≤4) (fits:∀ q,0≤q→q < 256 ^ sz→IntKind.i64.wrap q=q) (fg:α→Int) (fs:α→Int→α)
  (mb:(bs,.cells #[.int .i64 sz] 3)∈L) (mo:(bo,.cells #[.func (.func ko) #[] #[]] 300)∈L)
  (eo:Ent ko) (ho:∀ V g off,Calls Tryz.prog ko #[.pointer (some ⟨g,off,none⟩)] V fun e V'=>e=.returned (.pointer (some ⟨g,off+o,none⟩))∧V=V')
  (hI:∀ x r V g off,I x r V g off→V.cell? ⟨g,off+o,none⟩=some (.int .i64 (fg x)))
  (hJ:∀ x g T pre post V K,J w x g T pre post V K→∃ A M,Lens w J o x g T pre post V K M A∧A[pre.length+o]? = some (.int .i64 (fg x)) ∧
   ∀ y V',Mem w V' ((g,.cells (A.setIfInBounds (pre.length+o) (.int .i64 y)) T (0,0))::M)→J w (fs x y) g T pre post V' K) :
  Fd w L I J (fvNum_TI bs bo) (spNum sz fg fs):=by
 refine ⟨enters_of Tryz.func285 (by kernel_rfl) rfl,enters_of Tryz.func286 (by kernel_rfl) rfl,enters_of Tryz.func287 (by kernel_rfl) rfl,?_,?_,?_⟩
 ·intro K hK x r g off hx v l V hO hb
  have hb':l.length+sz≤1000000000:=by simpa [spNum,be_len] using hb
  have:=nwr_TI hO bs bo sz ko ⟨g,off,none⟩ ⟨g,off+o,none⟩ (fg x) (by omega) (fun V hV=>by rw [mem_box hV (hK _ mb)];rfl) (fun V hV=>by rw [mem_box hV (hK _ mo)];rfl) eo (fun V=>ho V g off) (fun V hV=>hI _ _ _ _ _ (hx V hV)) hb'
  rw [be_wrap sz (by omega)] at this
  exact this
 ·intro K hK x g T pre post a l c V hj hS
  obtain ⟨A,M,hl,hA,hset⟩:=hJ x g T pre post V K hj
  have:=nrd_TI hl.mem hS bs bo sz ko (pre.length+o) ⟨g,pre.length,none⟩ (fg x) hs fits hA (fun V hV=>by rw [mem_box hV (hl.sub _ (hK _ mb))];rfl) (fun V hV=>by rw [mem_box hV (hl.sub _ (hK _ mo))];rfl) eo (fun V=>ho V g pre.length)
  refine this.mono ?_
  intro e V' hR
  refine hR.mono (fs x) ?_ (hl.back V') (fun y hy=>hset y V' hy)
  simp only [spNum]
  split <;> rfl
 ·intro K hK x y r r' g off h of' hx V hV
  exact nsm_TI hV bo ko ⟨g,off,none⟩ ⟨g,off+o,none⟩ ⟨h,of',none⟩ ⟨h,of'+o,none⟩ (fg x) (fg y) (fun V hV=>by rw [mem_box hV (hK _ mo)];rfl) eo (fun V=>ho V g off) (fun V=>ho V h of') (fun V hV=>hI _ _ _ _ _ (hx V hV).1) (fun V hV=>hI _ _ _ _ _ (hx V hV).2)
theorem mk_num_TI {w W:World} {L:List (Nat×Obj)} (h:Mem w W L) (sz ko:Nat) :
  Calls Tryz.prog 243 #[.int .i64 sz,.func (.func ko) #[] #[]] W fun e W'=>∃ bs bo,e=.returned (fvNum_TI bs bo).val∧Mem w W' ((bs,.cells #[.int .i64 sz] 3)::(bo,.cells #[.func (.func ko) #[] #[]] 300)::L):=by
 have hM:Mem w ((W.alloc (.cells #[.int .i64 sz] 3)).alloc (.cells #[.func (.func ko) #[] #[]] 300)) ((W.heap.size,.cells #[.int .i64 sz] 3)::(W.heap.size+1,.cells #[.func (.func ko) #[] #[]] 300)::L):=by
  have h1:=(h.push W.heap.size (.cells #[.int .i64 sz] 3) rfl).push (W.heap.size+1) (.cells #[.func (.func ko) #[] #[]] 300) (by simp)
  refine h1.perm ?_
  rw [List.append_assoc]
  exact List.perm_append_comm
 have hmf:∀ (fn:Fn) (first cap:Array Value) (w:World),(Instr.makeFunc fn first cap).run Tryz.prog w=.ok (.func fn first cap) w:=fun _ _ _ _=>rfl
 have HM:Hid (Mem w ((W.alloc (.cells #[.int .i64 sz] 3)).alloc (.cells #[.func (.func ko) #[] #[]] 300)) ((W.heap.size,.cells #[.int .i64 sz] 3)::(W.heap.size+1,.cells #[.func (.func ko) #[] #[]] 300)::L)):=hM
 clear hM h
 go_enter Tryz.func243,Tryz.ntmps243
 go_wp2_with fail
 refine bodyPost_ret (v:=(fvNum_TI W.heap.size (W.heap.size+1)).val) ?_ rfl ⟨_,_,rfl,HM.out.after ((Below.refl _ _).alloc (Nat.le_refl _) _)⟩
 exact results_cell_row (p:=4) (ty:=246) rfl _ _ (W.heap.size+1+1) 246 _ (0,0) _ rfl (heap_alloc3_new _ _ _ _) Tryz.underlying246 rfl (by kernel_rfl)
def fvOct_C (bo:Nat):Fv:=⟨214,215,216,#[.pointer (some ⟨bo,0,none⟩)],#[.pointer (some ⟨bo,0,none⟩)],#[.pointer (some ⟨bo,0,none⟩)]⟩
theorem fd_Oct_C {α ρ:Type} {w:World} {L:List (Nat×Obj)} {I:Rp α ρ} {J:St' α} (bo n ko o:Nat) (hn:n≤8) (hn0:0 < n) (fg:α→List Int) (fs:α→List Int→α)
  (mo:(bo,.cells #[.func (.func ko) #[] #[]] 239)∈L)
  (eo:Ent ko) (ho:∀ V g off,Calls Tryz.prog ko #[.pointer (some ⟨g,off,none⟩)] V fun e V'=>e=.returned (.slice (some ⟨g,off+o,none⟩) n n)∧V=V')
  (hI:∀ x r V g off,I x r V g off→(fg x).length=n∧Row V (some ⟨g,off+o,none⟩) (fg x))
  (hJ:∀ x g T pre post V K,J w x g T pre post V K→∃ A M,Lens w J o x g T pre post V K M A∧pre.length+o+n≤A.size ∧
   ∀ y V',y.length=n→IsBytes y→Mem w V' ((g,.cells (spl A (pre.length+o) y) T (0,0))::M)→J w (fs x y) g T pre post V' K) :
  Fd w L I J (fvOct_C bo) (spOct n fg fs):=by
 refine ⟨enters_of Tryz.func214 (by kernel_rfl) rfl,enters_of Tryz.func215 (by kernel_rfl) rfl,enters_of Tryz.func216 (by kernel_rfl) rfl,?_,?_,?_⟩
 ·intro K hK x r g off hx v l V hO hb
  obtain ⟨hl,-⟩:=hI _ _ _ _ _ (hx V hO.mem)
  exact owr_C hO bo ko n ⟨g,off,none⟩ ⟨g,off+o,none⟩ (fg x) hl (fun V hV=>by rw [mem_box hV (hK _ mo)];rfl) eo (fun V=>ho V g off) (fun V hV=>(hI _ _ _ _ _ (hx V hV)).2) (by rw [←hl];exact hb)
 ·intro K hK x g T pre post a l c V hj hS
  obtain ⟨A,M,hl,hA,hset⟩:=hJ x g T pre post V K hj
  have:=ord_C hl.mem hS bo n ko (pre.length+o) ⟨g,pre.length,none⟩ hn hn0 hA (fun V hV=>by rw [mem_box hV (hl.sub _ (hK _ mo))];rfl) eo (fun V=>ho V g pre.length)
  refine this.mono ?_
  intro e V' hR
  refine hR.mono2 (fs x) ?_ (hl.back V') (fun y l' hy hm=>?_)
  ·simp only [spOct]
   split <;> rfl
  ·by_cases hlt:l.length < n
   ·rw [if_pos hlt] at hy;cases hy
   ·rw [if_neg hlt] at hy
    simp only [Option.some.injEq,Prod.mk.injEq] at hy
    obtain ⟨rfl,rfl⟩:=hy
    exact hset _ V' (by rw [List.length_take];omega) (bytes_tk hS.row.bytes n) hm
 ·intro K hK x y r r' g off h of' hx V hV
  obtain ⟨hl,-⟩:=hI _ _ _ _ _ (hx V hV).1
  obtain ⟨hl2,-⟩:=hI _ _ _ _ _ (hx V hV).2
  exact osm_C hV bo ko n ⟨g,off,none⟩ ⟨g,off+o,none⟩ ⟨h,of',none⟩ ⟨h,of'+o,none⟩ (fg x) (fg y) hl hl2 (fun V hV=>by rw [mem_box hV (hK _ mo)];rfl) eo (fun V=>ho V g off) (fun V=>ho V h of') (fun V hV=>(hI _ _ _ _ _ (hx V hV).1).2) (fun V hV=>(hI _ _ _ _ _ (hx V hV).2).2)
theorem mk_Oct_C {w W:World} {L:List (Nat×Obj)} (h:Mem w W L) (ko:Nat) :
  Calls Tryz.prog 152 #[.func (.func ko) #[] #[]] W fun e W'=>∃ bo,e=.returned (fvOct_C bo).val∧Mem w W' ((bo,.cells #[.func (.func ko) #[] #[]] 239)::L):=by
 have hM:Mem w (W.alloc (.cells #[.func (.func ko) #[] #[]] 239)) ((W.heap.size,.cells #[.func (.func ko) #[] #[]] 239)::L):=(h.push W.heap.size (.cells #[.func (.func ko) #[] #[]] 239) rfl).perm List.perm_append_comm
 have hmf:∀ (fn:Fn) (first cap:Array Value) (w:World),(Instr.makeFunc fn first cap).run Tryz.prog w=.ok (.func fn first cap) w:=fun _ _ _ _=>rfl
 have HM:Hid (Mem w (W.alloc (.cells #[.func (.func ko) #[] #[]] 239)) ((W.heap.size,.cells #[.func (.func ko) #[] #[]] 239)::L)):=hM
 clear hM h
 go_enter Tryz.func152,Tryz.ntmps152
 go_wp2_with fail
 refine bodyPost_ret (v:=(fvOct_C W.heap.size).val) ?_ rfl ⟨_,rfl,HM.out.after ((Below.refl _ _).alloc (Nat.le_refl _) _)⟩
 exact results_cell_row (p:=2) (ty:=189) rfl _ _ (W.heap.size+1) 189 _ (0,0) _ rfl (heap_alloc2_new _ _ _) Tryz.underlying189 rfl (by kernel_rfl)
def fvAll_C (cb:Nat):Fv:=⟨205,206,207,#[.pointer (some ⟨cb,0,none⟩)],#[.pointer (some ⟨cb,0,none⟩)],#[.pointer (some ⟨cb,0,none⟩)]⟩
theorem mk_all_C {w W:World} {L:List (Nat×Obj)} (h:Mem w W L) (lb n:Nat) :
  Calls Tryz.prog 149 #[.slice (some ⟨lb,0,none⟩) n n] W fun e W'=>∃ cb,e=.returned (fvAll_C cb).val∧Mem w W' ((cb,.cells #[.slice (some ⟨lb,0,none⟩) n n] 248)::L):=by
 have hM:Mem w (W.alloc (.cells #[.slice (some ⟨lb,0,none⟩) n n] 248)) ((W.heap.size,.cells #[.slice (some ⟨lb,0,none⟩) n n] 248)::L):=(h.push W.heap.size (.cells #[.slice (some ⟨lb,0,none⟩) n n] 248) rfl).perm List.perm_append_comm
 have hmf:∀ (fn:Fn) (first cap:Array Value) (w:World),(Instr.makeFunc fn first cap).run Tryz.prog w=.ok (.func fn first cap) w:=fun _ _ _ _=>rfl
 have HM:Hid (Mem w (W.alloc (.cells #[.slice (some ⟨lb,0,none⟩) n n] 248)) ((W.heap.size,.cells #[.slice (some ⟨lb,0,none⟩) n n] 248)::L)):=hM
 clear hM h
 go_enter Tryz.func149,Tryz.ntmps149
 go_wp2_with fail
 refine bodyPost_ret (v:=(fvAll_C W.heap.size).val) ?_ rfl ⟨_,rfl,HM.out.after ((Below.refl _ _).alloc (Nat.le_refl _) _)⟩
 exact results_cell_row (p:=2) (ty:=189) rfl _ _ (W.heap.size+1) 189 _ (0,0) _ rfl (heap_alloc2_new _ _ _) Tryz.underlying189 rfl (by kernel_rfl)
end Go.Proofs.YtdigofgjhaakmaaGreatDoor
