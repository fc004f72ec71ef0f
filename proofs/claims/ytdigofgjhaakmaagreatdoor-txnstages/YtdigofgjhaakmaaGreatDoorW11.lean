/-
  What package log's split answers.
  What package log's find answers.
  Settings as bytes: the fields of a tenant, each as the program makes it.
-/
import Derived.Test.YtdigofgjhaakmaaGreatDoorW10
import Derived.Test.YtdigofgjhaakmaaGreatDoorW07
import Derived.Test.YtdigofgjhaakmaaGreatDoorW08
set_option linter.unusedVariables false
set_option maxRecDepth 20000
set_option maxHeartbeats 40000000
namespace Go.Proofs.YtdigofgjhaakmaaGreatDoor
open Go.RowKit
open Sm
def pcQ (e:En) (most i:Nat) (x:Option Addr×Nat):List Value:=[.int .u64 e.t,.int .i64 e.c,.int .i64 i,.int .i64 (npc most e.r.length),.slice x.1 (lspc e most i).b.length x.2]
def pcL (e:En) (most:Nat):Nat→List (Option Addr×Nat)→List Value
 | _,[]=>[]
 | i,x::l=>pcQ e most i x++pcL e most (i+1) l
theorem pcL_length (e:En) (most i:Nat) (l:List (Option Addr×Nat)):(pcL e most i l).length=l.length * 5:=by
 induction l generalizing i with
 | nil=>rfl
 | cons x l ih=>rw [pcL,List.length_append,ih,List.length_cons];simp [pcQ];omega
theorem pcL_snoc (e:En) (most i:Nat) (l:List (Option Addr×Nat)) (x:Option Addr×Nat):pcL e most i (l++[x])=pcL e most i l++pcQ e most (i+l.length) x:=by
 induction l generalizing i with
 | nil=>simp [pcL]
 | cons y l ih=>rw [List.cons_append,pcL,ih,pcL,List.append_assoc,List.length_cons,Nat.add_assoc,Nat.add_comm 1]
theorem pcL_get (e:En) (most:Nat) (l:List (Option Addr×Nat)) (j f:Nat) (x:Option Addr×Nat) (hx:l[j]? = some x) (hf:f < 5) (i:Nat):(pcL e most i l)[j * 5+f]? = (pcQ e most (i+j) x)[f]?:=by
 induction l generalizing i j with
 | nil=>simp at hx
 | cons y l ih =>
  cases j with
  | zero =>
   simp at hx;subst hx
   rw [pcL,List.getElem?_append_left (by simp [pcQ];omega)];simp
  | succ j =>
   simp at hx
   have hl:(pcQ e most i y).length=5:=rfl
   rw [pcL,List.getElem?_append_right (by omega),hl,show (j+1) * 5+f - 5=j * 5+f by omega,ih j hx (i+1),show i+1+j=i+(j+1) by omega]
theorem pc_info:(Tryz.prog.info? pcT).map (fun i=>(i.zero,i.size,i.bytes))=some (some (.agg pc0),5,56):=by kernel_rfl
theorem make_pieces (n:Nat) (h:n≤1000000) (w:World):(Instr.makeSlice 179 (.int .i64 (n:Int)) (.int .i64 (n:Int))).run Tryz.prog w=.ok (.slice (some ⟨w.heap.size,0,none⟩) n n) (w.alloc (.cells (madeCells pc0 (n * 5)) pcT)):=by
 obtain ⟨i,hi,hz,hs1,hby⟩:=info_parts pc_info
 have hr:=run_make (P:=Tryz.prog) w 179 pcT i (.agg pc0) Tryz.underlying179 hi hz .i64 .i64 n n (by omega) (Int.le_refl _) (by rw [hby];omega) (by omega)
 simp only [Int.toNat_natCast,hs1] at hr
 exact hr
theorem set5 (A R:List Value) (k:Nat) (hk:A.length=k) (a b c d e:Value) (x0 x1 x2 x3 x4:Value) :
  ((((((A++(x0::x1::x2::x3::x4::R)).toArray.setIfInBounds k a).setIfInBounds (k+1) b).setIfInBounds (k+2) c).setIfInBounds (k+3) d).setIfInBounds (k+4) e).toList=A++([a,b,c,d,e]++R):=by
 subst hk
 simp only [Array.toList_setIfInBounds]
 rw [List.set_append_right _ _ (by omega),List.set_append_right _ _ (by omega),List.set_append_right _ _ (by omega),List.set_append_right _ _ (by omega),List.set_append_right _ _ (by omega)]
 simp
theorem five_of (l:List Value) (k:Nat) (h:k+5≤l.length):∃ x0 x1 x2 x3 x4 R,l=l.take k++(x0::x1::x2::x3::x4::R)∧R=l.drop (k+5):=by
 have e:l.drop k=l[k]::l[k+1]::l[k+2]::l[k+3]::l[k+4]::l.drop (k+5):=by
  rw [List.drop_eq_getElem_cons (show k < l.length by omega),List.drop_eq_getElem_cons (show k+1 < l.length by omega),List.drop_eq_getElem_cons (show k+1+1 < l.length by omega),List.drop_eq_getElem_cons (show k+1+1+1 < l.length by omega),List.drop_eq_getElem_cons (show k+1+1+1+1 < l.length by omega)]
 exact ⟨_,_,_,_,_,_,by rw [←e,List.take_append_drop],rfl⟩
structure SpAt (W wr:World) (b2 gp:Nat) (E:Array Value) (e:En) (most n:Nat) (xs:List (Option Addr×Nat)):Prop where
 mem:∃ cur:Array Value,Mem W wr [(b2,.cells E enT (0,0)),(gp,.cells cur pcT (0,0))]∧cur.size=n * 5∧cur.toList.take (xs.length * 5)=pcL e most 0 xs
theorem SpAt.put {W wr:World} {b2 gp:Nat} {E:Array Value} {e:En} {most n:Nat} {xs:List (Option Addr×Nat)} (h:SpAt W wr b2 gp E e most n xs) (hlt:xs.length < n) (x:Option Addr×Nat) {i:Nat} (hi:xs.length=i) :
  SpAt W ((((((wr.setCell ⟨gp,i * 5,none⟩ (.int .u64 e.t)).setCell ⟨gp,i * 5+1,none⟩ (.int .i64 e.c)).setCell ⟨gp,i * 5+2,none⟩ (.int .i64 i)).setCell ⟨gp,i * 5+3,none⟩ (.int .i64 (npc most e.r.length))).setCell ⟨gp,i * 5+4,none⟩ (.slice x.1 (lspc e most i).b.length x.2))) b2 gp E e most n (xs++[x]):=by
 obtain ⟨cur,hM,hs,hc⟩:=h.mem
 subst hi
 have h5:=((((hM.set 1 rfl (xs.length * 5) (.int .u64 e.t)).set 1 rfl (xs.length * 5+1) (.int .i64 e.c)).set 1 rfl (xs.length * 5+2) (.int .i64 xs.length)).set 1 rfl (xs.length * 5+3) (.int .i64 (npc most e.r.length))).set 1 rfl (xs.length * 5+4) (.slice x.1 (lspc e most xs.length).b.length x.2)
 refine ⟨_,h5,by simp [hs],?_⟩
 have hcl:cur.toList.length=n * 5:=by rw [Array.length_toList];exact hs
 obtain ⟨x0,x1,x2,x3,x4,R,e1,-⟩:=five_of cur.toList (xs.length * 5) (by omega)
 have hl:=pcL_length e most 0 xs
 have e2:=set5 (cur.toList.take (xs.length * 5)) R (xs.length * 5) (by rw [hc,hl]) (.int .u64 e.t) (.int .i64 e.c) (.int .i64 xs.length) (.int .i64 (npc most e.r.length)) (.slice x.1 (lspc e most xs.length).b.length x.2) x0 x1 x2 x3 x4
 rw [←e1] at e2
 have e3:cur.toList.toArray=cur:=by simp
 rw [e3] at e2
 rw [e2,hc,pcL_snoc,Nat.zero_add,List.length_append,List.length_singleton,← List.append_assoc]
 exact List.take_left' (by rw [List.length_append,hl];simp;omega)
theorem SpAt.cell {W wr:World} {b2 gp:Nat} {E:Array Value} {e:En} {most n:Nat} {xs:List (Option Addr×Nat)} (h:SpAt W wr b2 gp E e most n xs) {j:Nat} (hj:j < n * 5):∃ v,wr.cell? ⟨gp,j,none⟩=some v:=by
 obtain ⟨cur,hM,hs,hc⟩:=h.mem
 rw [hM.cell 1 rfl j]
 exact ⟨_,Array.getElem?_eq_getElem (by omega)⟩
theorem SpAt.free {W wr:World} {b2 gp:Nat} {E:Array Value} {e:En} {most n:Nat} {xs:List (Option Addr×Nat)} (h:SpAt W wr b2 gp E e most n xs) (j:Nat):wr.frozen? ⟨gp,j,none⟩=false:=by
 obtain ⟨cur,hM,hs,hc⟩:=h.mem
 exact hM.free 1 rfl j
theorem SpAt.box {W wr:World} {b2 gp:Nat} {E:Array Value} {e:En} {most n:Nat} {xs:List (Option Addr×Nat)} (h:SpAt W wr b2 gp E e most n xs) (j:Nat):wr.cell? ⟨b2,j,none⟩=E[j]?:=by
 obtain ⟨cur,hM,hs,hc⟩:=h.mem
 exact hM.cell 0 rfl j
theorem SpAt.drew {W wr:World} {b2 gp:Nat} {E:Array Value} {e:En} {most n:Nat} {xs:List (Option Addr×Nat)} (h:SpAt W wr b2 gp E e most n xs):SpAt W wr.drew b2 gp E e most n xs:=by
 obtain ⟨cur,hM,hs,hc⟩:=h.mem
 exact ⟨cur,hM.drew,hs,hc⟩
def Part (a:Option Addr) (r:List Int) (a':Option Addr) (l:List Int):Prop:=∀ V,Row V a r→Row V a' l
theorem row_none (V:World) (a:Option Addr):Row V a []:=⟨fun i=>by simp,by simp,Or.inl rfl⟩
theorem part_step {a:Option Addr} {r:List Int} {b off:Nat} {l:List Int} (h:Part a r (some ⟨b,off,none⟩) l) (k:Nat) (hk:k≤l.length):Part a r (some ⟨b,off,none⟩) (l.take k)∧Part a r (some ⟨b,off+k,none⟩) (l.drop k):=by
 refine ⟨fun V hV=>?_,fun V hV=>?_⟩
 ·have:=(h V hV).part 0 k (by omega);simpa using this
 ·have:=(h V hV).part k (l.length - k) (by omega)
  rwa [List.take_of_length_le (by simp)] at this
set_option maxRecDepth 20000 in
theorem lsplit_any {W:World} (e:En) {a:Option Addr} {k cap most:Nat} (hk:e.r.length=k) (hcap:k≤cap) (hsh:(a=none∧cap=0)∨∃ b off,a=some ⟨b,off,none⟩) (hm0:1≤most) (hm1:most≤65536) (hl:k≤1000000000) (hn:npc most k≤1000) :
  Calls Tryz.prog 121 #[.agg (enA e.s e.t e.c (.slice a k cap)),.int .i64 most] W fun ev W'=>∃ gp,ev=.returned (.slice (some ⟨gp,0,none⟩) (npc most k) (npc most k))∧∃ xs,xs.length=npc most k∧(∀ j x,xs[j]? = some x→Part a e.r x.1 (lspc e most j).b∧(lspc e most j).b.length≤x.2)∧∃ cur,cur.toList=pcL e most 0 xs∧∃ K,Mem W W' ((gp,.cells cur pcT (0,0))::K):=by
 have hA:Mem W (W.alloc (.cells (enA e.s e.t e.c (.slice a k cap)) enT)) [(W.heap.size,.cells (enA e.s e.t e.c (.slice a k cap)) enT (0,0))]:=(Mem.nil W).push1 rfl
 have k3:(W.alloc (.cells (enA e.s e.t e.c (.slice a k cap)) enT)).cell? ⟨W.heap.size,3,none⟩=some (.slice a k cap):=hA.cell 0 rfl 3
 obtain ⟨n,hN⟩:∃ n,n=npc most k:=⟨_,rfl⟩
 have hmk:=make_pieces n (by omega) (W.alloc (.cells (enA e.s e.t e.c (.slice a k cap)) enT))
 have hB:=hA.push (W.heap.size+1) (.cells (madeCells pc0 (n * 5)) pcT) (by simp)
 rw [show (W.alloc (.cells (enA e.s e.t e.c (.slice a k cap)) enT)).heap.size=W.heap.size+1 by simp] at hmk
 have HS0:Hid (SpAt W ((W.alloc (.cells (enA e.s e.t e.c (.slice a k cap)) enT)).alloc (.cells (madeCells pc0 (n * 5)) pcT)) W.heap.size (W.heap.size+1) (enA e.s e.t e.c (.slice a k cap)) e most n []):=⟨⟨_,hB,by rw [size_madeCells],by simp [pcL]⟩⟩
 have HQ:Hid ((k=0∧((k:Int)+most - 1) / (most:Int)=0∧n=1)∨(((k:Int)+most - 1) / (most:Int)=1∧n=1)∨(((k:Int)+most - 1) / (most:Int)=(n:Int)∧1 < n)):=by
  have e:((k:Int)+most - 1) / (most:Int)=(((k+most - 1) / most:Nat):Int):=by rw [Int.natCast_ediv,Int.natCast_sub (by omega),Int.natCast_add];rfl
  show _∨_∨_
  rw [e,hN]
  unfold npc
  by_cases hk0:k=0
  ·left
   subst hk0
   have:(0+most - 1) / most=0:=Nat.div_eq_of_lt (by omega)
   refine ⟨rfl,by rw [this];rfl,by rw [this];rfl⟩
  ·right
   have h1:1≤(k+most - 1) / most:=by rw [Nat.le_div_iff_mul_le (by omega)];omega
   by_cases h2:(k+most - 1) / most=1
   ·left;rw [h2];exact ⟨rfl,rfl⟩
   ·right;exact ⟨by omega,by omega⟩
 have k3b:((W.alloc (.cells (enA e.s e.t e.c (.slice a k cap)) enT)).alloc (.cells (madeCells pc0 (n * 5)) pcT)).cell? ⟨W.heap.size,3,none⟩=some (.slice a k cap):=hB.cell 0 rfl 3
 generalize hwB:(W.alloc (.cells (enA e.s e.t e.c (.slice a k cap)) enT)).alloc (.cells (madeCells pc0 (n * 5)) pcT)=wB at *
 generalize hwA:W.alloc (.cells (enA e.s e.t e.c (.slice a k cap)) enT)=wA at *
 have w1:IntKind.i64.wrap ((k:Int)+most)=(k:Int)+most:=by rw [IntKind.wrap_i64];omega
 have w2:IntKind.i64.wrap ((k:Int)+most - 1)=(k:Int)+most - 1:=by rw [IntKind.wrap_i64];omega
 have hq0:(0:Int)≤(k:Int)+most - 1:=by omega
 have hqm:(0:Int) < most:=by omega
 rw [←hN] at hn ⊢
 have HNN:Hid (n=npc most k):=hN
 clear hA hB hN
 go_enter Tryz.func121,Tryz.ntmps121
 go_upto_region 1 with fail
 go_cut [5] from 10 (fun s5 wx=>s5=.int .i64 n∧wx=wA)
 case first =>
  rcases HQ.out with ⟨-,h1,h2⟩ | ⟨h1,h2⟩ | ⟨h1,h2⟩
  ·subst h2
   go_wp2_with fail
   go_meet
   case rel=>exact ⟨rfl,rfl⟩
  ·subst h2
   go_wp2_with fail
   all_goals
    go_meet
    case rel=>exact ⟨rfl,rfl⟩
  ·have h3:(1:Int) < n:=by omega
   go_wp2_with fail
   go_meet
   case rel=>exact ⟨rfl,rfl⟩
 case rest =>
 obtain ⟨rfl,rfl⟩:=hcut
 clear HQ w1 w2 hq0
 go_wp2_with fail
 have HB:Hid (∀ i,(lspc e most i).b=(e.r.drop (i * most)).take most):=fun i=>rfl
 go_loopw [7,25] (fun s7 u wr=>∃ i:Nat,u=.int .i64 i∧i≤n∧∃ a' l' c',s7=.slice a' l' c'∧l'=e.r.length - i * most∧l'≤c'∧((a'=none∧c'=0)∨∃ b off,a'=some ⟨b,off,none⟩)∧Part a e.r a' (e.r.drop (i * most))∧∃ xs,xs.length=i∧(∀ j x,xs[j]? = some x→Part a e.r x.1 (lspc e most j).b∧(lspc e most j).b.length≤x.2)∧SpAt W wr W.heap.size (W.heap.size+1) (enA e.s e.t e.c (.slice a k cap)) e most n xs) (fun _ u _=>n - (intOf u).toNat)
 case atStart=>exact ⟨0,rfl,by omega,a,k,cap,rfl,by omega,hcap,hsh,by rw [Nat.zero_mul,List.drop_zero];exact fun V hV=>hV,[],rfl,fun j x hx=>by simp at hx,HS0.out⟩
 case round =>
  obtain ⟨i,rfl,hi,a',l',c',rfl,hl',hlc',hsh',hP',xs,hxl,hxs,hS⟩:=hrel
  clear HS0
  by_cases hlt:i < n
  ·obtain ⟨y0,j0⟩:=hS.cell (j:=i * 5) (by omega)
   obtain ⟨y1,j1⟩:=hS.cell (j:=i * 5+1) (by omega)
   obtain ⟨y2,j2⟩:=hS.cell (j:=i * 5+2) (by omega)
   obtain ⟨y3,j3⟩:=hS.cell (j:=i * 5+3) (by omega)
   obtain ⟨y4,j4⟩:=hS.cell (j:=i * 5+4) (by omega)
   have jf:=hS.free
   have jb1:=hS.box 1
   have jb2:=hS.box 2
   simp at jb1 jb2
   have HS:Hid (SpAt W wr W.heap.size (W.heap.size+1) (enA e.s e.t e.c (.slice a k cap)) e most n xs):=hS
   have HDR:Hid ((e.r.drop (i * most)).length=l'∧e.r.drop ((i+1) * most)=(e.r.drop (i * most)).drop most):=⟨by rw [List.length_drop,hl'],by rw [List.drop_drop,Nat.succ_mul]⟩
   have HXS:Hid (∀ x:Option Addr×Nat,Part a e.r x.1 (lspc e most i).b→(lspc e most i).b.length≤x.2→∀ j y,(xs++[x])[j]? = some y→Part a e.r y.1 (lspc e most j).b∧(lspc e most j).b.length≤y.2):=by
    intro x h1 h2 j y hy
    by_cases hj:j < xs.length
    ·rw [List.getElem?_append_left hj] at hy;exact hxs j y hy
    ·rw [List.getElem?_append_right (by omega)] at hy
     have:j=xs.length:=by
      have:=(List.getElem?_eq_some_iff.mp hy).1
      simp at this;omega
     subst this
     simp at hy;subst hy
     rw [hxl];exact ⟨h1,h2⟩
   have hSb:(lspc e most i).b=(e.r.drop (i * most)).take most:=rfl
   have q0:(i:Int) < (n:Int):=by omega
   have HLT:Hid (xs.length < n):=by show _ < _;omega
   clear hS hxs
   have HL':Hid (l'=e.r.length - i * most):=hl'
   have HNE:Hid (npc most e.r.length=n):=by show _=_;rw [hk];exact HNN.out.symm
   clear hl'
   rcases hsh' with ⟨rfl,rfl⟩ | ⟨b,off,rfl⟩
   ·have hl0:l'=0:=by omega
    subst hl0
    have hd0:e.r.drop (i * most)=[]:=List.eq_nil_of_length_eq_zero HDR.out.1
    have hbl:(lspc e most i).b.length=0:=by rw [hSb,hd0];simp
    have hb0:(lspc e most i).b=[]:=List.eq_nil_of_length_eq_zero hbl
    have hput:=HS.out.put HLT.out ((none:Option Addr),0) hxl
    rw [hbl,HNE.out] at hput
    have HPUT:Hid (SpAt W _ W.heap.size (W.heap.size+1) (enA e.s e.t e.c (.slice a k cap)) e most n (xs++[((none:Option Addr),0)])):=hput.drew
    have HP1:Hid (Part a e.r ((none:Option Addr),0).1 (lspc e most i).b∧(lspc e most i).b.length≤((none:Option Addr),0).2):=⟨by rw [hb0];exact fun V _=>row_none V _,by rw [hbl];exact Nat.le_refl _⟩
    have HP2:Hid (Part a e.r none (e.r.drop ((i+1) * most))):=by rw [HDR.out.2,hd0,List.drop_nil];exact fun V _=>row_none V _
    have HLN:Hid (0=e.r.length - (i+1) * most∧0≤0):=by have h7:=HL'.out;rw [Nat.succ_mul];refine ⟨?_,?_⟩ <;> omega
    clear hput hP' hSb
    go_wp2_with fail
    go_region
    all_goals go_wp2_with fail
    all_goals
     go_roundw
     case rel=>exact ⟨i+1,by go_num,by omega,_,_,_,rfl,HLN.out.1,HLN.out.2,Or.inl ⟨rfl,rfl⟩,HP2.out,xs++[((none:Option Addr),0)],by rw [List.length_append,hxl];rfl,HXS.out _ HP1.out.1 HP1.out.2,HPUT.out⟩
     case measure=>simp [intOf];omega
   ·by_cases hmin:most≤l'
    ·have hmi:(most:Int)≤(l':Int):=by omega
     obtain ⟨p1,p2⟩:=part_step hP' most (by rw [HDR.out.1];exact hmin)
     have hbl:(lspc e most i).b.length=most:=by rw [hSb,List.length_take,HDR.out.1];omega
     by_cases hcc:c'=most
     ·subst hcc
      have hl2:l'=c':=by omega
      subst hl2
      have hd0:(e.r.drop (i * l')).drop l'=[]:=List.drop_eq_nil_of_le (by rw [HDR.out.1];exact Nat.le_refl _)
      have hput:=HS.out.put HLT.out ((some ⟨b,off,none⟩:Option Addr),l') hxl
      rw [hbl,HNE.out] at hput
      have HPUT:Hid (SpAt W _ W.heap.size (W.heap.size+1) (enA e.s e.t e.c (.slice a k cap)) e l' n (xs++[((some ⟨b,off,none⟩:Option Addr),l')])):=hput.drew
      have HP1:Hid (Part a e.r ((some ⟨b,off,none⟩:Option Addr),l').1 (lspc e l' i).b∧(lspc e l' i).b.length≤((some ⟨b,off,none⟩:Option Addr),l').2):=⟨by rw [hSb];exact p1,by rw [hbl];exact Nat.le_refl _⟩
      have HP2:Hid (Part a e.r (some ⟨b,off,none⟩) (e.r.drop ((i+1) * l'))):=by rw [HDR.out.2,hd0];exact fun V _=>row_none V _
      have HLN:Hid (0=e.r.length - (i+1) * l'∧0≤0):=by have h7:=HL'.out;rw [Nat.succ_mul];refine ⟨?_,?_⟩ <;> omega
      clear hput hP' hSb
      go_wp2_with fail
      go_region
      all_goals go_wp2_with fail
      all_goals
       go_roundw
       case rel=>exact ⟨i+1,by go_num,by omega,_,_,_,rfl,HLN.out.1,HLN.out.2,Or.inr ⟨b,off,rfl⟩,HP2.out,xs++[((some ⟨b,off,none⟩:Option Addr),l')],by rw [List.length_append,hxl];rfl,HXS.out _ HP1.out.1 HP1.out.2,HPUT.out⟩
       case measure=>simp [intOf];omega
     ·have hci:¬ (c':Int)=most:=by omega
      have hci2:(most:Int) < c':=by omega
      have hput:=HS.out.put HLT.out ((some ⟨b,off,none⟩:Option Addr),c') hxl
      rw [hbl,HNE.out] at hput
      have HPUT:Hid (SpAt W _ W.heap.size (W.heap.size+1) (enA e.s e.t e.c (.slice a k cap)) e most n (xs++[((some ⟨b,off,none⟩:Option Addr),c')])):=hput.drew
      have HP1:Hid (Part a e.r ((some ⟨b,off,none⟩:Option Addr),c').1 (lspc e most i).b∧(lspc e most i).b.length≤((some ⟨b,off,none⟩:Option Addr),c').2):=⟨by rw [hSb];exact p1,by rw [hbl];show most≤c';omega⟩
      have HP2:Hid (Part a e.r (some ⟨b,off+most,none⟩) (e.r.drop ((i+1) * most))):=by rw [HDR.out.2];exact p2
      have HLN:Hid ((l' - most)=e.r.length - (i+1) * most∧(l' - most)≤(c' - most)):=by have h7:=HL'.out;rw [Nat.succ_mul];refine ⟨?_,?_⟩ <;> omega
      clear hput hP' hSb
      go_wp2_with fail
      go_region
      all_goals go_wp2_with fail
      all_goals
       go_roundw
       case rel=>exact ⟨i+1,by go_num,by omega,_,_,_,rfl,HLN.out.1,HLN.out.2,Or.inr ⟨b,off+most,rfl⟩,HP2.out,xs++[((some ⟨b,off,none⟩:Option Addr),c')],by rw [List.length_append,hxl];rfl,HXS.out _ HP1.out.1 HP1.out.2,HPUT.out⟩
       case measure=>simp [intOf];omega
    ·have hmi:¬ (most:Int)≤(l':Int):=by omega
     have hmi2:(l':Int) < most:=by omega
     obtain ⟨p1,p2⟩:=part_step hP' l' (by rw [HDR.out.1];exact Nat.le_refl _)
     have htk:(e.r.drop (i * most)).take most=(e.r.drop (i * most)).take l':=by rw [List.take_of_length_le (by rw [HDR.out.1];omega),List.take_of_length_le (by rw [HDR.out.1];omega)]
     have hbl:(lspc e most i).b.length=l':=by rw [hSb,htk,List.length_take,HDR.out.1];omega
     have hd0:(e.r.drop (i * most)).drop most=[]:=List.drop_eq_nil_of_le (by rw [HDR.out.1];omega)
     by_cases hcc:c'=l'
     ·subst hcc
      have hput:=HS.out.put HLT.out ((some ⟨b,off,none⟩:Option Addr),c') hxl
      rw [hbl,HNE.out] at hput
      have HPUT:Hid (SpAt W _ W.heap.size (W.heap.size+1) (enA e.s e.t e.c (.slice a k cap)) e most n (xs++[((some ⟨b,off,none⟩:Option Addr),c')])):=hput.drew
      have HP1:Hid (Part a e.r ((some ⟨b,off,none⟩:Option Addr),c').1 (lspc e most i).b∧(lspc e most i).b.length≤((some ⟨b,off,none⟩:Option Addr),c').2):=⟨by rw [hSb,htk];exact p1,by rw [hbl];exact Nat.le_refl _⟩
      have HP2:Hid (Part a e.r (some ⟨b,off,none⟩) (e.r.drop ((i+1) * most))):=by rw [HDR.out.2,hd0];exact fun V _=>row_none V _
      have HLN:Hid (0=e.r.length - (i+1) * most∧0≤0):=by have h7:=HL'.out;rw [Nat.succ_mul];refine ⟨?_,?_⟩ <;> omega
      clear hput hP' hSb
      go_wp2_with fail
      go_region
      all_goals go_wp2_with fail
      all_goals
       go_roundw
       case rel=>exact ⟨i+1,by go_num,by omega,_,_,_,rfl,HLN.out.1,HLN.out.2,Or.inr ⟨b,off,rfl⟩,HP2.out,xs++[((some ⟨b,off,none⟩:Option Addr),c')],by rw [List.length_append,hxl];rfl,HXS.out _ HP1.out.1 HP1.out.2,HPUT.out⟩
       case measure=>simp [intOf];omega
     ·have hci:¬ (c':Int)=l':=by omega
      have hci2:(l':Int) < c':=by omega
      have hput:=HS.out.put HLT.out ((some ⟨b,off,none⟩:Option Addr),c') hxl
      rw [hbl,HNE.out] at hput
      have HPUT:Hid (SpAt W _ W.heap.size (W.heap.size+1) (enA e.s e.t e.c (.slice a k cap)) e most n (xs++[((some ⟨b,off,none⟩:Option Addr),c')])):=hput.drew
      have HP1:Hid (Part a e.r ((some ⟨b,off,none⟩:Option Addr),c').1 (lspc e most i).b∧(lspc e most i).b.length≤((some ⟨b,off,none⟩:Option Addr),c').2):=⟨by rw [hSb,htk];exact p1,by rw [hbl];show l'≤c';omega⟩
      have HP2:Hid (Part a e.r (some ⟨b,off+l',none⟩) (e.r.drop ((i+1) * most))):=by rw [HDR.out.2,hd0];exact fun V _=>row_none V _
      have HLN:Hid (0=e.r.length - (i+1) * most∧0≤(c' - l')):=by have h7:=HL'.out;rw [Nat.succ_mul];refine ⟨?_,?_⟩ <;> omega
      clear hput hP' hSb
      go_wp2_with fail
      go_region
      all_goals go_wp2_with fail
      all_goals
       go_roundw
       case rel=>exact ⟨i+1,by go_num,by omega,_,_,_,rfl,HLN.out.1,HLN.out.2,Or.inr ⟨b,off+l',rfl⟩,HP2.out,xs++[((some ⟨b,off,none⟩:Option Addr),c')],by rw [List.length_append,hxl];rfl,HXS.out _ HP1.out.1 HP1.out.2,HPUT.out⟩
       case measure=>simp [intOf];omega
  ·have:i=n:=by omega
   subst this
   have HE:Hid (∃ cur,cur.toList=pcL e most 0 xs∧∃ K,Mem W wr ((W.heap.size+1,.cells cur pcT (0,0))::K)):=by
    obtain ⟨cur,hM,hs,hc⟩:=hS.mem
    refine ⟨cur,?_,[(W.heap.size,.cells (enA e.s e.t e.c (.slice a k cap)) enT (0,0))],hM.perm (List.Perm.swap _ _ _)⟩
    rw [←hc,hxl,List.take_of_length_le (by rw [Array.length_toList];omega)]
   have HXS:Hid (∀ j x,xs[j]? = some x→Part a e.r x.1 (lspc e most j).b∧(lspc e most j).b.length≤x.2):=hxs
   clear hS hxs
   go_wp2
   go_ret
   exact ⟨W.heap.size+1,rfl,xs,hxl,HXS.out,HE.out⟩
structure Gl (W:World) (a:Addr):Prop where
 sent:W.cell? ⟨0,0,none⟩=some (.iface 342 (.pointer (some a)))
 hand:W.cell? ⟨1,0,none⟩=some (.iface 192 (.agg #[.pointer (some ⟨4,134,none⟩)]))
theorem Gl.on {W W':World} {a:Addr} {K:List (Nat×Obj)} (g:Gl W a) (h:Mem W W' K):Gl W' a :=
 ⟨by rw [←g.sent];exact h.old (cell_lt g.sent),by rw [←g.hand];exact h.old (cell_lt g.hand)⟩
section
variable {w W:World} {p h m:Nat} {D:Dk} {hc:Array Value} {ks:List Bk} {L:List (Nat×Obj)}
end
end Go.Proofs.YtdigofgjhaakmaaGreatDoor
namespace Go.Proofs.YtdigofgjhaakmaaGreatDoor
open Go.RowKit
open Sm
open Cf
theorem fits16:∀ q,0≤q→q < 256 ^ 2→IntKind.u16.wrap q=q:=fun q h0 h1=>wrap16_small q h0 (by omega)
theorem fits64 (n:Nat) (hn:n≤4):∀ q,0≤q→q < 256 ^ n→IntKind.i64.wrap q=q:=by
 intro q h0 h1
 refine wrap64n (by omega) ?_
 have:(256:Int) ^ n≤256 ^ 4:=by
  match n,hn with
  | 0,_=>decide
  | 1,_=>decide
  | 2,_=>decide
  | 3,_=>decide
  | 4,_=>decide
 have e:(256:Int) ^ 4=4294967296:=by decide
 omega
def ttl (t:Ten) (p s q:Value):List Value:=[p,.int .u16 t.lo,.int .u16 t.hi,.int .i64 t.filter,s,q,.int .i64 t.sess,.int .i64 t.queue,.int .u32 t.rate,.int .u32 t.burst]
theorem swap_front {p a:Nat×Obj} {E L:List (Nat×Obj)} {w V:World} (h:Mem w V (a::p::(E++L))):Mem w V (p::((a::E)++L)):=h.perm (List.Perm.swap _ _ _)
theorem swap_front2 {p a b:Nat×Obj} {E L:List (Nat×Obj)} {w V:World} (h:Mem w V (a::b::p::(E++L))):Mem w V (p::((a::b::E)++L)) :=
 h.perm (by refine List.Perm.trans ((List.Perm.swap p b _).cons a) ?_;exact List.Perm.swap p a _)
theorem swap_app {p:Nat×Obj} {A E L:List (Nat×Obj)} {w V:World} (h:Mem w V (A++(p::(E++L)))):Mem w V (p::((A++E)++L)) :=
 h.perm (by rw [List.append_assoc];exact List.perm_middle (l₁:=A))
theorem IT.cell {t:Ten} {r:Value×Value×Value} {V:World} {g off:Nat} (h:IT t r V g off) (o:Nat) {v:Value} (hv:(tc t r.1 r.2.1 r.2.2)[o]? = some v):V.cell? ⟨g,off+o,none⟩=some v:=h.2.1 o v hv
theorem IT.row {t:Ten} {r:Value×Value×Value} {V:World} {g off:Nat} (h:IT t r V g off) (o:Nat) (x:List Int) (hb:IsBytes x) (hx:x.length≤1000) (a c:List Value) (ha:a.length=o) (e:tc t r.1 r.2.1 r.2.2=a++(x.map (Value.int .u8)++c)) :
  Row V (some ⟨g,off+o,none⟩) x:=by
 refine ⟨hb,by omega,Or.inr ⟨g,off+o,rfl,fun i hi=>?_⟩⟩
 have:=h.2.1 (o+i) (.int .u8 (x.getD i 0)) (by
  rw [e,List.getElem?_append_right (by omega),List.getElem?_append_left (by simp;omega),ha,Nat.add_sub_cancel_left]
  simp [hi])
 rw [Nat.add_assoc];exact this
def spName:Sp Ten:=spTxt (fun t=>t.name) (fun t y=>{ t with name:=y })
theorem c_Name {w V:World} {p:Nat×Obj} {E L:List (Nat×Obj)} (h:Mem w V (p::(E++L))) :
  Calls Tryz.prog 231 #[.func (.func 232) #[] #[]] V fun e V'=>∃ f E',e=.returned f.val∧Mem w V' (p::(E'++L))∧Sub E E'∧Fd w E' IT JT f spName:=by
 refine (mk_Txt_T h 232).mono ?_
 rintro e V' ⟨bo,rfl,hM⟩
 exact ⟨_,_::E,rfl,swap_front hM,fun q hq=>List.mem_cons_of_mem _ hq,fd_Txt_T bo 232 0 _ _ (List.mem_cons_self ..) (enters_of Tryz.func232 (by kernel_rfl) rfl) acc_Name (fun t r V g off h=>⟨by have:=h.1.name;omega,h.cell 0 (tget h.1.len (by rintro n vn a b c d f g x y vt a1 b1 c1 d1 f1 g1 a2 b2 c2 d2 f2 g2 po lo hi fi st tw se qu ra bu rfl;rfl))⟩) (lens_T 0 (by omega) (fun t=>.string t.name) (fun y=>.string y) (fun t y=>{ t with name:=y }) (fun t p s q h=>tget h (by rintro n vn a b c d f g x y vt a1 b1 c1 d1 f1 g1 a2 b2 c2 d2 f2 g2 po lo hi fi st tw se qu ra bu rfl;rfl)) (fun t y p s q h=>tset h (by rintro n vn a b c d f g x y vt a1 b1 c1 d1 f1 g1 a2 b2 c2 d2 f2 g2 po lo hi fi st tw se qu ra bu rfl;rfl)) (fun t y h=>⟨h.key,h.vmac,h.host⟩) (fun t y=>⟨rfl,rfl,rfl⟩))⟩
def spVni:Sp Ten:=spNum 4 (fun t=>t.vni) (fun t y=>{ t with vni:=y })
theorem c_Vni {w V:World} {p:Nat×Obj} {E L:List (Nat×Obj)} (h:Mem w V (p::(E++L))) :
  Calls Tryz.prog 233 #[.int .i64 4,.func (.func 234) #[] #[]] V fun e V'=>∃ f E',e=.returned f.val∧Mem w V' (p::(E'++L))∧Sub E E'∧Fd w E' IT JT f spVni:=by
 refine (mk_num_TU h 4 234).mono ?_
 rintro e V' ⟨bs,bo,rfl,hM⟩
 exact ⟨_,_::_::E,rfl,swap_front2 hM,fun q hq=>List.mem_cons_of_mem _ (List.mem_cons_of_mem _ hq),fd_num_TU bs bo 4 234 1 (by omega) fits32 _ _ (List.mem_cons_self ..) (List.mem_cons_of_mem _ (List.mem_cons_self ..)) (enters_of Tryz.func234 (by kernel_rfl) rfl) acc_Vni (fun t r V g off h=>h.cell 1 (tget h.1.len (by rintro n vn a b c d f g x y vt a1 b1 c1 d1 f1 g1 a2 b2 c2 d2 f2 g2 po lo hi fi st tw se qu ra bu rfl;rfl))) (lens_T 1 (by omega) (fun t=>.int .u32 t.vni) (fun y=>.int .u32 y) (fun t y=>{ t with vni:=y }) (fun t p s q h=>tget h (by rintro n vn a b c d f g x y vt a1 b1 c1 d1 f1 g1 a2 b2 c2 d2 f2 g2 po lo hi fi st tw se qu ra bu rfl;rfl)) (fun t y p s q h=>tset h (by rintro n vn a b c d f g x y vt a1 b1 c1 d1 f1 g1 a2 b2 c2 d2 f2 g2 po lo hi fi st tw se qu ra bu rfl;rfl)) (fun t y h=>⟨h.key,h.vmac,h.host⟩) (fun t y=>⟨rfl,rfl,rfl⟩))⟩
def spKey:Sp Ten:=spOct 8 (fun t=>t.key) (fun t y=>{ t with key:=y })
theorem c_Key {w V:World} {p:Nat×Obj} {E L:List (Nat×Obj)} (h:Mem w V (p::(E++L))) :
  Calls Tryz.prog 235 #[.func (.func 236) #[] #[]] V fun e V'=>∃ f E',e=.returned f.val∧Mem w V' (p::(E'++L))∧Sub E E'∧Fd w E' IT JT f spKey:=by
 refine (mk_Oct_T h 236).mono ?_
 rintro e V' ⟨bo,rfl,hM⟩
 refine ⟨_,_::E,rfl,swap_front hM,fun q hq=>List.mem_cons_of_mem _ hq,fd_Oct_T bo 8 236 2 (by omega) (by omega) _ _ (List.mem_cons_self ..) (enters_of Tryz.func236 (by kernel_rfl) rfl) acc_Key (fun t r V g off h=>⟨h.1.len.key,h.row 2 t.key h.1.key (by rw [h.1.len.key];omega) [.string t.name,.int .u32 t.vni] _ rfl rfl⟩) ?_⟩
 exact lens_TO 2 8 (fun t y=>{ t with key:=y }) (fun t p s q h=>⟨[.string t.name,.int .u32 t.vni],t.key.map (Value.int .u8),_,rfl,(by rw [List.length_map];exact h.key),rfl,fun y=>rfl⟩) (fun t y hy h=>⟨hy,h.vmac,h.host⟩) (fun t y=>⟨rfl,rfl,rfl⟩)
def spVtep:Sp Ten:=spNum 4 (fun t=>t.vtep) (fun t y=>{ t with vtep:=y })
theorem c_Vtep {w V:World} {p:Nat×Obj} {E L:List (Nat×Obj)} (h:Mem w V (p::(E++L))) :
  Calls Tryz.prog 233 #[.int .i64 4,.func (.func 237) #[] #[]] V fun e V'=>∃ f E',e=.returned f.val∧Mem w V' (p::(E'++L))∧Sub E E'∧Fd w E' IT JT f spVtep:=by
 refine (mk_num_TU h 4 237).mono ?_
 rintro e V' ⟨bs,bo,rfl,hM⟩
 exact ⟨_,_::_::E,rfl,swap_front2 hM,fun q hq=>List.mem_cons_of_mem _ (List.mem_cons_of_mem _ hq),fd_num_TU bs bo 4 237 10 (by omega) fits32 _ _ (List.mem_cons_self ..) (List.mem_cons_of_mem _ (List.mem_cons_self ..)) (enters_of Tryz.func237 (by kernel_rfl) rfl) acc_Vtep (fun t r V g off h=>h.cell 10 (tget h.1.len (by rintro n vn a b c d f g x y vt a1 b1 c1 d1 f1 g1 a2 b2 c2 d2 f2 g2 po lo hi fi st tw se qu ra bu rfl;rfl))) (lens_T 10 (by omega) (fun t=>.int .u32 t.vtep) (fun y=>.int .u32 y) (fun t y=>{ t with vtep:=y }) (fun t p s q h=>tget h (by rintro n vn a b c d f g x y vt a1 b1 c1 d1 f1 g1 a2 b2 c2 d2 f2 g2 po lo hi fi st tw se qu ra bu rfl;rfl)) (fun t y p s q h=>tset h (by rintro n vn a b c d f g x y vt a1 b1 c1 d1 f1 g1 a2 b2 c2 d2 f2 g2 po lo hi fi st tw se qu ra bu rfl;rfl)) (fun t y h=>⟨h.key,h.vmac,h.host⟩) (fun t y=>⟨rfl,rfl,rfl⟩))⟩
def spVtepMac:Sp Ten:=spOct 6 (fun t=>t.vmac) (fun t y=>{ t with vmac:=y })
theorem c_VtepMac {w V:World} {p:Nat×Obj} {E L:List (Nat×Obj)} (h:Mem w V (p::(E++L))) :
  Calls Tryz.prog 235 #[.func (.func 238) #[] #[]] V fun e V'=>∃ f E',e=.returned f.val∧Mem w V' (p::(E'++L))∧Sub E E'∧Fd w E' IT JT f spVtepMac:=by
 refine (mk_Oct_T h 238).mono ?_
 rintro e V' ⟨bo,rfl,hM⟩
 refine ⟨_,_::E,rfl,swap_front hM,fun q hq=>List.mem_cons_of_mem _ hq,fd_Oct_T bo 6 238 11 (by omega) (by omega) _ _ (List.mem_cons_self ..) (enters_of Tryz.func238 (by kernel_rfl) rfl) acc_VtepMac (fun t r V g off h=>⟨h.1.len.vmac,h.row 11 t.vmac h.1.vmac (by rw [h.1.len.vmac];omega) (.string t.name::.int .u32 t.vni::(t.key.map (Value.int .u8)++[.int .u32 t.vtep])) (t.host.map (Value.int .u8)++ttl t r.1 r.2.1 r.2.2) (by simp [h.1.len.key]) (by simp [tc,ttl])⟩) ?_⟩
 exact lens_TO 11 6 (fun t y=>{ t with vmac:=y }) (fun t p s q h=>⟨(.string t.name::.int .u32 t.vni::(t.key.map (Value.int .u8)++[.int .u32 t.vtep])),t.vmac.map (Value.int .u8),(t.host.map (Value.int .u8)++ttl t p s q),(by simp [h.key]),(by rw [List.length_map];exact h.vmac),(by simp [tc,ttl]),fun y=>(by simp [tc,ttl])⟩) (fun t y hy h=>⟨h.key,hy,h.host⟩) (fun t y=>⟨rfl,rfl,rfl⟩)
def spHost:Sp Ten:=spOct 6 (fun t=>t.host) (fun t y=>{ t with host:=y })
theorem c_Host {w V:World} {p:Nat×Obj} {E L:List (Nat×Obj)} (h:Mem w V (p::(E++L))) :
  Calls Tryz.prog 235 #[.func (.func 239) #[] #[]] V fun e V'=>∃ f E',e=.returned f.val∧Mem w V' (p::(E'++L))∧Sub E E'∧Fd w E' IT JT f spHost:=by
 refine (mk_Oct_T h 239).mono ?_
 rintro e V' ⟨bo,rfl,hM⟩
 refine ⟨_,_::E,rfl,swap_front hM,fun q hq=>List.mem_cons_of_mem _ hq,fd_Oct_T bo 6 239 17 (by omega) (by omega) _ _ (List.mem_cons_self ..) (enters_of Tryz.func239 (by kernel_rfl) rfl) acc_Host (fun t r V g off h=>⟨h.1.len.host,h.row 17 t.host h.1.host (by rw [h.1.len.host];omega) (.string t.name::.int .u32 t.vni::(t.key.map (Value.int .u8)++.int .u32 t.vtep::t.vmac.map (Value.int .u8))) (ttl t r.1 r.2.1 r.2.2) (by simp [h.1.len.key,h.1.len.vmac]) (by simp [tc,ttl])⟩) ?_⟩
 exact lens_TO 17 6 (fun t y=>{ t with host:=y }) (fun t p s q h=>⟨(.string t.name::.int .u32 t.vni::(t.key.map (Value.int .u8)++.int .u32 t.vtep::t.vmac.map (Value.int .u8))),t.host.map (Value.int .u8),(ttl t p s q),(by simp [h.key,h.vmac]),(by rw [List.length_map];exact h.host),(by simp [tc,ttl]),fun y=>(by simp [tc,ttl])⟩) (fun t y hy h=>⟨h.key,h.vmac,hy⟩) (fun t y=>⟨rfl,rfl,rfl⟩)
def spLo:Sp Ten:=spNum 2 (fun t=>t.lo) (fun t y=>{ t with lo:=y })
theorem c_Lo {w V:World} {p:Nat×Obj} {E L:List (Nat×Obj)} (h:Mem w V (p::(E++L))) :
  Calls Tryz.prog 240 #[.int .i64 2,.func (.func 241) #[] #[]] V fun e V'=>∃ f E',e=.returned f.val∧Mem w V' (p::(E'++L))∧Sub E E'∧Fd w E' IT JT f spLo:=by
 refine (mk_num_TH h 2 241).mono ?_
 rintro e V' ⟨bs,bo,rfl,hM⟩
 exact ⟨_,_::_::E,rfl,swap_front2 hM,fun q hq=>List.mem_cons_of_mem _ (List.mem_cons_of_mem _ hq),fd_num_TH bs bo 2 241 24 (by omega) fits16 _ _ (List.mem_cons_self ..) (List.mem_cons_of_mem _ (List.mem_cons_self ..)) (enters_of Tryz.func241 (by kernel_rfl) rfl) acc_Lo (fun t r V g off h=>h.cell 24 (tget h.1.len (by rintro n vn a b c d f g x y vt a1 b1 c1 d1 f1 g1 a2 b2 c2 d2 f2 g2 po lo hi fi st tw se qu ra bu rfl;rfl))) (lens_T 24 (by omega) (fun t=>.int .u16 t.lo) (fun y=>.int .u16 y) (fun t y=>{ t with lo:=y }) (fun t p s q h=>tget h (by rintro n vn a b c d f g x y vt a1 b1 c1 d1 f1 g1 a2 b2 c2 d2 f2 g2 po lo hi fi st tw se qu ra bu rfl;rfl)) (fun t y p s q h=>tset h (by rintro n vn a b c d f g x y vt a1 b1 c1 d1 f1 g1 a2 b2 c2 d2 f2 g2 po lo hi fi st tw se qu ra bu rfl;rfl)) (fun t y h=>⟨h.key,h.vmac,h.host⟩) (fun t y=>⟨rfl,rfl,rfl⟩))⟩
def spHi:Sp Ten:=spNum 2 (fun t=>t.hi) (fun t y=>{ t with hi:=y })
theorem c_Hi {w V:World} {p:Nat×Obj} {E L:List (Nat×Obj)} (h:Mem w V (p::(E++L))) :
  Calls Tryz.prog 240 #[.int .i64 2,.func (.func 242) #[] #[]] V fun e V'=>∃ f E',e=.returned f.val∧Mem w V' (p::(E'++L))∧Sub E E'∧Fd w E' IT JT f spHi:=by
 refine (mk_num_TH h 2 242).mono ?_
 rintro e V' ⟨bs,bo,rfl,hM⟩
 exact ⟨_,_::_::E,rfl,swap_front2 hM,fun q hq=>List.mem_cons_of_mem _ (List.mem_cons_of_mem _ hq),fd_num_TH bs bo 2 242 25 (by omega) fits16 _ _ (List.mem_cons_self ..) (List.mem_cons_of_mem _ (List.mem_cons_self ..)) (enters_of Tryz.func242 (by kernel_rfl) rfl) acc_Hi (fun t r V g off h=>h.cell 25 (tget h.1.len (by rintro n vn a b c d f g x y vt a1 b1 c1 d1 f1 g1 a2 b2 c2 d2 f2 g2 po lo hi fi st tw se qu ra bu rfl;rfl))) (lens_T 25 (by omega) (fun t=>.int .u16 t.hi) (fun y=>.int .u16 y) (fun t y=>{ t with hi:=y }) (fun t p s q h=>tget h (by rintro n vn a b c d f g x y vt a1 b1 c1 d1 f1 g1 a2 b2 c2 d2 f2 g2 po lo hi fi st tw se qu ra bu rfl;rfl)) (fun t y p s q h=>tset h (by rintro n vn a b c d f g x y vt a1 b1 c1 d1 f1 g1 a2 b2 c2 d2 f2 g2 po lo hi fi st tw se qu ra bu rfl;rfl)) (fun t y h=>⟨h.key,h.vmac,h.host⟩) (fun t y=>⟨rfl,rfl,rfl⟩))⟩
def spFilter:Sp Ten:=spNum 1 (fun t=>t.filter) (fun t y=>{ t with filter:=y })
theorem c_Filter {w V:World} {p:Nat×Obj} {E L:List (Nat×Obj)} (h:Mem w V (p::(E++L))) :
  Calls Tryz.prog 243 #[.int .i64 1,.func (.func 244) #[] #[]] V fun e V'=>∃ f E',e=.returned f.val∧Mem w V' (p::(E'++L))∧Sub E E'∧Fd w E' IT JT f spFilter:=by
 refine (mk_num_TI h 1 244).mono ?_
 rintro e V' ⟨bs,bo,rfl,hM⟩
 exact ⟨_,_::_::E,rfl,swap_front2 hM,fun q hq=>List.mem_cons_of_mem _ (List.mem_cons_of_mem _ hq),fd_num_TI bs bo 1 244 26 (by omega) (fits64 1 (by omega)) _ _ (List.mem_cons_self ..) (List.mem_cons_of_mem _ (List.mem_cons_self ..)) (enters_of Tryz.func244 (by kernel_rfl) rfl) acc_Filter (fun t r V g off h=>h.cell 26 (tget h.1.len (by rintro n vn a b c d f g x y vt a1 b1 c1 d1 f1 g1 a2 b2 c2 d2 f2 g2 po lo hi fi st tw se qu ra bu rfl;rfl))) (lens_T 26 (by omega) (fun t=>.int .i64 t.filter) (fun y=>.int .i64 y) (fun t y=>{ t with filter:=y }) (fun t p s q h=>tget h (by rintro n vn a b c d f g x y vt a1 b1 c1 d1 f1 g1 a2 b2 c2 d2 f2 g2 po lo hi fi st tw se qu ra bu rfl;rfl)) (fun t y p s q h=>tset h (by rintro n vn a b c d f g x y vt a1 b1 c1 d1 f1 g1 a2 b2 c2 d2 f2 g2 po lo hi fi st tw se qu ra bu rfl;rfl)) (fun t y h=>⟨h.key,h.vmac,h.host⟩) (fun t y=>⟨rfl,rfl,rfl⟩))⟩
def spSess:Sp Ten:=spNum 2 (fun t=>t.sess) (fun t y=>{ t with sess:=y })
theorem c_Sess {w V:World} {p:Nat×Obj} {E L:List (Nat×Obj)} (h:Mem w V (p::(E++L))) :
  Calls Tryz.prog 243 #[.int .i64 2,.func (.func 245) #[] #[]] V fun e V'=>∃ f E',e=.returned f.val∧Mem w V' (p::(E'++L))∧Sub E E'∧Fd w E' IT JT f spSess:=by
 refine (mk_num_TI h 2 245).mono ?_
 rintro e V' ⟨bs,bo,rfl,hM⟩
 exact ⟨_,_::_::E,rfl,swap_front2 hM,fun q hq=>List.mem_cons_of_mem _ (List.mem_cons_of_mem _ hq),fd_num_TI bs bo 2 245 29 (by omega) (fits64 2 (by omega)) _ _ (List.mem_cons_self ..) (List.mem_cons_of_mem _ (List.mem_cons_self ..)) (enters_of Tryz.func245 (by kernel_rfl) rfl) acc_Sess (fun t r V g off h=>h.cell 29 (tget h.1.len (by rintro n vn a b c d f g x y vt a1 b1 c1 d1 f1 g1 a2 b2 c2 d2 f2 g2 po lo hi fi st tw se qu ra bu rfl;rfl))) (lens_T 29 (by omega) (fun t=>.int .i64 t.sess) (fun y=>.int .i64 y) (fun t y=>{ t with sess:=y }) (fun t p s q h=>tget h (by rintro n vn a b c d f g x y vt a1 b1 c1 d1 f1 g1 a2 b2 c2 d2 f2 g2 po lo hi fi st tw se qu ra bu rfl;rfl)) (fun t y p s q h=>tset h (by rintro n vn a b c d f g x y vt a1 b1 c1 d1 f1 g1 a2 b2 c2 d2 f2 g2 po lo hi fi st tw se qu ra bu rfl;rfl)) (fun t y h=>⟨h.key,h.vmac,h.host⟩) (fun t y=>⟨rfl,rfl,rfl⟩))⟩
def spQueue:Sp Ten:=spNum 2 (fun t=>t.queue) (fun t y=>{ t with queue:=y })
theorem c_Queue {w V:World} {p:Nat×Obj} {E L:List (Nat×Obj)} (h:Mem w V (p::(E++L))) :
  Calls Tryz.prog 243 #[.int .i64 2,.func (.func 246) #[] #[]] V fun e V'=>∃ f E',e=.returned f.val∧Mem w V' (p::(E'++L))∧Sub E E'∧Fd w E' IT JT f spQueue:=by
 refine (mk_num_TI h 2 246).mono ?_
 rintro e V' ⟨bs,bo,rfl,hM⟩
 exact ⟨_,_::_::E,rfl,swap_front2 hM,fun q hq=>List.mem_cons_of_mem _ (List.mem_cons_of_mem _ hq),fd_num_TI bs bo 2 246 30 (by omega) (fits64 2 (by omega)) _ _ (List.mem_cons_self ..) (List.mem_cons_of_mem _ (List.mem_cons_self ..)) (enters_of Tryz.func246 (by kernel_rfl) rfl) acc_Queue (fun t r V g off h=>h.cell 30 (tget h.1.len (by rintro n vn a b c d f g x y vt a1 b1 c1 d1 f1 g1 a2 b2 c2 d2 f2 g2 po lo hi fi st tw se qu ra bu rfl;rfl))) (lens_T 30 (by omega) (fun t=>.int .i64 t.queue) (fun y=>.int .i64 y) (fun t y=>{ t with queue:=y }) (fun t p s q h=>tget h (by rintro n vn a b c d f g x y vt a1 b1 c1 d1 f1 g1 a2 b2 c2 d2 f2 g2 po lo hi fi st tw se qu ra bu rfl;rfl)) (fun t y p s q h=>tset h (by rintro n vn a b c d f g x y vt a1 b1 c1 d1 f1 g1 a2 b2 c2 d2 f2 g2 po lo hi fi st tw se qu ra bu rfl;rfl)) (fun t y h=>⟨h.key,h.vmac,h.host⟩) (fun t y=>⟨rfl,rfl,rfl⟩))⟩
def spRate:Sp Ten:=spNum 4 (fun t=>t.rate) (fun t y=>{ t with rate:=y })
theorem c_Rate {w V:World} {p:Nat×Obj} {E L:List (Nat×Obj)} (h:Mem w V (p::(E++L))) :
  Calls Tryz.prog 233 #[.int .i64 4,.func (.func 247) #[] #[]] V fun e V'=>∃ f E',e=.returned f.val∧Mem w V' (p::(E'++L))∧Sub E E'∧Fd w E' IT JT f spRate:=by
 refine (mk_num_TU h 4 247).mono ?_
 rintro e V' ⟨bs,bo,rfl,hM⟩
 exact ⟨_,_::_::E,rfl,swap_front2 hM,fun q hq=>List.mem_cons_of_mem _ (List.mem_cons_of_mem _ hq),fd_num_TU bs bo 4 247 31 (by omega) fits32 _ _ (List.mem_cons_self ..) (List.mem_cons_of_mem _ (List.mem_cons_self ..)) (enters_of Tryz.func247 (by kernel_rfl) rfl) acc_Rate (fun t r V g off h=>h.cell 31 (tget h.1.len (by rintro n vn a b c d f g x y vt a1 b1 c1 d1 f1 g1 a2 b2 c2 d2 f2 g2 po lo hi fi st tw se qu ra bu rfl;rfl))) (lens_T 31 (by omega) (fun t=>.int .u32 t.rate) (fun y=>.int .u32 y) (fun t y=>{ t with rate:=y }) (fun t p s q h=>tget h (by rintro n vn a b c d f g x y vt a1 b1 c1 d1 f1 g1 a2 b2 c2 d2 f2 g2 po lo hi fi st tw se qu ra bu rfl;rfl)) (fun t y p s q h=>tset h (by rintro n vn a b c d f g x y vt a1 b1 c1 d1 f1 g1 a2 b2 c2 d2 f2 g2 po lo hi fi st tw se qu ra bu rfl;rfl)) (fun t y h=>⟨h.key,h.vmac,h.host⟩) (fun t y=>⟨rfl,rfl,rfl⟩))⟩
def spBurst:Sp Ten:=spNum 4 (fun t=>t.burst) (fun t y=>{ t with burst:=y })
theorem c_Burst {w V:World} {p:Nat×Obj} {E L:List (Nat×Obj)} (h:Mem w V (p::(E++L))) :
  Calls Tryz.prog 233 #[.int .i64 4,.func (.func 248) #[] #[]] V fun e V'=>∃ f E',e=.returned f.val∧Mem w V' (p::(E'++L))∧Sub E E'∧Fd w E' IT JT f spBurst:=by
 refine (mk_num_TU h 4 248).mono ?_
 rintro e V' ⟨bs,bo,rfl,hM⟩
 exact ⟨_,_::_::E,rfl,swap_front2 hM,fun q hq=>List.mem_cons_of_mem _ (List.mem_cons_of_mem _ hq),fd_num_TU bs bo 4 248 32 (by omega) fits32 _ _ (List.mem_cons_self ..) (List.mem_cons_of_mem _ (List.mem_cons_self ..)) (enters_of Tryz.func248 (by kernel_rfl) rfl) acc_Burst (fun t r V g off h=>h.cell 32 (tget h.1.len (by rintro n vn a b c d f g x y vt a1 b1 c1 d1 f1 g1 a2 b2 c2 d2 f2 g2 po lo hi fi st tw se qu ra bu rfl;rfl))) (lens_T 32 (by omega) (fun t=>.int .u32 t.burst) (fun y=>.int .u32 y) (fun t y=>{ t with burst:=y }) (fun t p s q h=>tget h (by rintro n vn a b c d f g x y vt a1 b1 c1 d1 f1 g1 a2 b2 c2 d2 f2 g2 po lo hi fi st tw se qu ra bu rfl;rfl)) (fun t y p s q h=>tset h (by rintro n vn a b c d f g x y vt a1 b1 c1 d1 f1 g1 a2 b2 c2 d2 f2 g2 po lo hi fi st tw se qu ra bu rfl;rfl)) (fun t y h=>⟨h.key,h.vmac,h.host⟩) (fun t y=>⟨rfl,rfl,rfl⟩))⟩
def spPool:Sp Ten:=spCnt (fun t=>t.pool.length) set_pool
theorem c_Pool {w V:World} {p:Nat×Obj} {E L:List (Nat×Obj)} (h:Mem w V (p::(E++L))) :
  Calls Tryz.prog 249 #[.func (.func 227) #[] #[]] V fun e V'=>∃ f E',e=.returned f.val∧Mem w V' (p::(E'++L))∧Sub E E'∧Fd w E' IT JT f spPool:=by
 refine (mk_Cnt_TU h 227).mono ?_
 rintro e V' ⟨bo,rfl,hM⟩
 refine ⟨_,_::E,rfl,swap_front hM,fun q hq=>List.mem_cons_of_mem _ hq,fd_Cnt_TU bo 227 23 _ _ (List.mem_cons_self ..) (enters_of Tryz.func227 (by kernel_rfl) rfl) acc_Pool (fun r=>r.1) (fun t r V g off h=>⟨?_,h.cell 23 (tget h.1.len (by rintro n vn a b c d f g x y vt a1 b1 c1 d1 f1 g1 a2 b2 c2 d2 f2 g2 po lo hi fi st tw se qu ra bu rfl;rfl))⟩) lens_Cpool⟩
 obtain ⟨a,c,e,h1,h2,h3,-⟩:=h.2.2.1
 have hl:(ux t.pool).length=t.pool.length:=by simp [ux]
 rw [hl] at e h1
 exact ⟨a,c,e,h1,h2,h3⟩
def spStatics:Sp Ten:=spCnt (fun t=>t.stat.length) set_stat
theorem c_Statics {w V:World} {p:Nat×Obj} {E L:List (Nat×Obj)} (h:Mem w V (p::(E++L))) :
  Calls Tryz.prog 250 #[.func (.func 228) #[] #[]] V fun e V'=>∃ f E',e=.returned f.val∧Mem w V' (p::(E'++L))∧Sub E E'∧Fd w E' IT JT f spStatics:=by
 refine (mk_Cnt_TP h 228).mono ?_
 rintro e V' ⟨bo,rfl,hM⟩
 refine ⟨_,_::E,rfl,swap_front hM,fun q hq=>List.mem_cons_of_mem _ hq,fd_Cnt_TP bo 228 27 _ _ (List.mem_cons_self ..) (enters_of Tryz.func228 (by kernel_rfl) rfl) acc_Statics (fun r=>r.2.1) (fun t r V g off h=>⟨?_,h.cell 27 (tget h.1.len (by rintro n vn a b c d f g x y vt a1 b1 c1 d1 f1 g1 a2 b2 c2 d2 f2 g2 po lo hi fi st tw se qu ra bu rfl;rfl))⟩) lens_Cstat⟩
 obtain ⟨a,c,e,h1,h2,h3,-⟩:=h.2.2.2.1
 have hl:(px t.stat).length=t.stat.length:=by simp [px]
 rw [hl] at e h1
 exact ⟨a,c,e,h1,h2,h3⟩
def spTwices:Sp Ten:=spCnt (fun t=>t.twi.length) set_twi
theorem c_Twices {w V:World} {p:Nat×Obj} {E L:List (Nat×Obj)} (h:Mem w V (p::(E++L))) :
  Calls Tryz.prog 250 #[.func (.func 229) #[] #[]] V fun e V'=>∃ f E',e=.returned f.val∧Mem w V' (p::(E'++L))∧Sub E E'∧Fd w E' IT JT f spTwices:=by
 refine (mk_Cnt_TP h 229).mono ?_
 rintro e V' ⟨bo,rfl,hM⟩
 refine ⟨_,_::E,rfl,swap_front hM,fun q hq=>List.mem_cons_of_mem _ hq,fd_Cnt_TP bo 229 28 _ _ (List.mem_cons_self ..) (enters_of Tryz.func229 (by kernel_rfl) rfl) acc_Twices (fun r=>r.2.2) (fun t r V g off h=>⟨?_,h.cell 28 (tget h.1.len (by rintro n vn a b c d f g x y vt a1 b1 c1 d1 f1 g1 a2 b2 c2 d2 f2 g2 po lo hi fi st tw se qu ra bu rfl;rfl))⟩) lens_Ctwi⟩
 obtain ⟨a,c,e,h1,h2,h3,-⟩:=h.2.2.2.2
 have hl:(px t.twi).length=t.twi.length:=by simp [px]
 rw [hl] at e h1
 exact ⟨a,c,e,h1,h2,h3⟩
def spPoolI:Sp Ten:=spItm 0 spU (fun t=>t.pool) (fun t y=>{ t with pool:=y })
theorem c_PoolI {w V:World} {p:Nat×Obj} {E L:List (Nat×Obj)} (h:Mem w V (p::(E++L))) (fi:Fv) (hfi:Fd w E IU JU fi spU) :
  Calls Tryz.prog 251 #[.func (.func 227) #[] #[],fi.val] V fun e V'=>∃ f E',e=.returned f.val∧Mem w V' (p::(E'++L))∧Sub E E'∧Fd w E' IT JT f spPoolI:=by
 refine (mk_Itm_TU h 227 fi).mono ?_
 rintro e V' ⟨bo,bi,rfl,hM⟩
 exact ⟨_,_::_::E,rfl,swap_front2 hM,fun q hq=>List.mem_cons_of_mem _ (List.mem_cons_of_mem _ hq),fd_Itm_TU bo bi 227 23 _ _ fi spU spU_eq (hfi.more (fun q hq=>List.mem_cons_of_mem _ (List.mem_cons_of_mem _ hq))) (List.mem_cons_self ..) (List.mem_cons_of_mem _ (List.mem_cons_self ..)) (enters_of Tryz.func227 (by kernel_rfl) rfl) acc_Pool (fun r=>r.1) (fun t r V g off h=>⟨h.1.pool,h.2.2.1,h.cell 23 (tget h.1.len (by rintro n vn a b c d f g x y vt a1 b1 c1 d1 f1 g1 a2 b2 c2 d2 f2 g2 po lo hi fi st tw se qu ra bu rfl;rfl))⟩) lens_Ipool⟩
def spStaticsI:Sp Ten:=spItm (0,0) spP (fun t=>t.stat) (fun t y=>{ t with stat:=y })
theorem c_StaticsI {w V:World} {p:Nat×Obj} {E L:List (Nat×Obj)} (h:Mem w V (p::(E++L))) (fi:Fv) (hfi:Fd w E IP JP fi spP) :
  Calls Tryz.prog 253 #[.func (.func 228) #[] #[],fi.val] V fun e V'=>∃ f E',e=.returned f.val∧Mem w V' (p::(E'++L))∧Sub E E'∧Fd w E' IT JT f spStaticsI:=by
 refine (mk_Itm_TP h 228 fi).mono ?_
 rintro e V' ⟨bo,bi,rfl,hM⟩
 exact ⟨_,_::_::E,rfl,swap_front2 hM,fun q hq=>List.mem_cons_of_mem _ (List.mem_cons_of_mem _ hq),fd_Itm_TP bo bi 228 27 _ _ fi spP spP_eq (hfi.more (fun q hq=>List.mem_cons_of_mem _ (List.mem_cons_of_mem _ hq))) (List.mem_cons_self ..) (List.mem_cons_of_mem _ (List.mem_cons_self ..)) (enters_of Tryz.func228 (by kernel_rfl) rfl) acc_Statics (fun r=>r.2.1) (fun t r V g off h=>⟨h.1.stat,h.2.2.2.1,h.cell 27 (tget h.1.len (by rintro n vn a b c d f g x y vt a1 b1 c1 d1 f1 g1 a2 b2 c2 d2 f2 g2 po lo hi fi st tw se qu ra bu rfl;rfl))⟩) lens_Istat⟩
def spTwicesI:Sp Ten:=spItm (0,0) spP (fun t=>t.twi) (fun t y=>{ t with twi:=y })
theorem c_TwicesI {w V:World} {p:Nat×Obj} {E L:List (Nat×Obj)} (h:Mem w V (p::(E++L))) (fi:Fv) (hfi:Fd w E IP JP fi spP) :
  Calls Tryz.prog 253 #[.func (.func 229) #[] #[],fi.val] V fun e V'=>∃ f E',e=.returned f.val∧Mem w V' (p::(E'++L))∧Sub E E'∧Fd w E' IT JT f spTwicesI:=by
 refine (mk_Itm_TP h 229 fi).mono ?_
 rintro e V' ⟨bo,bi,rfl,hM⟩
 exact ⟨_,_::_::E,rfl,swap_front2 hM,fun q hq=>List.mem_cons_of_mem _ (List.mem_cons_of_mem _ hq),fd_Itm_TP bo bi 229 28 _ _ fi spP spP_eq (hfi.more (fun q hq=>List.mem_cons_of_mem _ (List.mem_cons_of_mem _ hq))) (List.mem_cons_self ..) (List.mem_cons_of_mem _ (List.mem_cons_self ..)) (enters_of Tryz.func229 (by kernel_rfl) rfl) acc_Twices (fun r=>r.2.2) (fun t r V g off h=>⟨h.1.twi,h.2.2.2.2,h.cell 28 (tget h.1.len (by rintro n vn a b c d f g x y vt a1 b1 c1 d1 f1 g1 a2 b2 c2 d2 f2 g2 po lo hi fi st tw se qu ra bu rfl;rfl))⟩) lens_Itwi⟩
theorem c_address {w V:World} {p:Nat×Obj} {E L:List (Nat×Obj)} (h:Mem w V (p::(E++L))) :
  Calls Tryz.prog 252 #[] V fun e V'=>∃ f E',e=.returned f.val∧Mem w V' (p::(E'++L))∧Sub E E'∧Fd w E' IU JU f spU:=by
 refine (address_any h).mono ?_
 rintro e V' ⟨f,A,rfl,hM,hF⟩
 exact ⟨f,A++E,rfl,swap_app hM,fun q hq=>List.mem_append_right _ hq,hF.more (fun q hq=>List.mem_append_left _ hq)⟩
theorem c_pair {w V:World} {p:Nat×Obj} {E L:List (Nat×Obj)} (h:Mem w V (p::(E++L))) :
  Calls Tryz.prog 254 #[] V fun e V'=>∃ f E',e=.returned f.val∧Mem w V' (p::(E'++L))∧Sub E E'∧Fd w E' IP JP f spP:=by
 refine (pair_any h).mono ?_
 rintro e V' ⟨f,A,rfl,hM,hF⟩
 exact ⟨f,A++E,rfl,swap_app hM,fun q hq=>List.mem_append_right _ hq,hF.more (fun q hq=>List.mem_append_left _ hq)⟩
def tsp:List (Sp Ten):=[spName,spVni,spKey,spVtep,spVtepMac,spHost,spLo,spHi,spFilter,spSess,spQueue,spRate,spBurst,spPool,spStatics,spTwices,spPoolI,spStaticsI,spTwicesI]
def spT:Sp Ten:=spAll tsp
end Go.Proofs.YtdigofgjhaakmaaGreatDoor
