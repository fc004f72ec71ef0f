/-
  Whether a script is light.
  Plain mathematics: a text cut at a sign, at all of them, or at so many.
  Numbers as text: the program's Num and the document's own, at every text.
  What is changed: Apply and Diff as functions of lists, and what becomes of changes that are applied.
  What this program calls of Go's library, in this text's own words: a text cut at a sign, texts joined, a number's text, runes.
  Names, in plain bytes.
  Hexadecimal digits: the program's hexValue and readHex, and the document's own hex and two.
  Numbers as text: the document's own Num, at every text, and a number's own text.
  The document's own parts of a text, between a sign.
  What is changed: a map of tenants by their names, as a list in order.
-/
import Derived.Test.YtdigofgjhaakmaaGreatDoorW21
import Derived.Test.YtdigofgjhaakmaaGreatDoorW20
import Derived.Lib.SplitLaws
import Derived.Test.YtdigofgjhaakmaaGreatDoorRows
import Derived.WalkKit
import Derived.WalkSpells
import Derived.WalkLawsBesides
import Derived.LoopTactic
import Derived.Below
import Derived.Test.YtdigofgjhaakmaaGreatDoorW18
import Derived.Test.YtdigofgjhaakmaaGreatDoorW14
import Derived.Lib.ValidLaws
import Derived.Lib.TrimUEq
import Derived.Lib.TrimAscii
import Derived.Test.YtdigofgjhaakmaaGreatDoorW02
import Derived.Lib.OthersKept
import Derived.Test.YtdigofgjhaakmaaGreatDoorW19
import Derived.Test.YtdigofgjhaakmaaGreatDoorW13
import Derived.Maps.RangeWalk
import Derived.Maps.OwnSet
import Derived.Sort.KeysCollected
set_option linter.unusedVariables false
set_option linter.unusedSimpArgs false
set_option maxRecDepth 20000
set_option maxHeartbeats 40000000
namespace Go.Proofs.YtdigofgjhaakmaaGreatDoor
open Go.RowKit
open Sm
open Cf
def ActsW (w:World) (a:Option Addr) (n:Nat) (X:Nat→Ac):Prop:=∀ i,i < n→∃ b off,a=some ⟨b,off,none⟩∧w.rangeAt b (off+i * 70) (aC (X i))∧(aC (X i)).length=70∧AcW w (X i)
end Go.Proofs.YtdigofgjhaakmaaGreatDoor
namespace Go.Proofs.YtdigofgjhaakmaaGreatDoor
namespace Ad
def cut (c:UInt8):List UInt8→List (List UInt8)
 | []=>[[]]
 | x::l=>if x=c then []::cut c l else match cut c l with
  | []=>[[x]]
  | p::r=>(x::p)::r
end Ad
end Go.Proofs.YtdigofgjhaakmaaGreatDoor
namespace Go.Proofs.YtdigofgjhaakmaaGreatDoor
open Go.RowKit
open Ad
theorem isDigit_any (r:Int) (w:World):Calls Tryz.prog 313 #[.int .i32 r] w fun e w'=>e=.returned (.bool (decide (48≤r∧r≤57)))∧w=w':=by
 by_cases h1:48≤r
 ·by_cases h2:r≤57
  ·have hd:decide (48≤r∧r≤57)=true:=by simp;omega
   rw [hd]
   go_enter Tryz.func313,Tryz.ntmps313
   go_wp2
   go_ret
   exact ⟨by first | rfl | simp [h2],rfl⟩
  ·have hd:decide (48≤r∧r≤57)=false:=by simp;omega
   rw [hd]
   go_enter Tryz.func313,Tryz.ntmps313
   go_wp2
   go_ret
   exact ⟨by first | rfl | simp [h2],rfl⟩
 ·have hd:decide (48≤r∧r≤57)=false:=by simp;omega
  rw [hd]
  go_enter Tryz.func313,Tryz.ntmps313
  go_wp2
  go_ret
  exact ⟨rfl,rfl⟩
theorem wrap64 {x:Int} (h0:-9223372036854775808≤x) (h1:x≤9223372036854775807):IntKind.i64.wrap x=x:=by
 simp [IntKind.wrap,IntKind.bits,IntKind.signed];omega
theorem iter_below (w:World) (s:ByteArray) (p:Nat):Below w.heap.size w (w.iter s p):=(Below.refl _ w).alloc (Nat.le_refl _) _
end Go.Proofs.YtdigofgjhaakmaaGreatDoor
namespace Go.Proofs.YtdigofgjhaakmaaGreatDoor
open Go.RowKit
open Sm
open Cf
namespace Df
def nk (t:Ten):List UInt8:=t.name.data.toList
theorem nk_name (t:Ten):(⟨(nk t).toArray⟩:ByteArray)=t.name:=by simp [nk]
def stp (M:List Ten) (h:Chg):List Ten:=if h.put then put nk h.t true M else del nk h.name.data.toList M
def app (l:List Ten) (c:List Chg):List Ten:=c.foldl stp (byn nk l)
theorem app_nil (l:List Ten):app l []=byn nk l:=rfl
theorem mem_stp {M:List Ten} {c:Chg} {x:Ten} (h:x∈stp M c):x∈M∨(c.put=true∧x=c.t):=by
 unfold stp at h
 split at h
 ·rename_i hp
  rcases mem_put h with h | h
  ·exact Or.inr ⟨hp,h⟩
  ·exact Or.inl h
 ·exact Or.inl (mem_del.1 h).1
theorem mem_stps {c:List Chg}:∀ {M:List Ten} {x:Ten},x∈c.foldl stp M→x∈M∨∃ h∈c,h.put=true∧x=h.t:=by
 induction c with
 | nil=>intro M x h;exact Or.inl h
 | cons y c ih =>
  intro M x h
  rcases ih h with h | ⟨z,hz,h1⟩
  ·rcases mem_stp h with h | h
   ·exact Or.inl h
   ·exact Or.inr ⟨y,by simp,h⟩
  ·exact Or.inr ⟨z,by simp [hz],h1⟩
theorem mem_app {l:List Ten} {c:List Chg} {x:Ten} (h:x∈app l c):x∈l∨∃ h∈c,h.put=true∧x=h.t:=by
 rcases mem_stps h with h | h
 ·exact Or.inl (mem_byn h)
 ·exact Or.inr h
theorem stp_length (M:List Ten) (c:Chg):(stp M c).length≤M.length+1:=by
 unfold stp
 split
 ·exact put_length _ _ _
 ·exact Nat.le_trans (del_length _ _) (Nat.le_succ _)
theorem stps_length (c:List Chg):∀ M:List Ten,(c.foldl stp M).length≤M.length+c.length:=by
 induction c with
 | nil=>simp
 | cons x c ih=>intro M;have:=ih (stp M x);have:=stp_length M x;simp only [List.foldl_cons,List.length_cons];omega
theorem app_length (l:List Ten) (c:List Chg):(app l c).length≤l.length+c.length:=Nat.le_trans (stps_length c _) (Nat.add_le_add_right (byn_length l) _)
theorem tsame_iff {t z:Ten}:TSame t z ↔ t=z:=by
 constructor
 ·intro h
  obtain ⟨n,vn,key,vt,vm,ho,po,lo,hi,fi,st,tw,se,qu,ra,bu⟩:=t
  obtain ⟨n',vn',key',vt',vm',ho',po',lo',hi',fi',st',tw',se',qu',ra',bu'⟩:=z
  obtain ⟨h10,h11,h12,h13,h14,h15,h16,h17,h18,h19,h20,h21,h22,h23,h24,h25⟩:=h
  simp only at h10 h11 h12 h13 h14 h15 h16 h17 h18 h19 h20 h21 h22 h23 h24 h25
  have e:n=n':=by
   obtain ⟨⟨a⟩⟩:=n
   obtain ⟨⟨b⟩⟩:=n'
   simp only [sb] at h10
   have:a=b:=List.map_inj_right (f:=fun b:UInt8=>(b.toNat:Int)) (fun x y h=>UInt8.toNat.inj (Int.ofNat.inj h)) |>.1 h10
   rw [this]
  subst e h11 h12 h13 h14 h15 h16 h17 h18 h19 h20 h21 h22 h23 h24 h25
  rfl
 ·rintro rfl
  exact ⟨rfl,rfl,rfl,rfl,rfl,rfl,rfl,rfl,rfl,rfl,rfl,rfl,rfl,rfl,rfl,rfl⟩
def un (A B:List Ten):List (List UInt8):=byn id (A.map nk++B.map nk)
end Df
end Go.Proofs.YtdigofgjhaakmaaGreatDoor
namespace Go.Proofs.YtdigofgjhaakmaaGreatDoor
open Go.RowKit
open Ad
structure Vs (w:World):Prop where
 utf:Lib.Utf8Tabs 2 3 w
theorem cell_in {w:World} {p:Addr} {v:Value} (h:w.cell? p=some v):p.block < w.heap.size:=by
 by_cases hc:p.block < w.heap.size
 ·exact hc
 ·have:w.heap[p.block]? = none:=by simp;omega
  simp [World.cell?,this] at h
theorem Vs.below {w w':World} (h:Vs w) (hb:Below w.heap.size w w'):Vs w' where
 utf:=Utf8Tabs_below h.utf hb
theorem valid_any {w:World} (hV:Vs w) (s:ByteArray) (hs:s.size≤1000000) :
  Calls Tryz.prog 258 #[.string s] w fun e w'=>e=.returned (.bool (Lib.validD s.data.toList))∧Below w.heap.size w w' :=
 Any.utf8_ValidString Tryz.lays196 s w (by omega) hV.utf
namespace Ad
def mb (r:Nat):Bool:=decide ((97≤r∧r≤122)∨127 < r)
def mf (r:Nat):Bool:=decide ((48≤r∧r≤57)∨r=45)
def okr (first:Bool) (r:Nat):Bool:=mb r || (!first && mf r)
def pn:Nat→Bool→List UInt8→Bool
 | 0,_,_=>true
 | f+1,first,l=>if l=[] then true else if okr first (Lib.decodeL l).1 then pn f false (l.drop (Lib.decodeL l).2) else false
def rn:Nat→Bool→List UInt8→Bool
 | 0,_,_=>true
 | f+1,first,[]=>true
 | f+1,first,b::t=>if b.toNat < 128 then (if okr first b.toNat then rn f false t else false)
  else if (Lib.decodeL (b::t)).1=65533∧(Lib.decodeL (b::t)).2=1 then false else rn f false ((b::t).drop (Lib.decodeL (b::t)).2)
theorem decode_lead (b:UInt8) (t:List UInt8) (h:128≤b.toNat):128≤(Lib.decodeL (b::t)).1:=by
 unfold Lib.decodeL
 have hs:(⟨(b::t).toArray⟩:ByteArray).size=t.length+1:=by show (b::t).toArray.size=_;simp
 exact (decode_high ⟨(b::t).toArray⟩ 0 (by omega) (by show 128≤((b::t).toArray[0]).toNat;simpa using h)).1
theorem pn_rn:∀ (f:Nat) (first:Bool) (l:List UInt8),l.length≤f→(Lib.validD l && pn f first l)=rn f first l
 | 0,first,l,h=>by
  have:l=[]:=List.eq_nil_of_length_eq_zero (by omega)
  subst this
  rfl
 | f+1,first,[],h=>by rw [pn,rn,if_pos rfl,Lib.validD_nil];rfl
 | f+1,first,b::t,h=>by
  have hne:b::t≠[]:=by simp
  have hw:=Lib.decodeL_width (b::t)
  simp only [List.length_cons] at h
  rw [pn,if_neg hne,rn,Lib.validD_step _ hne]
  by_cases ha:b.toNat < 128
  ·rw [if_pos ha,Lib.decodeL_ascii b t ha,if_neg (by simp;omega)]
   simp only [List.drop_succ_cons,List.drop_zero]
   by_cases ho:okr first b.toNat=true
   ·rw [if_pos ho,if_pos ho];exact pn_rn f false t (by omega)
   ·rw [if_neg ho,if_neg ho,Bool.and_false]
  ·rw [if_neg ha]
   have hd:=decode_lead b t (by omega)
   have ho:okr first (Lib.decodeL (b::t)).1=true:=by
    unfold okr mb
    rw [decide_eq_true (Or.inr (by omega)),Bool.true_or]
   rw [if_pos ho]
   by_cases hbad:(Lib.decodeL (b::t)).1=65533∧(Lib.decodeL (b::t)).2=1
   ·rw [if_pos hbad,if_pos hbad,Bool.false_and]
   ·rw [if_neg hbad,if_neg hbad]
    apply pn_rn
    rw [List.length_drop,List.length_cons];omega
def nam (l:List UInt8):Bool:=decide (1≤l.length∧l.length≤32) && rn l.length true l
theorem pn_nil (f:Nat) (first:Bool):pn f first []=true:=by cases f <;> simp [pn]
theorem pn_step {f:Nat} {first:Bool} {l:List UInt8} (hne:l≠[]) (hl:l.length≤f):pn f first l=if okr first (Lib.decodeL l).1 then pn (f - 1) false (l.drop (Lib.decodeL l).2) else false:=by
 cases f with
 | zero=>exact absurd (List.eq_nil_of_length_eq_zero (by omega)) hne
 | succ f=>rw [pn,if_neg hne];rfl
end Ad
end Go.Proofs.YtdigofgjhaakmaaGreatDoor
namespace Go.Proofs.YtdigofgjhaakmaaGreatDoor
open Go.RowKit
open Sm
open Cf
open Df
open Go.Maps (Keyed)
namespace Df
def fk (z:Tv):List UInt8:=nk z.1
def tv (z:Tv):Value:=.agg (zc z).toArray
def RH:Value→Option (DataW Value×List MemPlace):=fun v=>some (.held v,[])
def en (z:Tv):Lit×DataW Value:=(.string (fk z),.held (tv z))
def DM (M:List Tv):DataW Value:=.map (M.map en)
def MV (V:World) (b n:Nat) (M:List Tv):Prop:=V.ownsMap Tryz.prog 9 RH b n (DM M)∧Srt fk M
theorem law9:Keyed Tryz.prog 9:=Go.Maps.string_keyed Tryz.underlying9
theorem before_lt (a b:List UInt8):(Lit.string a).before (.string b)=decide (a < b):=by
 rw [←bytesLess_eq]
 show bytesBefore a b=_
 induction a generalizing b with
 | nil=>cases b <;> rfl
 | cons x a ih =>
  cases b with
  | nil=>rfl
  | cons y b=>simp only [bytesBefore,Op.bytesLess];rw [ih]
theorem same_eq (a b:List UInt8):(Lit.string a).sameKey (.string b)=decide (a=b):=by
 by_cases h:a=b
 ·subst h;simp [Lit.sameKey]
 ·simp [Lit.sameKey,h]
theorem dm_filter (n:List UInt8) (M:List Tv):(M.map en).filter (fun p=>!p.1.sameKey (.string n))=(del fk n M).map en:=by
 unfold del
 rw [List.filter_map]
 congr 1
 apply List.filter_congr
 intro x _
 show (!(Lit.string (fk x)).sameKey (.string n))=_
 rw [same_eq]
 simp
theorem dm_del (n:List UInt8) (M:List Tv):(DM M).del (.string n)=DM (del fk n M):=by
 unfold DM
 show DataW.map _=_
 rw [dm_filter]
theorem dm_insert (z:Tv):∀ {M:List Tv},Srt fk M→DataW.insert (en z) ((del fk (fk z) M).map en)=(put fk z true M).map en
 | [],_=>rfl
 | y::r,h=>by
  obtain ⟨h1,h2⟩:=List.pairwise_cons.1 h
  have ih:=dm_insert z h2
  unfold put
  by_cases hy:fk y < fk z
  ·have hne:fk y≠fk z:=lt_ne hy
   have e:del fk (fk z) (y::r)=y::del fk (fk z) r:=by simp [del,List.filter_cons,hne]
   rw [e,if_pos hy,List.map_cons,List.map_cons]
   unfold DataW.insert
   have hb:(en z).1.before (en y).1=false:=by
    show (Lit.string (fk z)).before (.string (fk y))=false
    rw [before_lt]
    exact decide_eq_false fun hh=>lt_irr _ (lt_tr hh hy)
   rw [hb]
   simp only [Bool.false_eq_true,if_false]
   rw [ih]
  ·rw [if_neg hy]
   by_cases he:fk y=fk z
   ·have e:del fk (fk z) (y::r)=r:=by
     rw [←he]
     have:=del_at h (k:=0) (by simp)
     simpa using this
    rw [e,if_pos he]
    simp only [if_true,List.map_cons]
    cases r with
    | nil=>rfl
    | cons x r =>
     have hb:(en z).1.before (en x).1=true:=by
      show (Lit.string (fk z)).before (.string (fk x))=true
      rw [before_lt,← he]
      exact decide_eq_true (h1 x (by simp))
     simp only [List.map_cons,DataW.insert]
     rw [hb]
     rfl
   ·have hlt:=lt_or hy he
    have e:del fk (fk z) (y::r)=y::r:=del_no fun k hk=>by
     have hm:(y::r)[k]∈y::r:=List.getElem_mem hk
     rcases List.mem_cons.1 hm with hm | hm
     ·rw [hm];exact he
     ·exact (lt_ne (lt_tr hlt (h1 _ hm))).symm
    rw [e,if_neg he]
    have hb:(en z).1.before (en y).1=true:=by
     show (Lit.string (fk z)).before (.string (fk y))=true
     rw [before_lt]
     exact decide_eq_true hlt
    simp only [List.map_cons,DataW.insert]
    rw [hb]
    rfl
theorem dm_put {M:List Tv} (h:Srt fk M) (z:Tv):(DM M).put (.string (fk z)) (.held (tv z))=DM (put fk z true M):=by
 unfold DM
 show DataW.map (DataW.insert _ _)=_
 rw [dm_filter]
 exact congrArg _ (dm_insert z h)
theorem dm_find (n:List UInt8):∀ M:List Tv,(M.map en).find? (fun p=>p.1.sameKey (.string n))=(look fk n M).map en
 | []=>rfl
 | y::r=>by
  have ih:=dm_find n r
  unfold look at ih ⊢
  rw [List.map_cons,List.find?_cons,List.find?_cons]
  show (match (Lit.string (fk y)).sameKey (.string n) with | true=>_ | false=>_)=_
  rw [same_eq]
  by_cases h:fk y=n
  ·simp [h]
  ·simp [h];simpa using ih
theorem dm_has (n:List UInt8) (M:List Tv):Go.Maps.has (DM M) (.string n)=(look fk n M).isSome:=by
 show (M.map en).any (fun p=>p.1.sameKey (.string n))=_
 have h:=dm_find n M
 cases hl:look fk n M with
 | none =>
  rw [hl] at h
  show (M.map en).any (fun p=>p.1.sameKey (.string n))=false
  rw [List.any_eq_false]
  intro x hx
  have:=List.find?_eq_none.1 h x hx
  simpa using this
 | some z =>
  rw [hl] at h
  show (M.map en).any (fun p=>p.1.sameKey (.string n))=true
  rw [List.any_eq_true]
  exact ⟨en z,List.mem_of_find?_eq_some h,List.find?_some (p:=fun p:Lit×DataW Value=>p.1.sameKey (.string n)) h⟩
theorem dm_at (n:List UInt8) (M:List Tv) (zd:DataW Value):(DM M).atKey (.string n) zd=match look fk n M with | some z=>.held (tv z) | none=>zd:=by
 unfold DM DataW.atKey
 simp only
 rw [dm_find]
 cases look fk n M <;> rfl
theorem dm_keys (M:List Tv):strKeys (DM M)=M.map fk:=by
 show (M.map en).map (fun p=>strOf p.1)=_
 rw [List.map_map]
 rfl
def vat (M:List Tv) (n:List UInt8):Value:=match look fk n M with | some z=>tv z | none=>.agg tz
theorem zeroT (w:World):(zeroValue 46).run Tryz.prog w=.ok (.agg tz) w:=by kernel_rfl
theorem key_s {s:ByteArray} (h:s.size≤maxLen):keyOf Tryz.prog 9 (.string s)=some (.string s.data.toList):=Go.WideMaps.keyOf_string_mk Tryz.underlying9 h
theorem MV.below {V V':World} {b n B:Nat} {M:List Tv} (h:MV V b n M) (hb:Below B V V') (hB:V.heap.size≤B):MV V' b n M:=by
 have hlt:=h.1.lt
 obtain ⟨⟨es,clock,h1,h2⟩,hs⟩:=h
 exact ⟨⟨es,clock,(hb.block b (by omega)).trans h1,h2⟩,hs⟩
theorem MV.size {V:World} {b n:Nat} {M:List Tv} (h:MV V b n M):M.length≤n:=by
 have:=h.1.size_le
 simpa [DM,Go.Maps.size] using this
theorem MV.made (w:World):MV (w.alloc (.map #[] 0)) w.heap.size 0 []:=⟨World.ownsMap_made w Tryz.prog 9 RH,List.Pairwise.nil⟩
section
variable {w:World} {ops:Array Oper} {rest:List Oper} {o:Oper} {a:Act} {Q:Exit→Act→World→Prop}
theorem wp_look_ok (hg:o.guard=none) (m x:Operand) (hop:o.op=Op.lookup 138 m x true) {b n:Nat} {M:List Tv} (hm:a.eval m=.map (some b)) (h:MV w b n M) {s:ByteArray} (hs:s.size≤maxLen) (hx:a.eval x=.string s)
  (hK:wpList Tryz.prog ops Q rest (a.put o.dst (.tuple #[vat M s.data.toList,.bool (look fk s.data.toList M).isSome])) w):wpList Tryz.prog ops Q (o::rest) a w:=by
 refine wpList_lookup_own_ok w hg m x 138 hop 9 46 law9 Tryz.underlying138 RH (zeroT w) (.held (.agg tz)) [] rfl b n (DM M) hm h.1 (.string s) _ hx (key_s hs) ?_
 intro v ps hv
 rw [dm_at] at hv
 rw [dm_has]
 have e:v=vat M s.data.toList:=by
  unfold vat
  cases hl:look fk s.data.toList M with
  | none =>
   rw [hl] at hv
   simp only [RH,Option.some.injEq,Prod.mk.injEq,DataW.held.injEq] at hv
   exact hv.1
  | some z =>
   rw [hl] at hv
   simp only [RH,Option.some.injEq,Prod.mk.injEq,DataW.held.injEq] at hv
   exact hv.1
 rw [e]
 exact hK
theorem wp_look (hg:o.guard=none) (m x:Operand) (hop:o.op=Op.lookup 138 m x false) {b n:Nat} {M:List Tv} (hm:a.eval m=.map (some b)) (h:MV w b n M) {s:ByteArray} (hs:s.size≤maxLen) (hx:a.eval x=.string s)
  (hK:wpList Tryz.prog ops Q rest (a.put o.dst (vat M s.data.toList)) w):wpList Tryz.prog ops Q (o::rest) a w:=by
 refine wpList_plain hg fun K' hK'=>?_
 obtain ⟨v,ps,hrun,hv⟩:=h.1.lookup law9 Tryz.underlying138 (zeroT w) (zd:=.held (.agg tz)) (zp:=[]) rfl (key_s hs)
 rw [dm_at] at hv
 have e:v=vat M s.data.toList:=by
  unfold vat
  cases hl:look fk s.data.toList M with
  | none =>
   rw [hl] at hv
   simp only [RH,Option.some.injEq,Prod.mk.injEq,DataW.held.injEq] at hv
   exact hv.1
  | some z =>
   rw [hl] at hv
   simp only [RH,Option.some.injEq,Prod.mk.injEq,DataW.held.injEq] at hv
   exact hv.1
 subst e
 unfold Oper.wp
 simp [execOp,hop,hm,hx,hrun,Result.andThen]
 exact hK' _ _ hK
theorem wp_store (hg:o.guard=none) (m x v:Operand) (hop:o.op=Op.mapUpdate 138 m x v) {b n:Nat} {M:List Tv} (hm:a.eval m=.map (some b)) (h:MV w b n M) (hn:n < maxLen) (z:Tv) (hs:z.1.name.size≤maxLen) (hx:a.eval x=.string z.1.name) (hv:a.eval v=tv z)
  (hK:∀ w',MV w' b (n+1) (put fk z true M)→w.grownBy w' (some b)→wpList Tryz.prog ops Q rest (a.put o.dst undef) w'):wpList Tryz.prog ops Q (o::rest) a w:=by
 refine wpList_mapUpdate_own w hg m x v 138 hop 9 46 law9 Tryz.underlying138 RH b n (DM M) hm h.1 hn _ _ _ hx hv (key_s hs) (.held (tv z)) [] rfl ?_
 intro w' h1 h2
 rw [show z.1.name.data.toList=fk z from rfl,dm_put h.2] at h1
 exact hK w' ⟨h1,srt_put h.2⟩ h2
theorem wp_drop (hg:o.guard=none) (m x:Operand) (hop:o.op=Op.call { callee:=Callee.builtin Builtin.delete,args:=#[m,x],argTypes:=#[138,9] }) {b n:Nat} {M:List Tv} (hm:a.eval m=.map (some b)) (h:MV w b n M) {s:ByteArray} (hs:s.size≤maxLen) (hx:a.eval x=.string s)
  (hK:∀ w',MV w' b n (del fk s.data.toList M)→w.grownBy w' (some b)→wpList Tryz.prog ops Q rest (a.put o.dst (.tuple #[])) w'):wpList Tryz.prog ops Q (o::rest) a w:=by
 refine wpList_delete_own w hg m x 138 9 hop 46 law9 Tryz.underlying138 RH b n (DM M) hm h.1 _ _ hx (key_s hs) ?_
 intro w' h1 h2
 rw [dm_del] at h1
 exact hK w' ⟨h1,srt_del h.2⟩ h2.grown
end
theorem put_false_some {M:List Tv} (h:Srt fk M) {z y:Tv} (hl:look fk (fk z) M=some y):put fk z false M=M:=by
 refine look_ext (srt_put h) h fun n=>?_
 by_cases e:fk z=n
 ·subst e;rw [look_put_same h,hl];rfl
 ·rw [look_put_other e]
theorem put_false_none {M:List Tv} (h:Srt fk M) {z:Tv} (hl:look fk (fk z) M=none):put fk z false M=put fk z true M:=by
 refine look_ext (srt_put h) (srt_put h) fun n=>?_
 by_cases e:fk z=n
 ·subst e;rw [look_put_same h,look_put_same h,hl];rfl
 ·rw [look_put_other e,look_put_other e]
end Df
end Go.Proofs.YtdigofgjhaakmaaGreatDoor
