/-
  Plain mathematics of the Internet's checksum, with no program in it: folding is the residue by 65535 (with the two noughts told apart), and a sum with end-around carry folds to what the plain sum folds to.
  Of no one layer: short forms of what drawn regions' walks name again and again.
  Rows of bytes in memory: what a slice of bytes reads as, rows that the call itself made, and bytes or noughts appended to them. Of no one program.
  Plain mathematics of the log, with no program in it: the CRC bit by bit, numbers as bytes, a block that holds a piece, entries in two slots.
  Plain mathematics of the log: what lies in two slots of blocks, and what an entry's writes leave there, wherever they fail.
  Laws of no one program: bytes copied into a row of the call's own, whatever lies beside it; bytes made; a cell of a block.
  What each function of package sum (and each of the document's own, lychref1) answers, as contracts: whatever the arguments, in whatever memory.
  What the statements' own helps answer: lychhelp.Bytes over two rows of the same bytes, lychref1's Get16, cut and Put16.
  What sum.Words answers (a new row of the words), and that the chapter's example stands (lychlaw1.known).
-/
import Derived.Laws.BitsLemmas
import Derived.Laws.BitsAllLaws
import Derived.Test.YtdigofgjhaakmaaGreatDoorRows
import Derived.OrdersHeld
import Derived.KernelRfl
import Derived.Deep.MidRow
import Derived.WalkKit
import Derived.WalkSpells
import Derived.WalkLawsBesides
import Derived.Laws.AppendOwnNone
import Derived.Lib.AppendZerosOnto
import Derived.Laws.CopyOwn
import Derived.Deep.OwnRows
import Derived.Deep.RegionHeld3
import Derived.Deep.QuietTactic
import Derived.BigQuiet
import Derived.Deep.DeepCutAuto
import Derived.Laws.BytesArg
import Derived.Lib.BufferRead
set_option linter.unusedVariables false
set_option maxHeartbeats 40000000
namespace Go.Proofs.YtdigofgjhaakmaaGreatDoor
namespace Sm
theorem wraps_u32 (n:Int) (h0:0≤n) (h1:n < 2 ^ 32):IntKind.u32.wrap n=n:=by rw [IntKind.wrap_u32];omega
theorem wraps_u64 (n:Int) (h0:0≤n) (h1:n < 2 ^ 64):IntKind.u64.wrap n=n:=by
 simp [IntKind.wrap,IntKind.bits,IntKind.signed];omega
def wd (l:List Int) (i:Nat):Int:=l.getD (2 * i) 0 * 256+l.getD (2 * i+1) 0
def IsBytes (l:List Int):Prop:=∀ i:Nat,0≤l.getD i 0∧l.getD i 0≤255
def addc (s w:Int):Int:=if s+w≤4294967295 then s+w else s+w - 4294967295
def acc (l:List Int) (s:Int):Nat→Int
 | 0=>s
 | k+1=>addc (acc l s k) (wd l k)
def cnt (n:Nat):Nat:=n / 2+n % 2
end Sm
theorem sqa {α:Type} {xs:List α} {i:Nat} (h:i < xs.toArray.size):xs.toArray[i]=xs[i]'(by simpa using h):=List.getElem_toArray h
theorem sqb {α:Type} {a:α} {l:List α} {h:0 < (a::l).length}:(a::l)[0]=a:=List.getElem_cons_zero a l h
theorem sqc {α:Type} {a:α} {l:List α} {i:Nat} {h:i+1 < (a::l).length}:(a::l)[i+1]=l[i]'(Nat.lt_of_succ_lt_succ h):=List.getElem_cons_succ a l i h
theorem sqd {α:Type} {l:List α} {i:Nat} {a:α}:l.toArray.setIfInBounds i a=(l.set i a).toArray:=List.setIfInBounds_toArray l i a
theorem sqe {α:Type} {x:α} {xs:List α} {a:α}:(x::xs).set 0 a=a::xs:=List.set_cons_zero
theorem sqf {α:Type} {x:α} {xs:List α} {i:Nat} {a:α}:(x::xs).set (i+1) a=x::xs.set i a:=List.set_cons_succ
theorem tkq {P:Program} {md:Region.Mode} {ops:Array Oper} {Q:Exit→Act→World→Prop} {S:World→Prop} {fuel:Nat} {listed:Array Bool} {a:Act} {w:World} (i:Nat) {oi:Oper} {v:Value} (hi:ops[i]? = some oi)
  (hy:YieldsIf P ops S oi v a) (h:wpAnyH P md ops Q S fuel (listed.setIfInBounds i true) (a.put oi.dst v) w)
  (hs:Region.noSelect ops=true:=by kernel_rfl) (hf:Region.free md ops listed i=true:=by kernel_rfl) (hr:(Region.ready md ops listed).contains i=true:=by kernel_rfl)
  (hQ:∀ c a w,Q (.panic c) (a.put oi.dst v) w→Q (.panic c) a w:=by exact fun _ _ _ h=>h) (hS:S w:=by assumption):wpAnyH P md ops Q S (fuel+1) listed a w :=
 wpAnyH_take hi hs hf hr hQ hy hS h
end Go.Proofs.YtdigofgjhaakmaaGreatDoor
namespace Go.Proofs.YtdigofgjhaakmaaGreatDoor
open Go.RowKit
open Sm
theorem ret_int {k:IntKind} {a b:Int} (h:a=b):Ending.returned (.int k a)=.returned (.int k b):=by rw [h]
structure Row (w:World) (a:Option Addr) (l:List Int):Prop where
 bytes:IsBytes l
 len:l.length≤140737488351232
 cells:l=[]∨∃ b off,a=some ⟨b,off,none⟩∧∀ i,i < l.length→w.cell? ⟨b,off+i,none⟩=some (.int .u8 (l.getD i 0))
theorem cell_lt {w:World} {p:Addr} {v:Value} (h:w.cell? p=some v):p.block < w.heap.size:=by
 by_cases hc:p.block < w.heap.size
 ·exact hc
 ·have:w.heap[p.block]? = none:=by simp;omega
  simp [World.cell?,this] at h
theorem Row.below {w w':World} {a:Option Addr} {l:List Int} (h:Row w a l) {B:Nat} (hb:Below B w w') (hB:w.heap.size≤B):Row w' a l:=by
 refine ⟨h.bytes,h.len,?_⟩
 rcases h.cells with e | ⟨b,off,rfl,hc⟩
 ·exact Or.inl e
 ·refine Or.inr ⟨b,off,rfl,fun i hi=>?_⟩
  have:=cell_lt (hc i hi)
  rw [hb.cell (p:=⟨b,off+i,none⟩) (by simp at this ⊢;omega)]
  exact hc i hi
theorem info5:(Tryz.prog.info? 5).map (fun i=>(i.zero,i.size,i.bytes))=some (some (.int .u8 0),1,1):=by kernel_rfl
def OwnB (w:World) (B g cap:Nat) (l:List Int):Prop:=w.ownsRow B 5 1 (.slice (some ⟨g,0,none⟩) l.length cap) l.length (l.map (Value.int .u8))
theorem getD_eq {l:List Int} {i:Nat} (h:i < l.length):l.getD i 0=l[i]:=by simp [List.getD,List.getElem?_eq_getElem h]
theorem OwnB.cell {w:World} {B g cap:Nat} {l:List Int} (h:OwnB w B g cap l) (i:Nat) (hi:i < l.length):w.cell? ⟨g,i,none⟩=some (.int .u8 (l.getD i 0)):=by
 rw [World.ownsRow.cellAt h i (by omega),getD_eq hi]
 simp [hi]
theorem OwnB.row {w:World} {B g cap:Nat} {l:List Int} (h:OwnB w B g cap l) (hb:IsBytes l) (hl:l.length≤140737488351232):Row w (some ⟨g,0,none⟩) l :=
 ⟨hb,hl,Or.inr ⟨g,0,rfl,fun i hi=>by rw [Nat.zero_add];exact h.cell i hi⟩⟩
theorem Row.news {w:World} {b off:Nat} {l:List Int} (h:Row w (some ⟨b,off,none⟩) l) :
  ∀ (j:Nat) (u:Value),(l.map (Value.int .u8))[j]? = some u→w.cell? ((⟨b,off,none⟩:Addr).add j)=some u:=by
 intro j u hj
 have hjl:j < l.length:=by
  have:=(List.getElem?_eq_some_iff.mp hj).1
  simpa using this
 have e:((⟨b,off,none⟩:Addr).add j)=⟨b,off+j,none⟩:=by
  by_cases e:j=0
  ·subst e;simp [Addr.add]
  ·simp [Addr.add,e]
 rcases h.cells with e' | ⟨b',off',e',hc⟩
 ·subst e';simp at hjl
 ·simp only [Option.some.injEq,Addr.mk.injEq] at e'
  obtain ⟨rfl,rfl,-⟩:=e'
  rw [e,hc j hjl]
  rw [getD_eq hjl]
  simpa [hjl] using hj
theorem wpList_wanted {P:Program} {ops:Array Oper} {Q:Exit→Act→World→Prop} {a:Act} {w:World} {rest:List Oper} {o:Oper} (hw:Region.wanted o (yielded ops a.tmps)=true)
  (h:∀ K:Act→World→Prop,(∀ a w,wpList P ops Q rest a w→K a w)→o.wp P a w K Q):wpList P ops Q (o::rest) a w :=
 wpList_step fun K hK=>by rw [if_pos hw];exact h K hK
theorem wp_append_out {o:Oper} {a:Act} {w:World} {K:Act→World→Prop} {Q:Exit→Act→World→Prop} (s x:Operand) (t tn:TypeId)
  (ho:o.op=.call { callee:=.builtin .append,args:=#[s,x],argTypes:=#[t,tn] }) {vs vx:Value} (hs:a.eval s=vs) (hx:a.eval x=vx)
  {v':Value} {w':World} (hr:(Builtin.append_ #[t,tn] o.type #[vs,vx]).run Tryz.prog w=.ok v' w') (h:K (a.put o.dst v') w'):o.wp Tryz.prog a w K Q :=
 Lib.wp_append_run w s x t tn ho vs vx hs hx v' w' hr h
namespace Sm
theorem getD_append (a b:List Int) (i:Nat):(a++b).getD i 0=if i < a.length then a.getD i 0 else b.getD (i - a.length) 0:=by
 by_cases h:i < a.length
 ·rw [if_pos h];simp [List.getD,List.getElem?_append_left h]
 ·rw [if_neg h];simp [List.getD,List.getElem?_append_right (Nat.le_of_not_lt h)]
theorem bytes_append {a b:List Int} (ha:IsBytes a) (hb:IsBytes b):IsBytes (a++b):=by
 intro i;rw [getD_append];split
 ·exact ha i
 ·exact hb _
end Sm
end Go.Proofs.YtdigofgjhaakmaaGreatDoor
namespace Go.Proofs.YtdigofgjhaakmaaGreatDoor
open Sm
def crc1 (s:Int):Int:=if s % 2=1 then bits .xor .u32 (s / 2) 3988292384 else s / 2
def c8:Nat→Int→Int
 | 0,s=>s
 | n+1,s=>c8 n (crc1 s)
def cby (s x:Int):Int:=c8 8 (bits .xor .u32 s x)
def crl (s:Int) (l:List Int):Int:=l.foldl cby s
def crc (l:List Int):Int:=bits .xor .u32 4294967295 (crl 4294967295 l)
theorem xor32_range (a b:Int) (h1:0≤a) (h2:a≤4294967295) (h3:0≤b) (h4:b≤4294967295):0≤bits .xor .u32 a b∧bits .xor .u32 a b≤4294967295:=by
 rw [u32_xor a b h1 (by omega) h3 (by omega)]
 have:a.toNat ^^^ b.toNat < 2 ^ 32:=Nat.xor_lt_two_pow (by omega) (by omega)
 omega
theorem c1_range (s:Int) (h0:0≤s) (h1:s≤4294967295):0≤crc1 s∧crc1 s≤4294967295:=by
 unfold crc1
 split
 ·exact xor32_range _ _ (by omega) (by omega) (by decide) (by decide)
 ·omega
theorem c8_range (n:Nat) (s:Int) (h0:0≤s) (h1:s≤4294967295):0≤c8 n s∧c8 n s≤4294967295:=by
 induction n generalizing s with
 | zero=>exact ⟨h0,h1⟩
 | succ n ih=>exact ih _ (c1_range s h0 h1).1 (c1_range s h0 h1).2
theorem c8_add (n k:Nat) (s:Int):c8 (n+k) s=c8 k (c8 n s):=by
 induction n generalizing s with
 | zero=>simp [c8]
 | succ n ih=>rw [Nat.succ_add];exact ih _
theorem c8_succ (n:Nat) (s:Int):c8 (n+1) s=crc1 (c8 n s):=by rw [c8_add];rfl
theorem cby_range (s x:Int) (h0:0≤s) (h1:s≤4294967295) (h2:0≤x) (h3:x≤255):0≤cby s x∧cby s x≤4294967295:=by
 have:=xor32_range s x h0 h1 h2 (by omega)
 exact c8_range 8 _ this.1 this.2
theorem bytes_tail' {x:Int} {l:List Int} (h:IsBytes (x::l)):(0≤x∧x≤255)∧IsBytes l:=⟨by simpa using h 0,fun i=>by simpa using h (i+1)⟩
theorem crl_range (l:List Int) (hb:IsBytes l) (s:Int) (h0:0≤s) (h1:s≤4294967295):0≤crl s l∧crl s l≤4294967295:=by
 induction l generalizing s with
 | nil=>exact ⟨h0,h1⟩
 | cons x l ih =>
  have hx:=(bytes_tail' hb).1
  have:=cby_range s x h0 h1 hx.1 hx.2
  exact ih (bytes_tail' hb).2 _ this.1 this.2
theorem crc_range (l:List Int) (hb:IsBytes l):0≤crc l∧crc l≤4294967295:=by
 have:=crl_range l hb 4294967295 (by decide) (by decide)
 exact xor32_range _ _ (by decide) (by decide) this.1 this.2
theorem crl_take (s:Int) (l:List Int) (i:Nat) (hi:i < l.length):crl s (l.take (i+1))=cby (crl s (l.take i)) (l.getD i 0):=by
 rw [List.take_add_one,List.getElem?_eq_getElem hi,List.getD,List.getElem?_eq_getElem hi]
 simp only [crl,List.foldl_append,Option.toList,List.foldl_cons,List.foldl_nil,Option.getD]
def gtv (x:Int) (l:List Int):Int:=l.foldl (fun x y=>x * 256+y) x
def gt (l:List Int):Int:=gtv 0 l
def lbe:Nat→Int→List Int
 | 0,_=>[]
 | k+1,x=>(x / 256 ^ k % 256)::lbe k x
theorem be_length (k:Nat) (x:Int):(lbe k x).length=k:=by
 induction k with
 | zero=>rfl
 | succ k ih=>simp [lbe,ih]
theorem lbe_bytes (k:Nat) (x:Int):IsBytes (lbe k x):=by
 induction k with
 | zero=>intro i;simp [lbe]
 | succ k ih =>
  intro i
  match i with
  | 0=>simp [lbe];omega
  | i+1=>simpa [lbe] using ih i
theorem be_getD (k i:Nat) (x:Int) (hi:i < k):(lbe k x).getD i 0=x / 256 ^ (k - 1 - i) % 256:=by
 induction k generalizing i with
 | zero=>omega
 | succ k ih =>
  match i with
  | 0=>simp [lbe]
  | i+1 =>
   have:k+1 - 1 - (i+1)=k - 1 - i:=by omega
   rw [this,← ih i (by omega)]
   simp [lbe]
theorem emod_parts (x p:Int) (hp:0 < p):x % (p * 256)=(x / p % 256) * p+x % p:=by
 have a:=Int.emod_add_mul_ediv x p
 have b:=Int.emod_add_mul_ediv (x / p) 256
 have h0:=Int.emod_nonneg x (Int.ne_of_gt hp)
 have h1:=Int.emod_lt_of_pos x hp
 have h2:0≤x / p % 256:=Int.emod_nonneg (x / p) (by decide)
 have h3:x / p % 256 < 256:=Int.emod_lt_of_pos (x / p) (by decide)
 generalize x % p=r at *
 generalize hs:x / p % 256=s at *
 generalize hu:x / p / 256=u at *
 have e:x=(s * p+r)+(p * 256) * u:=by
  rw [←a,← b,Int.mul_add,Int.mul_comm p s,← Int.mul_assoc p 256 u];omega
 have h4:s * p≤255 * p:=Int.mul_le_mul_of_nonneg_right (by omega) (Int.le_of_lt hp)
 have h5:0≤s * p:=Int.mul_nonneg h2 (Int.le_of_lt hp)
 rw [e,Int.add_mul_emod_self_left,Int.emod_eq_of_lt (by omega) (by omega)]
theorem gtv_be (k:Nat) (a x:Int):gtv a (lbe k x)=a * 256 ^ k+x % 256 ^ k:=by
 induction k generalizing a with
 | zero=>simp [lbe,gtv,Int.emod_one]
 | succ k ih =>
  have h:gtv a (lbe (k+1) x)=gtv (a * 256+x / 256 ^ k % 256) (lbe k x):=rfl
  rw [h,ih]
  have hp:(0:Int) < 256 ^ k:=Int.pow_pos (by decide)
  have e:x % 256 ^ (k+1)=(x / 256 ^ k % 256) * 256 ^ k+x % 256 ^ k:=by
   rw [Int.pow_succ,emod_parts x _ hp]
  rw [e,Int.add_mul,Int.pow_succ,Int.mul_assoc a 256,Int.mul_comm 256 (256 ^ k),Int.add_assoc]
theorem gt_be (k:Nat) (x:Int) (h0:0≤x) (h1:x < 256 ^ k):gt (lbe k x)=x:=by
 rw [gt,gtv_be,Int.zero_mul,Int.zero_add,Int.emod_eq_of_lt h0 h1]
theorem gtv_range (l:List Int) (hb:IsBytes l) (x:Int) (h0:0≤x):0≤gtv x l∧gtv x l < (x+1) * 256 ^ l.length:=by
 induction l generalizing x with
 | nil=>simp [gtv];omega
 | cons y l ih =>
  have hy:=(bytes_tail' hb).1
  have:=ih (bytes_tail' hb).2 (x * 256+y) (by omega)
  refine ⟨this.1,Int.lt_of_lt_of_le this.2 ?_⟩
  have hp:(0:Int)≤256 ^ l.length:=Int.pow_nonneg (by decide)
  rw [List.length_cons,Int.pow_succ,Int.mul_comm (256 ^ l.length) 256,← Int.mul_assoc]
  exact Int.mul_le_mul_of_nonneg_right (by omega) hp
theorem gt_range (l:List Int) (hb:IsBytes l):0≤gt l∧gt l < 256 ^ l.length:=by
 have:=gtv_range l hb 0 (by decide)
 simpa [gt] using this
theorem gt_take (l:List Int) (i:Nat) (hi:i < l.length):gt (l.take (i+1))=gt (l.take i) * 256+l.getD i 0:=by
 rw [List.take_add_one,List.getElem?_eq_getElem hi,List.getD,List.getElem?_eq_getElem hi]
 simp only [gt,gtv,List.foldl_append,Option.toList,List.foldl_cons,List.foldl_nil,Option.getD]
def sl (l:List Int) (lo hi:Nat):List Int:=(l.drop lo).take (hi - lo)
theorem sl_length (l:List Int) (lo hi:Nat) (h:hi≤l.length):(sl l lo hi).length=hi - lo:=by simp [sl];omega
theorem sl_bytes {l:List Int} (h:IsBytes l) (lo hi:Nat):IsBytes (sl l lo hi):=by
 intro i
 by_cases e:i < hi - lo
 ·have:(sl l lo hi).getD i 0=l.getD (lo+i) 0:=by simp [sl,List.getD,e]
  rw [this];exact h _
 ·have:(sl l lo hi).getD i 0=0:=by
   rw [List.getD,List.getElem?_eq_none (by simp [sl];omega)];rfl
  rw [this];omega
theorem sl_mid (a b c:List Int) {lo hi:Nat} (h1:a.length=lo) (h2:lo+b.length=hi):sl (a++(b++c)) lo hi=b:=by
 subst h1
 unfold sl
 rw [List.drop_left' rfl,List.take_left' (by omega)]
structure Pc where
 t:Int
 c:Int
 i:Int
 n:Int
 b:List Int
def pbody (p:Pc):List Int:=lbe 8 p.t++(lbe 8 p.c++(lbe 1 p.i++(lbe 1 p.n++(lbe 4 p.b.length++(List.replicate 36 0++p.b)))))
def frm (m:Nat) (p:Pc):List Int:=[165]++(lbe 4 (crc (pbody p))++(pbody p++(List.replicate (m - 64 - p.b.length) 0++[165])))
def unf (b:List Int):Option Pc :=
 if b.getD 0 0≠165∨b.getD (b.length - 1) 0≠165∨(b.length:Int) - 64 < gt (sl b 23 27) then none
 else if crc (sl b 5 (63+(gt (sl b 23 27)).toNat))≠gt (sl b 1 5) then none
 else some ⟨gt (sl b 5 13),IntKind.i64.wrap (gt (sl b 13 21)),gt (sl b 21 22),gt (sl b 22 23),sl b 63 (63+(gt (sl b 23 27)).toNat)⟩
structure PcOk (m:Nat) (p:Pc):Prop where
 t:0≤p.t∧p.t < 18446744073709551616
 c:0≤p.c∧p.c < 9223372036854775808
 i:0≤p.i∧p.i < 256
 n:0≤p.n∧p.n < 256
 len:p.b.length+64≤m
 top:m≤65536
 bytes:IsBytes p.b
theorem lbytes_app {l₁ l₂:List Int} (h1:IsBytes l₁) (h2:IsBytes l₂):IsBytes (l₁++l₂):=by
 intro i
 by_cases e:i < l₁.length
 ·have:(l₁++l₂).getD i 0=l₁.getD i 0:=by simp [List.getD,List.getElem?_append_left e]
  rw [this];exact h1 i
 ·have:(l₁++l₂).getD i 0=l₂.getD (i - l₁.length) 0:=by simp [List.getD,List.getElem?_append_right (Nat.le_of_not_lt e)]
  rw [this];exact h2 _
theorem bytes_rep (n:Nat) (x:Int) (h:0≤x∧x≤255):IsBytes (List.replicate n x):=by
 intro i
 by_cases e:i < n
 ·simp [List.getD,e];exact h
 ·simp [List.getD,e]
theorem pbody_length (p:Pc):(pbody p).length=58+p.b.length:=by simp [pbody,be_length];omega
theorem pbody_bytes (p:Pc) (h:IsBytes p.b):IsBytes (pbody p) :=
 lbytes_app (lbe_bytes _ _) (lbytes_app (lbe_bytes _ _) (lbytes_app (lbe_bytes _ _) (lbytes_app (lbe_bytes _ _) (lbytes_app (lbe_bytes _ _) (lbytes_app (bytes_rep _ _ (by omega)) h)))))
theorem frm_length {m:Nat} {p:Pc} (h:p.b.length+64≤m):(frm m p).length=m:=by
 simp [frm,be_length,pbody_length];omega
theorem frm_bytes {m:Nat} {p:Pc} (h:IsBytes p.b):IsBytes (frm m p) :=
 lbytes_app (bytes_rep 1 165 (by omega)) (lbytes_app (lbe_bytes _ _) (lbytes_app (pbody_bytes p h) (lbytes_app (bytes_rep _ _ (by omega)) (bytes_rep 1 165 (by omega)))))
theorem frm_last {m:Nat} {p:Pc} (h:p.b.length+64≤m):(frm m p).getD (m - 1) 0=165:=by
 have hl:(frm m p).length=m:=frm_length h
 have e:frm m p=([165]++(lbe 4 (crc (pbody p))++(pbody p++List.replicate (m - 64 - p.b.length) 0)))++[165]:=by simp [frm]
 rw [e] at hl ⊢
 have hl2:([165]++(lbe 4 (crc (pbody p))++(pbody p++List.replicate (m - 64 - p.b.length) (0:Int)))).length=m - 1:=by simp at hl ⊢;omega
 simp only [List.getD]
 rw [List.getElem?_append_right (by omega),hl2]
 simp
theorem frm_first (m:Nat) (p:Pc):(frm m p).getD 0 0=165:=by simp [frm]
theorem unf_frm {m:Nat} {p:Pc} (h:PcOk m p):unf (frm m p)=some p:=by
 have hlen:=frm_length h.len
 have hb4:=h.len;have ht4:=h.top
 have A:∀ (x:Int) (k:Nat),0≤x→x < 256 ^ k→gt (lbe k x)=x:=fun x k=>gt_be k x
 have g1:sl (frm m p) 1 5=lbe 4 (crc (pbody p)):=sl_mid [165] _ _ (by simp) (by rw [be_length])
 have g5:sl (frm m p) 5 (63+p.b.length)=pbody p:=by
  have e:frm m p=([165]++lbe 4 (crc (pbody p)))++(pbody p++(List.replicate (m - 64 - p.b.length) 0++[165])):=by simp [frm]
  rw [e];exact sl_mid _ _ _ (by simp [be_length]) (by rw [pbody_length];omega)
 have z:frm m p=([165]++lbe 4 (crc (pbody p)))++(lbe 8 p.t++(lbe 8 p.c++(lbe 1 p.i++(lbe 1 p.n++(lbe 4 p.b.length++(List.replicate 36 0++(p.b++(List.replicate (m - 64 - p.b.length) 0++[165])))))))):=by simp [frm,pbody]
 have gT:sl (frm m p) 5 13=lbe 8 p.t:=by rw [z];exact sl_mid _ _ _ (by simp [be_length]) (by rw [be_length])
 have gC:sl (frm m p) 13 21=lbe 8 p.c:=by
  have e:=z;rw [←List.append_assoc] at e
  rw [e];exact sl_mid _ _ _ (by simp [be_length]) (by rw [be_length])
 have gI:sl (frm m p) 21 22=lbe 1 p.i:=by
  have e:=z;rw [←List.append_assoc,← List.append_assoc] at e
  rw [e];exact sl_mid _ _ _ (by simp [be_length]) (by rw [be_length])
 have gN:sl (frm m p) 22 23=lbe 1 p.n:=by
  have e:=z;rw [←List.append_assoc,← List.append_assoc,← List.append_assoc] at e
  rw [e];exact sl_mid _ _ _ (by simp [be_length]) (by rw [be_length])
 have gL:sl (frm m p) 23 27=lbe 4 p.b.length:=by
  have e:=z;rw [←List.append_assoc,← List.append_assoc,← List.append_assoc,← List.append_assoc] at e
  rw [e];exact sl_mid _ _ _ (by simp [be_length]) (by rw [be_length])
 have gB:sl (frm m p) 63 (63+p.b.length)=p.b:=by
  have e:=z;rw [←List.append_assoc,← List.append_assoc,← List.append_assoc,← List.append_assoc,← List.append_assoc,← List.append_assoc] at e
  rw [e];exact sl_mid _ _ _ (by simp [be_length]) rfl
 have vL:gt (lbe 4 p.b.length)=p.b.length:=A _ 4 (by omega) (by omega)
 have hcr:=crc_range (pbody p) (pbody_bytes p h.bytes)
 have vS:gt (lbe 4 (crc (pbody p)))=crc (pbody p):=A _ 4 (by omega) (by omega)
 unfold unf
 rw [hlen,frm_first,frm_last h.len,gL,vL,Int.toNat_natCast,g5,g1,vS,gT,gC,gI,gN,gB]
 rw [A p.t 8 h.t.1 (by have:=h.t;omega),A p.c 8 h.c.1 (by have:=h.c;omega),A p.i 1 h.i.1 (by have:=h.i;omega),A p.n 1 h.n.1 (by have:=h.n;omega)]
 rw [if_neg (by rintro (e | e | e) <;> omega),if_neg (fun e=>e rfl)]
 have:IntKind.i64.wrap p.c=p.c:=by rw [IntKind.wrap_i64];have:=h.c;omega
 rw [this]
theorem unf_no0 (b:List Int) (h:b.getD 0 0≠165):unf b=none:=by unfold unf;rw [if_pos (Or.inl h)]
theorem unf_no1 (b:List Int) (h:b.getD (b.length - 1) 0≠165):unf b=none:=by unfold unf;rw [if_pos (Or.inr (Or.inl h))]
def sbk (n:Nat):Nat:=(n - 1) / 2
def rp (bl:List (List Int)) (slot i:Nat):Option Pc :=
 match unf (bl.getD (slot * sbk bl.length+i) []) with
 | none=>none
 | some p=>if p.i≠i∨(sbk bl.length:Int) < p.n then none else some p
def rdL (bl:List (List Int)) (slot:Nat) (t:Int):Nat→Nat→List Int→Option (List Int)
 | 0,_,acc=>some acc
 | k+1,i,acc =>
  match rp bl slot i with
  | none=>none
  | some p=>if p.t=t then rdL bl slot t k (i+1) (acc++p.b) else none
structure En where
 s:Nat
 t:Int
 c:Int
 r:List Int
def rd (bl:List (List Int)) (slot:Nat):Option En :=
 match rp bl slot 0 with
 | none=>none
 | some f=>(rdL bl slot f.t (f.n.toNat - 1) 1 f.b).map fun r=>⟨slot,f.t,f.c,r⟩
def ltr (a b:Int):Bool:=decide (0 < IntKind.i64.wrap (IntKind.u64.wrap (a - b)))
def fd (bl:List (List Int)):List En :=
 match rd bl 0,rd bl 1 with
 | none,none=>[]
 | some a,none=>[a]
 | none,some b=>[b]
 | some a,some b=>if ltr a.t b.t then [b,a] else [a,b]
def En.zero:En:=⟨0,0,0,[]⟩
def nw (l:List En):En:=l.getLastD .zero
def kpL (last:Int):List En→List (List Int)
 | []=>[]
 | [a]=>[a.r]
 | a::b::l=>(if IntKind.i64.wrap (a.c+1)=last then [a.r] else [])++kpL last (b::l)
def kp (l:List En):List (List Int):=kpL (nw l).c l
def npc (most len:Nat):Nat:=max 1 ((len+most - 1) / most)
def lspc (e:En) (most i:Nat):Pc:=⟨e.t,e.c,i,npc most e.r.length,(e.r.drop (i * most)).take most⟩
def lpart (m:Nat) (e:En) (bl:List (List Int)):Nat→List (List Int)
 | 0=>bl.set (e.s * sbk bl.length) (List.replicate m 0)
 | k+1=>(lpart m e bl k).set (e.s * sbk bl.length+(npc (m - 64) e.r.length - 1 - k)) (frm m (lspc e (m - 64) (npc (m - 64) e.r.length - 1 - k)))
theorem part_length (m:Nat) (e:En) (bl:List (List Int)) (k:Nat):(lpart m e bl k).length=bl.length:=by
 induction k with
 | zero=>simp [lpart]
 | succ k ih=>simp [lpart,ih]
theorem getD_set_ne {α:Type} {l:List α} {i j:Nat} {x d:α} (h:i≠j):(l.set i x).getD j d=l.getD j d:=by
 simp [List.getD,List.getElem?_set_ne h]
theorem getD_set_eq {α:Type} {l:List α} {i:Nat} {x d:α} (h:i < l.length):(l.set i x).getD i d=x:=by
 simp [List.getD,h]
theorem part_other (m:Nat) (e:En) (bl:List (List Int)) (k j:Nat) (hj:∀ i,i < npc (m - 64) e.r.length→e.s * sbk bl.length+i≠j):(lpart m e bl k).getD j []=bl.getD j []:=by
 have hp:0 < npc (m - 64) e.r.length:=by unfold npc;omega
 induction k with
 | zero=>rw [lpart,getD_set_ne (by have:=hj 0 hp;simpa using this)]
 | succ k ih=>rw [lpart,getD_set_ne (hj _ (by omega)),ih]
theorem part_first (m:Nat) (e:En) (bl:List (List Int)) (k:Nat) (hs:e.s * sbk bl.length < bl.length) (hk:k < npc (m - 64) e.r.length):(lpart m e bl k).getD (e.s * sbk bl.length) []=List.replicate m 0:=by
 induction k with
 | zero=>rw [lpart,getD_set_eq hs]
 | succ k ih=>rw [lpart,getD_set_ne (by omega),ih (by omega)]
theorem part_there (m:Nat) (e:En) (bl:List (List Int)) (k i:Nat) (hs:e.s * sbk bl.length+i < bl.length) (hi:npc (m - 64) e.r.length - k≤i) (hi2:i < npc (m - 64) e.r.length) (hk:k≤npc (m - 64) e.r.length) :
  (lpart m e bl k).getD (e.s * sbk bl.length+i) []=frm m (lspc e (m - 64) i):=by
 induction k with
 | zero=>omega
 | succ k ih =>
  by_cases h:i=npc (m - 64) e.r.length - 1 - k
  ·rw [lpart,← h,getD_set_eq (by rw [part_length];exact hs)]
  ·rw [lpart,getD_set_ne (by omega),ih (by omega) (by omega)]
theorem rp_eq {bl bl':List (List Int)} {slot i:Nat} (hl:bl'.length=bl.length) (h:bl'.getD (slot * sbk bl.length+i) []=bl.getD (slot * sbk bl.length+i) []):rp bl' slot i=rp bl slot i:=by
 unfold rp;rw [hl,h]
theorem rdL_eq {bl bl':List (List Int)} {slot:Nat} {t:Int} (hl:bl'.length=bl.length) (k i:Nat) (acc:List Int) (h:∀ j,i≤j→j < i+k→bl'.getD (slot * sbk bl.length+j) []=bl.getD (slot * sbk bl.length+j) []):rdL bl' slot t k i acc=rdL bl slot t k i acc:=by
 induction k generalizing i acc with
 | zero=>rfl
 | succ k ih =>
  unfold rdL
  rw [rp_eq hl (h i (by omega) (by omega))]
  split
  ·rfl
  ·split
   ·exact ih _ _ fun j h1 h2=>h j (by omega) (by omega)
   ·rfl
theorem rp_n {bl:List (List Int)} {slot i:Nat} {p:Pc} (h:rp bl slot i=some p):p.i=i∧p.n≤sbk bl.length:=by
 unfold rp at h
 split at h
 ·cases h
 ·split at h
  ·cases h
  ·rename_i h2
   simp only [Option.some.injEq] at h;subst h
   exact ⟨Classical.byContradiction fun e=>h2 (Or.inl e),by
    have:¬ ((sbk bl.length:Int) < _):=fun e=>h2 (Or.inr e)
    omega⟩
theorem rd_eq {bl bl':List (List Int)} {slot:Nat} (hl:bl'.length=bl.length) (hsb:0 < sbk bl.length) (h:∀ j,j < sbk bl.length→bl'.getD (slot * sbk bl.length+j) []=bl.getD (slot * sbk bl.length+j) []):rd bl' slot=rd bl slot:=by
 unfold rd
 rw [rp_eq hl (h 0 hsb)]
 split
 ·rfl
 ·rename_i f hf
  have:=(rp_n hf).2
  rw [rdL_eq hl _ _ _ fun j h1 h2=>h j (by omega)]
theorem rd_no {bl:List (List Int)} {slot:Nat} (h:unf (bl.getD (slot * sbk bl.length) [])=none):rd bl slot=none:=by
 unfold rd rp
 rw [Nat.add_zero,h]
structure EnOk (n m:Nat) (e:En):Prop where
 s:e.s≤1
 t:0≤e.t∧e.t < 18446744073709551616
 c:0≤e.c∧e.c < 9223372036854775808
 len:e.r.length≤sbk n * (m - 64)
 bytes:IsBytes e.r
 n0:4≤n
 n1:n≤64
 m0:256≤m
 m1:m≤65536
theorem npc_le {n m:Nat} {e:En} (h:EnOk n m e):0 < npc (m - 64) e.r.length∧npc (m - 64) e.r.length≤sbk n∧sbk n≤31∧1≤sbk n:=by
 have h1:=h.len;have h2:=h.m0;have h3:=h.n0;have h4:=h.n1
 have hs:1≤sbk n:=by unfold sbk;omega
 have hs2:sbk n≤31:=by unfold sbk;omega
 refine ⟨by unfold npc;omega,?_,hs2,hs⟩
 have:(e.r.length+(m - 64) - 1) / (m - 64)≤sbk n:=by
  have:(e.r.length+(m - 64) - 1) / (m - 64) < sbk n+1:=by
   rw [Nat.div_lt_iff_lt_mul (by omega),Nat.add_mul]
   omega
  omega
 unfold npc;omega
theorem spc_ok {n m:Nat} {e:En} (h:EnOk n m e) (i:Nat) (hi:i < npc (m - 64) e.r.length):PcOk m (lspc e (m - 64) i):=by
 have hn:=npc_le h
 refine ⟨h.t,h.c,?_,?_,?_,h.m1,?_⟩
 ·simp only [lspc];omega
 ·simp only [lspc];omega
 ·simp only [lspc,List.length_take];have:=h.m0;omega
 ·have:=sl_bytes h.bytes (i * (m - 64)) (i * (m - 64)+(m - 64))
  rwa [sl,Nat.add_sub_cancel_left] at this
theorem rp_part {n m:Nat} {e:En} (h:EnOk n m e) {bl:List (List Int)} (hl:bl.length=n) (i:Nat) (hi:i < npc (m - 64) e.r.length)
  (hb:bl.getD (e.s * sbk bl.length+i) []=frm m (lspc e (m - 64) i)):rp bl e.s i=some (lspc e (m - 64) i):=by
 unfold rp
 rw [hb,unf_frm (spc_ok h i hi),hl]
 have hn:=npc_le h
 refine if_neg ?_
 rintro (c | c)
 ·exact c rfl
 ·simp only [lspc] at c;omega
theorem take_part (r:List Int) (a k:Nat):r.take a++(r.drop a).take k=r.take (a+k):=by rw [List.take_add]
theorem rdL_part {n m:Nat} {e:En} (h:EnOk n m e) {bl:List (List Int)} (hl:bl.length=n) (hb:∀ i,i < npc (m - 64) e.r.length→bl.getD (e.s * sbk bl.length+i) []=frm m (lspc e (m - 64) i))
  (k i:Nat) (hki:i+k=npc (m - 64) e.r.length):rdL bl e.s e.t k i (e.r.take (i * (m - 64)))=some e.r:=by
 induction k generalizing i with
 | zero =>
  rw [rdL,List.take_of_length_le]
  have hm:=h.m0
  have:i=npc (m - 64) e.r.length:=by omega
  rw [this]
  have h1:(e.r.length+(m - 64) - 1) / (m - 64)≤npc (m - 64) e.r.length:=by unfold npc;omega
  have h2:e.r.length+(m - 64) - 1 < ((e.r.length+(m - 64) - 1) / (m - 64)+1) * (m - 64):=by
   rw [←Nat.div_lt_iff_lt_mul (by omega)];omega
  have h3:(e.r.length+(m - 64) - 1) / (m - 64) * (m - 64)≤npc (m - 64) e.r.length * (m - 64):=Nat.mul_le_mul_right _ h1
  rw [Nat.add_mul] at h2
  omega
 | succ k ih =>
  rw [rdL,rp_part h hl i (by omega) (hb i (by omega))]
  simp only [lspc,if_true]
  rw [take_part,← Nat.succ_mul]
  exact ih (i+1) (by omega)
theorem rd_part {n m:Nat} {e:En} (h:EnOk n m e) {bl:List (List Int)} (hl:bl.length=n) (hb:∀ i,i < npc (m - 64) e.r.length→bl.getD (e.s * sbk bl.length+i) []=frm m (lspc e (m - 64) i)):rd bl e.s=some e:=by
 have hn:=npc_le h
 unfold rd
 rw [rp_part h hl 0 hn.1 (hb 0 hn.1)]
 have:=rdL_part h hl hb (npc (m - 64) e.r.length - 1) 1 (by omega)
 rw [Nat.one_mul] at this
 simp only [lspc,Nat.zero_mul,List.drop_zero,Int.toNat_natCast,this,Option.map_some]
def cutB (q:Nat) (new old:List Int):List Int:=new.take q++old.drop q
inductive Left (m:Nat) (e:En) (bl:List (List Int)):List (List Int)→Prop where
 | all:Left m e bl (lpart m e bl (npc (m - 64) e.r.length))
 | blank (q:Nat) (hq:q≤m):Left m e bl (bl.set (e.s * sbk bl.length) (cutB q (List.replicate m 0) (bl.getD (e.s * sbk bl.length) [])))
 | mid (k q:Nat) (hk:k < npc (m - 64) e.r.length) (hq:q≤m):Left m e bl ((lpart m e bl k).set (e.s * sbk bl.length+(npc (m - 64) e.r.length - 1 - k)) (cutB q (frm m (lspc e (m - 64) (npc (m - 64) e.r.length - 1 - k))) ((lpart m e bl k).getD (e.s * sbk bl.length+(npc (m - 64) e.r.length - 1 - k)) [])))
theorem Left.length {m:Nat} {e:En} {bl bl':List (List Int)} (h:Left m e bl bl'):bl'.length=bl.length:=by
 cases h <;> simp [part_length]
theorem slot_apart {n s s' i j:Nat} (h1:s≤1) (h2:s'≤1) (h3:s≠s') (hi:i < sbk n) (hj:j < sbk n):s * sbk n+i≠s' * sbk n+j:=by
 rcases Nat.le_one_iff_eq_zero_or_eq_one.mp h1 with e | e <;> rcases Nat.le_one_iff_eq_zero_or_eq_one.mp h2 with e' | e' <;> subst e <;> subst e' <;> omega
theorem Left.other {n m:Nat} {e:En} (h:EnOk n m e) {bl bl':List (List Int)} (hl:bl.length=n) (hL:Left m e bl bl'):rd bl' (1 - e.s)=rd bl (1 - e.s):=by
 have hn:=npc_le h
 have hs:=h.s
 refine rd_eq hL.length (by rw [hl];omega) fun j hj=>?_
 rw [hl] at hj
 have ap:∀ i,i < sbk n→e.s * sbk bl.length+i≠(1 - e.s) * sbk bl.length+j:=by
  intro i hi
  rw [hl];exact slot_apart hs (by omega) (by omega) hi hj
 cases hL with
 | all=>exact part_other _ _ _ _ _ fun i hi=>ap i (by omega)
 | blank q hq=>rw [getD_set_ne (by have:=ap 0 (by omega);simpa using this)]
 | mid k q hk hq=>rw [getD_set_ne (ap _ (by omega)),part_other _ _ _ _ _ fun i hi=>ap i (by omega)]
theorem slot_in {n s i:Nat} (h1:s≤1) (h0:4≤n) (hi:i < sbk n):s * sbk n+i < n:=by
 unfold sbk at *
 rcases Nat.le_one_iff_eq_zero_or_eq_one.mp h1 with e | e <;> subst e <;> omega
theorem Left.own {n m:Nat} {e:En} (h:EnOk n m e) {bl bl':List (List Int)} (hl:bl.length=n) (hb:∀ b∈bl,b.length=m) (hL:Left m e bl bl') :
  rd bl' e.s=rd bl e.s∨rd bl' e.s=none∨rd bl' e.s=some e:=by
 have hn:=npc_le h
 have hs:=h.s
 have hm:=h.m0
 have hin:∀ i,i < sbk n→e.s * sbk bl.length+i < bl.length:=fun i hi=>by rw [hl];exact slot_in hs h.n0 hi
 have hold:(bl.getD (e.s * sbk bl.length) []).length=m:=by
  have h0:e.s * sbk bl.length < bl.length:=hin 0 (by omega)
  have e1:bl.getD (e.s * sbk bl.length) []=bl[e.s * sbk bl.length]:=by simp [List.getD,h0]
  rw [e1];exact hb _ (List.getElem_mem _)
 cases hL with
 | all =>
  refine Or.inr (Or.inr (rd_part h (by rw [part_length];exact hl) fun i hi=>?_))
  rw [part_length]
  exact part_there _ _ _ _ _ (hin i (by omega)) (by omega) hi (Nat.le_refl _)
 | blank q hq =>
  have hL0:(bl.set (e.s * sbk bl.length) (cutB q (List.replicate m 0) (bl.getD (e.s * sbk bl.length) []))).length=bl.length:=by simp
  by_cases h0:q=0
  ·left
   subst h0
   refine rd_eq hL0 (by rw [hl];omega) fun j hj=>?_
   by_cases e1:j=0
   ·subst e1
    rw [Nat.add_zero,getD_set_eq (by have:=hin 0 (by omega);simpa using this)];simp [cutB]
   ·rw [getD_set_ne (by omega)]
  ·right;left
   refine rd_no ?_
   rw [hL0,getD_set_eq (by have:=hin 0 (by omega);simpa using this)]
   refine unf_no0 _ ?_
   have:(cutB q (List.replicate m 0) (bl.getD (e.s * sbk bl.length) [])).getD 0 0=0:=by
    obtain ⟨q',rfl⟩:∃ q',q=q'+1:=⟨q - 1,by omega⟩
    obtain ⟨m',rfl⟩:∃ m',m=m'+1:=⟨m - 1,by omega⟩
    simp [cutB,List.replicate_succ]
   rw [this];decide
 | mid k q hk hq =>
  have hin2:=hin (npc (m - 64) e.r.length - 1 - k) (by omega)
  by_cases h0:k+1=npc (m - 64) e.r.length
  ·have ez:npc (m - 64) e.r.length - 1 - k=0:=by omega
   rw [ez,Nat.add_zero] at hin2 ⊢
   rw [part_first m e bl k hin2 hk]
   have hfl:(frm m (lspc e (m - 64) 0)).length=m:=frm_length (spc_ok h 0 hn.1).len
   by_cases hqm:q=m
   ·right;right
    subst hqm
    have e1:cutB q (frm q (lspc e (q - 64) 0)) (List.replicate q 0)=frm q (lspc e (q - 64) 0):=by
     rw [cutB,List.take_of_length_le (by omega),List.drop_eq_nil_of_le (by simp),List.append_nil]
    rw [e1]
    refine rd_part h (by simp [part_length];exact hl) fun i hi=>?_
    rw [List.length_set,part_length]
    by_cases ei:i=0
    ·subst ei;rw [Nat.add_zero,getD_set_eq (by rw [part_length];exact hin2)]
    ·rw [getD_set_ne (by omega)]
     exact part_there _ _ _ _ _ (hin i (by omega)) (by omega) hi (by omega)
   ·right;left
    refine rd_no ?_
    rw [List.length_set,part_length,getD_set_eq (by rw [part_length];exact hin2)]
    have hlen:(cutB q (frm m (lspc e (m - 64) 0)) (List.replicate m 0)).length=m:=by simp [cutB,hfl];omega
    refine unf_no1 _ ?_
    rw [hlen]
    have:(cutB q (frm m (lspc e (m - 64) 0)) (List.replicate m 0)).getD (m - 1) 0=0:=by
     have h1:((frm m (lspc e (m - 64) 0)).take q).length=q:=by simp [hfl];omega
     rw [cutB,List.getD,List.getElem?_append_right (by omega),h1]
     simp [List.getElem?_replicate]
     split <;> rfl
    rw [this];decide
  ·right;left
   refine rd_no ?_
   rw [List.length_set,part_length,getD_set_ne (by omega),part_first m e bl k (by have:=hin 0 (by omega);simpa using this) hk]
   refine unf_no0 _ ?_
   obtain ⟨m',rfl⟩:∃ m',m=m'+1:=⟨m - 1,by omega⟩
   simp [List.replicate_succ]
theorem Left.whole {n m:Nat} {e:En} (h:EnOk n m e) {bl:List (List Int)} (hl:bl.length=n):rd (lpart m e bl (npc (m - 64) e.r.length)) e.s=some e:=by
 have hn:=npc_le h
 refine rd_part h (by rw [part_length];exact hl) fun i hi=>?_
 rw [part_length]
 exact part_there _ _ _ _ _ (by rw [hl];exact slot_in h.s h.n0 (by omega)) (by omega) hi (Nat.le_refl _)
end Go.Proofs.YtdigofgjhaakmaaGreatDoor
namespace Go.Proofs.YtdigofgjhaakmaaGreatDoor
open Go.RowKit
open Sm
structure Wrote (w w':World) (g:Nat) (new:Array Value) (t:TypeId):Prop where
 here:w'.heap[g]? = some (.cells new t (0,0))
 there:∀ k,k≠g→w'.heap[k]? = w.heap[k]?
 size:w'.heap.size=w.heap.size
 below:∀ B w0,B≤g→Below B w0 w→Below B w0 w'
theorem wrote_setRow (w:World) (g:Nat) (cur new:Array Value) (t:TypeId) (hg:w.heap[g]? = some (.cells cur t (0,0))):Wrote w (w.setRow g new) g new t :=
 ⟨setRow_heap w g cur _ t _ hg,fun k hk=>setRow_other w g k _ (fun e=>hk e),by simp [World.setRow],fun B w0 h hb=>below_setRow hb h _⟩
theorem wrote_same (w:World) (g:Nat) (cur:Array Value) (t:TypeId) (hg:w.heap[g]? = some (.cells cur t (0,0))):Wrote w w g cur t :=
 ⟨hg,fun _ _=>rfl,rfl,fun _ _ _ h=>h⟩
theorem run_copy_wrote {P:Program} (w:World) (dT sT ty elem:TypeId) (hu:P.underlying dT=some (.slice elem)) (hsz:(P.info? elem).map (·.size)=some 1)
  (dp sp:Option Addr) (dLen dCap sLen sCap g off:Nat) (cur new:Array Value) (t:TypeId) (hg:w.heap[g]? = some (.cells cur t (0,0))) (l:List Int) (hn:l.length=Nat.min sLen dLen)
  (hpos:0 < l.length→dp=some ⟨g,off,none⟩∧∃ ad,sp=some ad∧∀ j v,(l.map (Value.int .u8))[j]? = some v→w.cell? (ad.add j)=some v)
  (hfit:off+l.length≤cur.size) (hnew:new.toList=cur.toList.take off++(l.map (Value.int .u8)++cur.toList.drop (off+l.length))) :
  ∃ w',(Builtin.copy_ #[dT,sT] ty #[.slice dp dLen dCap,.slice sp sLen sCap]).run P w=.ok (goInt l.length) w'∧Wrote w w' g new t:=by
 by_cases h0:l.length=0
 ·obtain rfl:l=[]:=List.eq_nil_of_length_eq_zero h0
  have e:new=cur:=by apply Array.toList_inj.mp;rw [hnew];simp
  subst e
  exact ⟨w,run_copy_none (P:=P) w dT sT ty elem dp sp dLen dCap sLen sCap hu hsz (by simpa using hn.symm),wrote_same w g new t hg⟩
 ·obtain ⟨rfl,ad,rfl,hsrc⟩:=hpos (by omega)
  have hr:=run_copy_row (P:=P) w dT sT ty elem g off dLen dCap ad sLen sCap cur t (l.map (Value.int .u8)) hu hsz hg (by simpa using hn) hsrc (by simpa using hfit) (ints_oneCell _ _)
  have e:(cur.toList.take off++l.map (Value.int .u8)++cur.toList.drop (off+(l.map (Value.int .u8)).length)).toArray=new:=by
   apply Array.toList_inj.mp;rw [hnew];simp
  rw [e,List.length_map] at hr
  exact ⟨_,hr,wrote_setRow w g cur new t hg⟩
theorem copy_bytes (w:World) (ty:TypeId) (dp sp:Option Addr) (dLen dCap sLen sCap g off:Nat) (cur new:Array Value) (t:TypeId) (hg:w.heap[g]? = some (.cells cur t (0,0))) (l:List Int) (hn:l.length=Nat.min sLen dLen)
  (hpos:0 < l.length→dp=some ⟨g,off,none⟩∧∃ ad,sp=some ad∧∀ j v,(l.map (Value.int .u8))[j]? = some v→w.cell? (ad.add j)=some v)
  (hfit:off+l.length≤cur.size) (hnew:new.toList=cur.toList.take off++(l.map (Value.int .u8)++cur.toList.drop (off+l.length))) :
  ∃ w',(Builtin.copy_ #[86,86] ty #[.slice dp dLen dCap,.slice sp sLen sCap]).run Tryz.prog w=.ok (goInt l.length) w'∧Wrote w w' g new t :=
 run_copy_wrote (P:=Tryz.prog) w 86 86 ty 5 Tryz.underlying86 (by kernel_rfl) dp sp dLen dCap sLen sCap g off cur new t hg l hn hpos hfit hnew
theorem step_copy_bytes {ops:Array Oper} {o:Oper} {a:Act} {w:World} {K:Act→World→Prop} {Q:Exit→Act→World→Prop} {E:Prop} (hgd:o.guard=none) (d s:Operand) (dT sT:TypeId)
  (ho:o.op=.call { callee:=.builtin .copy,args:=#[d,s],argTypes:=#[dT,sT] }) (hu:Tryz.prog.underlying dT=some (.slice 5))
  (dp sp:Option Addr) (dLen dCap sLen sCap:Nat) (hd:a.eval d=.slice dp dLen dCap) (hs:a.eval s=.slice sp sLen sCap)
  (g off:Nat) (cur new:Array Value) (t:TypeId) (hg:w.heap[g]? = some (.cells cur t (0,0))) (l:List Int) (hn:l.length=Nat.min sLen dLen)
  (hpos:0 < l.length→dp=some ⟨g,off,none⟩∧∃ ad,sp=some ad∧∀ j v,(l.map (Value.int .u8))[j]? = some v→w.cell? (ad.add j)=some v)
  (hfit:off+l.length≤cur.size) (hnew:new.toList=cur.toList.take off++(l.map (Value.int .u8)++cur.toList.drop (off+l.length)))
  (h:∀ w',Wrote w w' g new t→K (a.put o.dst (goInt l.length)) w') :
  if Region.wanted o (yielded ops a.tmps)=true then Oper.wp Tryz.prog o a w K Q else E:=by
 have hw:Region.wanted o (yielded ops a.tmps)=true:=by simp [Region.wanted,hgd]
 rw [if_pos hw]
 have hsz:(Tryz.prog.info? 5).map (·.size)=some 1:=by kernel_rfl
 obtain ⟨w',hr,hw⟩:=run_copy_wrote (P:=Tryz.prog) w dT sT o.type 5 hu hsz dp sp dLen dCap sLen sCap g off cur new t hg l hn hpos hfit hnew
 unfold Oper.wp
 simp [execOp,ho,resolve,invoke,builtin,hd,hs,hr,Result.andThen]
 exact h w' hw
theorem cell_of {w:World} {g:Nat} {c:Array Value} {t:TypeId} (h:w.heap[g]? = some (.cells c t (0,0))) (i:Nat):w.cell? ⟨g,i,none⟩=c[i]?:=by
 simp [World.cell?,h]
theorem make_bytes (n:Nat) (h:n≤140737488351232) (w:World):(Instr.makeSlice 86 (.int .i64 (n:Int)) (.int .i64 (n:Int))).run Tryz.prog w=.ok (.slice (some ⟨w.heap.size,0,none⟩) n n) (w.alloc (.cells (madeCells #[.int .u8 0] n) 5)) :=
 run_make_row' 86 5 (.int .u8 0) 1 Tryz.underlying86 info5 rfl .i64 .i64 n (by omega) (by omega) w
theorem wrap16_small (x:Int) (h0:0≤x) (h1:x≤65535):IntKind.u16.wrap x=x:=by
 rw [show IntKind.u16.wrap x=x % 65536 by simp [IntKind.wrap,IntKind.bits,IntKind.signed]];omega
theorem wrap8_small (x:Int) (h0:0≤x) (h1:x≤255):IntKind.u8.wrap x=x:=by
 rw [show IntKind.u8.wrap x=x % 256 by simp [IntKind.wrap,IntKind.bits,IntKind.signed]];omega
theorem Row.cellAt {w:World} {b off:Nat} {l:List Int} (h:Row w (some ⟨b,off,none⟩) l) (i:Nat) (hi:i < l.length):w.cell? ⟨b,off+i,none⟩=some (.int .u8 (l.getD i 0)):=by
 rcases h.cells with e | ⟨b',off',e,hc⟩
 ·subst e;simp at hi
 ·simp only [Option.some.injEq,Addr.mk.injEq] at e
  obtain ⟨rfl,rfl,-⟩:=e
  exact hc i hi
theorem Row.part {w:World} {b off:Nat} {l:List Int} (h:Row w (some ⟨b,off,none⟩) l) (i m:Nat) (hi:i+m≤l.length):Row w (some ⟨b,off+i,none⟩) ((l.drop i).take m):=by
 have hl:=h.len
 have hlen:((l.drop i).take m).length=m:=by simp;omega
 refine ⟨fun j=>?_,by omega,Or.inr ⟨b,off+i,rfl,fun j hj=>?_⟩⟩
 ·by_cases hj:j < m
  ·have:((l.drop i).take m).getD j 0=l.getD (i+j) 0:=by simp [List.getD,hj]
   rw [this];exact h.bytes _
  ·have:((l.drop i).take m).getD j 0=0:=by simp [List.getD,List.getElem?_eq_none (show ((l.drop i).take m).length≤j by omega)]
   rw [this];omega
 ·have e:((l.drop i).take m).getD j 0=l.getD (i+j) 0:=by simp [List.getD,show j < m by omega]
  rw [e,Nat.add_assoc]
  exact h.cellAt (i+j) (by omega)
structure Mem (w w':World) (L:List (Nat×Obj)):Prop where
 below:Below w.heap.size w w'
 low:∀ p∈L,w.heap.size≤p.1
 at_:∀ p∈L,w'.heap[p.1]? = some p.2
 apart:(L.map Prod.fst).Nodup
theorem Mem.nil (w:World):Mem w w []:=⟨Below.refl _ _,fun p h=>by simp at h,fun p h=>by simp at h,by simp⟩
theorem Mem.lt {w w':World} {L:List (Nat×Obj)} (h:Mem w w' L) {p:Nat×Obj} (hp:p∈L):p.1 < w'.heap.size:=by
 have:=h.at_ p hp
 exact (Array.getElem?_eq_some_iff.mp this).1
theorem Mem.alloc {w w':World} {L:List (Nat×Obj)} (h:Mem w w' L) (o:Obj):Mem w (w'.alloc o) (L++[(w'.heap.size,o)]):=by
 have hs:=h.below.size
 refine ⟨h.below.alloc hs o,fun p hp=>?_,fun p hp=>?_,?_⟩
 ·rcases List.mem_append.mp hp with hp | hp
  ·exact h.low p hp
  ·simp at hp;subst hp;exact hs
 ·rcases List.mem_append.mp hp with hp | hp
  ·rw [Below.heap_alloc _ _ _ (h.lt hp)];exact h.at_ p hp
  ·simp at hp;subst hp;exact heap_alloc_new _ _
 ·rw [List.map_append,List.nodup_append]
  refine ⟨h.apart,by simp,fun a ha b hb=>?_⟩
  obtain ⟨p,hp,rfl⟩:=List.mem_map.mp ha
  simp at hb
  have:=h.lt hp
  omega
theorem Mem.push {w w':World} {L:List (Nat×Obj)} (h:Mem w w' L) (g:Nat) (o:Obj) (hg:g=w'.heap.size):Mem w (w'.alloc o) (L++[(g,o)]):=by subst hg;exact h.alloc o
theorem Mem.drew {w w':World} {L:List (Nat×Obj)} (h:Mem w w' L):Mem w w'.drew L:=⟨h.below.drew,h.low,h.at_,h.apart⟩
theorem Mem.drewN {w w':World} {L:List (Nat×Obj)} (h:Mem w w' L) (n:Nat):Mem w (w'.drewN n) L:=⟨Go.below_drewN h.below n,h.low,h.at_,h.apart⟩
theorem Mem.perm {w w':World} {L L':List (Nat×Obj)} (h:Mem w w' L) (hp:L.Perm L'):Mem w w' L' :=
 ⟨h.below,fun p q=>h.low p (hp.symm.subset q),fun p q=>h.at_ p (hp.symm.subset q),(hp.map Prod.fst).nodup_iff.mp h.apart⟩
theorem Mem.sub {w w':World} {p:Nat×Obj} {L:List (Nat×Obj)} (h:Mem w w' (p::L)):Mem w w' L :=
 ⟨h.below,fun q hq=>h.low q (List.mem_cons_of_mem _ hq),fun q hq=>h.at_ q (List.mem_cons_of_mem _ hq),(List.nodup_cons.mp h.apart).2⟩
theorem Mem.get {w w':World} {L:List (Nat×Obj)} (h:Mem w w' L) (i:Nat) {g:Nat} {o:Obj} (hi:L[i]? = some (g,o)):w'.heap[g]? = some o:=h.at_ (g,o) (List.mem_of_getElem? hi)
theorem Mem.ge {w w':World} {L:List (Nat×Obj)} (h:Mem w w' L) (i:Nat) {g:Nat} {o:Obj} (hi:L[i]? = some (g,o)):w.heap.size≤g:=h.low (g,o) (List.mem_of_getElem? hi)
theorem Mem.wrote {w w' w2:World} {L:List (Nat×Obj)} (h:Mem w w' L) (i:Nat) {g:Nat} {o:Obj} (hi:L[i]? = some (g,o)) {new:Array Value} {t:TypeId} (hw:Wrote w' w2 g new t):Mem w w2 (L.set i (g,.cells new t (0,0))):=by
 have hil:=(List.getElem?_eq_some_iff.mp hi).1
 have he:L[i]=(g,o):=(List.getElem?_eq_some_iff.mp hi).2
 have hm:(L.set i (g,.cells new t (0,0))).map Prod.fst=L.map Prod.fst:=by
  rw [List.map_set]
  apply List.ext_getElem? ;intro j
  by_cases e:i=j
  ·subst e;simp [hil,he]
  ·rw [List.getElem?_set_ne e]
 have key:∀ p∈L.set i (g,.cells new t (0,0)),p=(g,.cells new t (0,0))∨(p∈L∧p.1≠g):=by
  intro p hp
  obtain ⟨j,hj,rfl⟩:=List.mem_iff_getElem.mp hp
  by_cases e:i=j
  ·subst e;left;simp
  ·right
   have hjl:j < L.length:=by simpa using hj
   rw [List.getElem_set_ne e]
   refine ⟨List.getElem_mem hjl,fun c=>e ?_⟩
   have hpw:=List.pairwise_iff_getElem.mp h.apart
   have hil':i < (L.map Prod.fst).length:=by simpa using hil
   have hjl':j < (L.map Prod.fst).length:=by simpa using hjl
   have c':(L.map Prod.fst)[i]=(L.map Prod.fst)[j]:=by simp [he,c]
   rcases Nat.lt_trichotomy i j with q | q | q
   ·exact absurd c' (hpw i j hil' hjl' q)
   ·exact q
   ·exact absurd c'.symm (hpw j i hjl' hil' q)
 refine ⟨hw.below _ _ (h.ge i hi) h.below,fun p hp=>?_,fun p hp=>?_,by rw [hm];exact h.apart⟩
 ·rcases key p hp with rfl | ⟨q,_⟩
  ·exact h.ge i hi
  ·exact h.low p q
 ·rcases key p hp with rfl | ⟨q,c⟩
  ·exact hw.here
  ·rw [hw.there _ c];exact h.at_ p q
theorem Mem.after {w w' w2:World} {L:List (Nat×Obj)} (h:Mem w w' L) (hb:Below w'.heap.size w' w2):Mem w w2 L :=
 ⟨h.below.trans (hb.mono h.below.size),h.low,fun p hp=>by rw [hb.block p.1 (h.lt hp)];exact h.at_ p hp,h.apart⟩
theorem Mem.old {w w':World} {L:List (Nat×Obj)} (h:Mem w w' L) {b i:Nat} (hb:b < w.heap.size):w'.cell? ⟨b,i,none⟩=w.cell? ⟨b,i,none⟩:=h.below.cell (p:=⟨b,i,none⟩) hb
theorem Mem.row {w w':World} {L:List (Nat×Obj)} (h:Mem w w' L) {a:Option Addr} {l:List Int} (hr:Row w a l):Row w' a l:=hr.below h.below (Nat.le_refl _)
theorem Mem.cell {w w':World} {L:List (Nat×Obj)} (h:Mem w w' L) (i:Nat) {g:Nat} {c:Array Value} {t:TypeId} (hi:L[i]? = some (g,.cells c t (0,0))) (j:Nat):w'.cell? ⟨g,j,none⟩=c[j]?:=cell_of (h.get i hi) j
theorem Mem.free {w w':World} {L:List (Nat×Obj)} (h:Mem w w' L) (i:Nat) {g:Nat} {c:Array Value} {t:TypeId} (hi:L[i]? = some (g,.cells c t (0,0))) (j:Nat):w'.frozen? ⟨g,j,none⟩=false:=by
 simp [World.frozen?,h.get i hi]
theorem Mem.set {w w':World} {L:List (Nat×Obj)} (h:Mem w w' L) (i:Nat) {g:Nat} {c:Array Value} {t:TypeId} (hi:L[i]? = some (g,.cells c t (0,0))) (j:Nat) (v:Value):Mem w (w'.setCell ⟨g,j,none⟩ v) (L.set i (g,.cells (c.setIfInBounds j v) t (0,0))):=by
 have e:=setCell_eq_setRow w' g j c t (0,0) v (h.get i hi)
 rw [e]
 exact h.wrote i hi (wrote_setRow w' g c _ t (h.get i hi))
theorem Mem.own {w w':World} {L:List (Nat×Obj)} (h:Mem w w' L) (i:Nat) {g:Nat} {l:List Int} {t:TypeId} (hi:L[i]? = some (g,.cells (l.map (Value.int .u8)).toArray t (0,0))) (hb:IsBytes l) (hl:l.length≤140737488351232):Row w' (some ⟨g,0,none⟩) l :=
 ⟨hb,hl,Or.inr ⟨g,0,rfl,fun j hj=>by rw [h.cell i hi,Nat.zero_add];simp [hj]⟩⟩
theorem made_new (m:Nat) (l:List Int) (h:l.length=m):(l.map (Value.int .u8)).toArray.toList=(madeCells #[Value.int .u8 0] m).toList.take 0++(l.map (Value.int .u8)++(madeCells #[Value.int .u8 0] m).toList.drop (0+l.length)):=by
 rw [List.drop_eq_nil_of_le (by rw [toList_madeCells_one];simp;omega)]
 simp
theorem Row.setCell {w:World} {b off:Nat} {l:List Int} (h:Row w (some ⟨b,off,none⟩) l) {p:Addr} (hp:p.block≠b) (v:Value):Row (w.setCell p v) (some ⟨b,off,none⟩) l :=
 ⟨h.bytes,h.len,Or.inr ⟨b,off,rfl,fun i hi=>by rw [World.cell?_setCell_other _ _ _ _ (fun e=>hp (by rw [e]))];exact h.cellAt i hi⟩⟩
theorem Mem.ne {w w':World} {L:List (Nat×Obj)} (h:Mem w w' L) (i j:Nat) {g k:Nat} {o u:Obj} (hi:L[i]? = some (g,o)) (hj:L[j]? = some (k,u)) (hij:i≠j):g≠k:=by
 obtain ⟨hil,ei⟩:=List.getElem?_eq_some_iff.mp hi
 obtain ⟨hjl,ej⟩:=List.getElem?_eq_some_iff.mp hj
 have hpw:=List.pairwise_iff_getElem.mp h.apart
 intro c
 have c':(L.map Prod.fst)[i]'(by simpa using hil)=(L.map Prod.fst)[j]'(by simpa using hjl):=by simp [ei,ej,c]
 rcases Nat.lt_trichotomy i j with q | q | q
 ·exact hpw i j (by simpa using hil) (by simpa using hjl) q c'
 ·exact hij q
 ·exact hpw j i (by simpa using hjl) (by simpa using hil) q c'.symm
theorem wp_letter {P:Program} {c:Code} {Q:Exit→Act→World→Prop} {a:Act} {W:World} (R:World→Prop) (h:R W) (k:∀ W',R W'→Code.wp P c Q a W'):Code.wp P c Q a W:=k W h
theorem row_string {w:World} {a:Option Addr} {l:List Int} (h:Row w a l) (cap:Nat):(convert 86 9 (.slice a l.length cap)).run Tryz.prog w=.ok (.string (strOfNums l)) w:=by
 rcases h.cells with e | ⟨b,off,rfl,hc⟩
 ·subst e
  cases a with
  | none=>exact Lib.run_convert_nil_bytes (P:=Tryz.prog) w 86 9 5 cap Tryz.underlying86 Tryz.underlying5 Tryz.underlying9
  | some x=>exact run_convert_bytes_back (P:=Tryz.prog) w 86 9 5 x cap [] Tryz.underlying86 Tryz.underlying5 Tryz.underlying9 (fun j hj=>by simp at hj)
 ·rw [run_convert_bytes_string w 86 9 5 _ _ cap Tryz.underlying86 Tryz.underlying5 Tryz.underlying9]
  have hl:=run_loadCells_list (P:=Tryz.prog) w ⟨b,off,none⟩ (l.map (Value.int .u8)) h.news
  rw [List.length_map] at hl
  rw [run_bytesToString w ⟨b,off,none⟩ l.length cap l hl,foldl_push_bytes]
  simp [strOfNums]
end Go.Proofs.YtdigofgjhaakmaaGreatDoor
