/-
  Errors as numbers: what errors.Is answers of two of them.
  Plain mathematics of addresses as text, with no program in it: decimal and hexadecimal numbers, texts cut at a sign, and that each address has its one text.
  The library's contracts that this program uses, at its own numbers.
  What is changed: lists in order of names: what is put in, taken out, found; names in order, each once.
  A script's acts that come in.
  Slices that come in: kinds and bools.
  A log's Append of whatever slice.
-/
import Derived.Test.YtdigofgjhaakmaaGreatDoorW07
import Derived.Lib.IfaceEq
import Derived.Lib.Split
import Derived.Sort.EveryDepth
import Derived.Shelf.Slices.CompactS
import Derived.Shelf.Slices.In.SortNone
import Derived.Shelf.Sort.AssemblysIn
import Derived.Shelf.Unicode.ValidAny
import Derived.Shelf.Unicode.DecodeSlow
import Derived.Shelf.Unicode.DecodeAny
import Derived.Test.YtdigofgjhaakmaaGreatDoorProg
import Derived.Sort.Walk0
import Derived.Lib.SlicesCompact
import Derived.Test.YtdigofgjhaakmaaGreatDoorW01
import Derived.Test.YtdigofgjhaakmaaGreatDoorW19
import Derived.Test.YtdigofgjhaakmaaGreatDoorW02
import Derived.Deep.Slices
import Derived.OpenShut
import Derived.Below
import Derived.Test.YtdigofgjhaakmaaGreatDoorW18
set_option linter.unusedVariables false
set_option linter.unusedSimpArgs false
set_option maxRecDepth 100000
set_option maxHeartbeats 40000000
namespace Go.Proofs.YtdigofgjhaakmaaGreatDoor
open Go.RowKit Go.Extern.Stop Go.Stop Go.Extern
theorem is_comparableE (w:World):(cmpEntry #[.agg #[.pointer (some ⟨4,28,none⟩)]]).run Tryz.prog w=.ok (.bool true) w:=by kernel_rfl
theorem isn_any (x y:Int) (w:World) :
  Calls Tryz.prog 62 #[.iface 28 (.int .i64 x),.iface 28 (.int .i64 y)] w fun e w'=>e=.returned (.bool (x == y))∧w=w':=by
 have h8:=@run_callFunc_extern Tryz.prog 89 _ Extern.ReflectliteType.typeOf Tryz.func89 (by kernel_rfl) (by kernel_rfl) (by kernel_rfl) (by kernel_rfl)
 have h32:=@run_callFunc_extern Tryz.prog 345 _ cmpEntry Tryz.func345 (by kernel_rfl) (by kernel_rfl) (by kernel_rfl) (by kernel_rfl)
 have tT:=as_typeOf
 have cT:=is_comparableE
 have mR:=is_methodComparable
 have nE:=is_noIs
 have uE:=is_noUnwrap
 have vE:=is_noUnwraps
 have hxy:(binOp .eql 134 (.iface 28 (.int .i64 x)) (.iface 28 (.int .i64 y))).run Tryz.prog w=.ok (.bool (x == y)) w:=Go.Lib.run_eql_iface_int (q:=.i64) w x y Tryz.underlying134 (by kernel_rfl) Tryz.underlying28
 generalize (x == y)=r at hxy ⊢
 go_enter Tryz.func62,Tryz.ntmps62
 cases r
 all_goals
  go_wp2
  refine wp_loop_rounds 1 ?_
  rw [rounds_succ]
  go_wp2
  go_ret
  exact ⟨rfl,rfl⟩
theorem failed_any (x:Int) (w:World):Calls Tryz.prog 41 #[.iface 28 (.int .i64 x)] w fun e w'=>e=.returned (.bool (x != 0))∧w=w':=by
 have C:=isn_any x 0 w
 go_enter Tryz.func41,Tryz.ntmps41
 go_wp2_with fail
 refine C.mono ?_
 rintro e w' ⟨rfl,rfl⟩
 go_wp2_with fail
 go_ret
 exact ⟨rfl,rfl⟩
end Go.Proofs.YtdigofgjhaakmaaGreatDoor
namespace Go.Proofs.YtdigofgjhaakmaaGreatDoor
namespace Ad
def numGo (most:Nat):Nat→List UInt8→Option Nat
 | n,[]=>some n
 | n,b::l=>if 48≤b.toNat∧b.toNat≤57 then (if most < 10 * n+(b.toNat - 48) then none else numGo most (10 * n+(b.toNat - 48)) l) else none
def num (l:List UInt8) (most:Nat):Option Nat:=if l=[]∨(1 < l.length∧l.head? = some 48) then none else numGo most 0 l
def nv (o:Option Nat):Int:=((o.getD 0:Nat):Int)
theorem drop_cons (s:ByteArray) (i:Nat) (h:i < s.size):s.data.toList.drop i=s[i]'h::s.data.toList.drop (i+1):=by
 have hl:i < s.data.toList.length:=by rw [Array.length_toList];exact h
 rw [List.drop_eq_getElem_cons hl]
 congr 1
theorem drop_end (s:ByteArray) (i:Nat) (h:¬ i < s.size):s.data.toList.drop i=[]:=by
 apply List.drop_eq_nil_of_le
 rw [Array.length_toList];show s.size≤i;omega
def hx (n:Nat):Option Nat:=if 48≤n∧n≤57 then some (n - 48) else if 97≤n∧n≤102 then some (n - 87) else none
def hdg (n:Nat):Nat:=if n < 10 then 48+n else 87+n
def two:List UInt8→Option Nat
 | [a,b]=>match hx a.toNat,hx b.toNat with
  | some x,some y=>some (16 * x+y)
  | _,_=>none
 | _=>none
theorem text_len (s:ByteArray):s.data.toList.length=s.size:=by rw [Array.length_toList];rfl
def twos:List UInt8→Option (List Int)
 | []=>some []
 | [_]=>none
 | a::b::t=>match two [a,b],twos t with
  | some x,some r=>some ((x:Int)::r)
  | _,_=>none
def key (s:List UInt8):Option (List Int):=if s.length=16 then twos s else none
theorem six {r:List Int} (h:r.length=6):∃ a b c d e f,r=[a,b,c,d,e,f]:=by
 match r,h with
 | [a,b,c,d,e,f],_=>exact ⟨a,b,c,d,e,f,rfl⟩
end Ad
end Go.Proofs.YtdigofgjhaakmaaGreatDoor

namespace Go.Proofs
open Go.Shelf
def Tryz.lays190_ren:Go.Shelf.Ren:=⟨fun | 190=>102 | 125=>136 | 258=>135 | 128=>201 | 129=>202 | 302=>192 | 303=>193 | 304=>194 | 305=>195 | 306=>196 | 307=>197 | 308=>198 | 309=>199 | 310=>200 | 333=>264 | 329=>265 | 330=>266 | 334=>267 | 335=>268 | 336=>269 | 344=>314 | n=>n,fun | 31=>140 | 9=>9 | 3=>3 | 46=>120 | 0=>0 | 51=>33 | 53=>32 | 4=>4 | 183=>265 | 182=>264 | 131=>270 | 5=>5 | 218=>322 | 222=>299 | 228=>340 | 229=>52 | n=>n,fun | n=>n⟩
theorem Tryz.lays190:Go.Proofs.Lays.n190 Tryz.prog Tryz.lays190_ren:={
 mixed:=by kernel_rfl
 f125:=Tryz.func136.trans (congrArg some (by kernel_rfl))
 f128:=Tryz.func201.trans (congrArg some (by kernel_rfl))
 f129:=Tryz.func202.trans (congrArg some (by kernel_rfl))
 f190:=Tryz.func102.trans (congrArg some (by kernel_rfl))
 f258:=Tryz.func135.trans (congrArg some (by kernel_rfl))
 f302:=Tryz.func192.trans (congrArg some (by kernel_rfl))
 f303:=Tryz.func193.trans (congrArg some (by kernel_rfl))
 f304:=Tryz.func194.trans (congrArg some (by kernel_rfl))
 f305:=Tryz.func195.trans (congrArg some (by kernel_rfl))
 f306:=Tryz.func196.trans (congrArg some (by kernel_rfl))
 f307:=Tryz.func197.trans (congrArg some (by kernel_rfl))
 f308:=Tryz.func198.trans (congrArg some (by kernel_rfl))
 f309:=Tryz.func199.trans (congrArg some (by kernel_rfl))
 f310:=Tryz.func200.trans (congrArg some (by kernel_rfl))
 f329:=Tryz.func265.trans (congrArg some (by kernel_rfl))
 f330:=Tryz.func266.trans (congrArg some (by kernel_rfl))
 f333:=Tryz.func264.trans (congrArg some (by kernel_rfl))
 f334:=Tryz.func267.trans (congrArg some (by kernel_rfl))
 f335:=Tryz.func268.trans (congrArg some (by kernel_rfl))
 f336:=Tryz.func269.trans (congrArg some (by kernel_rfl))
 f344:=Tryz.func314.trans (congrArg some (by kernel_rfl))
 t0:=Tryz.underlying0
 a0:=Tryz.isAgg0
 z0:=Tryz.sizeOf0
 v0:=Tryz.zeroValue0
 t3:=Tryz.underlying3
 a3:=Tryz.isAgg3
 z3:=Tryz.sizeOf3
 v3:=Tryz.zeroValue3
 t4:=Tryz.underlying4
 a4:=Tryz.isAgg4
 z4:=Tryz.sizeOf4
 v4:=Tryz.zeroValue4
 t5:=Tryz.underlying5
 a5:=Tryz.isAgg5
 z5:=Tryz.sizeOf5
 v5:=Tryz.zeroValue5
 t9:=Tryz.underlying9
 a9:=Tryz.isAgg9
 z9:=Tryz.sizeOf9
 v9:=Tryz.zeroValue9
 t31:=Tryz.underlying140
 a31:=Tryz.isAgg140
 z31:=Tryz.sizeOf140
 v31:=Tryz.zeroValue140
 t46:=Tryz.underlying120
 a46:=Tryz.isAgg120
 z46:=Tryz.sizeOf120
 v46:=Tryz.zeroValue120
 t51:=Tryz.underlying33
 a51:=Tryz.isAgg33
 z51:=Tryz.sizeOf33
 v51:=Tryz.zeroValue33
 t53:=Tryz.underlying32
 a53:=Tryz.isAgg32
 z53:=Tryz.sizeOf32
 v53:=Tryz.zeroValue32
 t131:=Tryz.underlying270
 a131:=Tryz.isAgg270
 z131:=Tryz.sizeOf270
 v131:=Tryz.zeroValue270
 t182:=Tryz.underlying264
 a182:=Tryz.isAgg264
 z182:=Tryz.sizeOf264
 v182:=Tryz.zeroValue264
 t183:=Tryz.underlying265
 a183:=Tryz.isAgg265
 z183:=Tryz.sizeOf265
 v183:=Tryz.zeroValue265
 t218:=Tryz.underlying322
 a218:=Tryz.isAgg322
 z218:=Tryz.sizeOf322
 v218:=Tryz.zeroValue322
 t222:=Tryz.underlying299
 a222:=Tryz.isAgg299
 z222:=Tryz.sizeOf299
 v222:=Tryz.zeroValue299
 t228:=Tryz.underlying340
 a228:=Tryz.isAgg340
 z228:=Tryz.sizeOf340
 v228:=Tryz.zeroValue340
 t229:=Tryz.underlying52
 a229:=Tryz.isAgg52
 z229:=Tryz.sizeOf52
 v229:=Tryz.zeroValue52 }
def Tryz.lays194_ren:Go.Shelf.Ren:=⟨fun | 194=>103 | n=>n,fun | 31=>140 | 9=>9 | 3=>3 | 4=>4 | 0=>0 | n=>n,fun | n=>n⟩
theorem Tryz.lays194:Go.Proofs.Lays.n194 Tryz.prog Tryz.lays194_ren:={
 mixed:=by kernel_rfl
 f194:=Tryz.func103.trans (congrArg some (by kernel_rfl))
 t0:=Tryz.underlying0
 a0:=Tryz.isAgg0
 z0:=Tryz.sizeOf0
 v0:=Tryz.zeroValue0
 t3:=Tryz.underlying3
 a3:=Tryz.isAgg3
 z3:=Tryz.sizeOf3
 v3:=Tryz.zeroValue3
 t4:=Tryz.underlying4
 a4:=Tryz.isAgg4
 z4:=Tryz.sizeOf4
 v4:=Tryz.zeroValue4
 t9:=Tryz.underlying9
 a9:=Tryz.isAgg9
 z9:=Tryz.sizeOf9
 v9:=Tryz.zeroValue9
 t31:=Tryz.underlying140
 a31:=Tryz.isAgg140
 z31:=Tryz.sizeOf140
 v31:=Tryz.zeroValue140 }
def Tryz.lays196_ren:Go.Shelf.Ren:=⟨fun | 196=>258 | 259=>312 | n=>n,fun | 9=>9 | 4=>4 | 3=>3 | 5=>5 | 12=>12 | 119=>220 | 0=>0 | 46=>120 | 139=>223 | 138=>222 | 53=>32 | n=>n,fun | 3=>2 | 4=>3 | n=>n⟩
theorem Tryz.lays196:Go.Proofs.Lays.n196 Tryz.prog Tryz.lays196_ren:={
 mixed:=by kernel_rfl
 f196:=Tryz.func258.trans (congrArg some (by kernel_rfl))
 f259:=Tryz.func312.trans (congrArg some (by kernel_rfl))
 t0:=Tryz.underlying0
 a0:=Tryz.isAgg0
 z0:=Tryz.sizeOf0
 v0:=Tryz.zeroValue0
 t3:=Tryz.underlying3
 a3:=Tryz.isAgg3
 z3:=Tryz.sizeOf3
 v3:=Tryz.zeroValue3
 t4:=Tryz.underlying4
 a4:=Tryz.isAgg4
 z4:=Tryz.sizeOf4
 v4:=Tryz.zeroValue4
 t5:=Tryz.underlying5
 a5:=Tryz.isAgg5
 z5:=Tryz.sizeOf5
 v5:=Tryz.zeroValue5
 t9:=Tryz.underlying9
 a9:=Tryz.isAgg9
 z9:=Tryz.sizeOf9
 v9:=Tryz.zeroValue9
 t12:=Tryz.underlying12
 a12:=Tryz.isAgg12
 z12:=Tryz.sizeOf12
 v12:=Tryz.zeroValue12
 t46:=Tryz.underlying120
 a46:=Tryz.isAgg120
 z46:=Tryz.sizeOf120
 v46:=Tryz.zeroValue120
 t53:=Tryz.underlying32
 a53:=Tryz.isAgg32
 z53:=Tryz.sizeOf32
 v53:=Tryz.zeroValue32
 t119:=Tryz.underlying220
 a119:=Tryz.isAgg220
 z119:=Tryz.sizeOf220
 t138:=Tryz.underlying222
 a138:=Tryz.isAgg222
 z138:=Tryz.sizeOf222
 v138:=Tryz.zeroValue222
 t139:=Tryz.underlying223
 a139:=Tryz.isAgg223
 z139:=Tryz.sizeOf223
 v139:=Tryz.zeroValue223
 g3:=by kernel_rfl
 g4:=by kernel_rfl }
end Go.Proofs
namespace Go.Proofs.YtdigofgjhaakmaaGreatDoor
namespace Df
section
variable {α:Type} (f:α→List UInt8)
def put (t:α) (again:Bool):List α→List α
 | []=>[t]
 | y::r=>if f y < f t then y::put t again r else if f y=f t then (if again then t::r else y::r) else t::y::r
def del (n:List UInt8) (M:List α):List α:=M.filter (fun y=>decide (f y≠n))
def look (n:List UInt8) (M:List α):Option α:=M.find? (fun y=>decide (f y=n))
def Srt (M:List α):Prop:=M.Pairwise (fun a b=>f a < f b)
def byn (l:List α):List α:=l.foldl (fun M t=>put f t false M) []
end
theorem lt_irr (a:List UInt8):¬ a < a:=List.lt_irrefl a
theorem lt_tr {a b c:List UInt8} (h:a < b) (h':b < c):a < c:=List.lt_trans h h'
theorem lt_or {a b:List UInt8} (h:¬ a < b) (hn:a≠b):b < a:=by
 rcases List.le_total a b with h1 | h1
 ·exact absurd (List.le_antisymm h1 (List.not_lt.1 h)) hn
 ·exact Classical.byContradiction fun h2=>hn (List.le_antisymm (List.not_lt.1 h2) h1)
theorem lt_ne {a b:List UInt8} (h:a < b):a≠b:=fun e=>lt_irr b (e ▸ h)
section
variable {α:Type} {f:α→List UInt8}
theorem mem_put {t:α} {again:Bool}:∀ {M:List α} {x:α},x∈put f t again M→x=t∨x∈M
 | [],x,h=>by simp [put] at h;exact Or.inl h
 | y::r,x,h=>by
  unfold put at h
  split at h
  ·rcases List.mem_cons.1 h with rfl | h
   ·exact Or.inr (by simp)
   ·rcases mem_put h with h | h
    ·exact Or.inl h
    ·exact Or.inr (by simp [h])
  ·split at h
   ·split at h
    ·rcases List.mem_cons.1 h with rfl | h
     ·exact Or.inl rfl
     ·exact Or.inr (by simp [h])
    ·exact Or.inr h
   ·rcases List.mem_cons.1 h with rfl | h
    ·exact Or.inl rfl
    ·exact Or.inr h
theorem srt_put {t:α} {again:Bool}:∀ {M:List α},Srt f M→Srt f (put f t again M)
 | [],_=>by simp [put,Srt]
 | y::r,h=>by
  obtain ⟨h1,h2⟩:=List.pairwise_cons.1 h
  unfold put
  split
  ·rename_i hy
   refine List.pairwise_cons.2 ⟨fun x hx=>?_,srt_put h2⟩
   rcases mem_put hx with rfl | hx
   ·exact hy
   ·exact h1 x hx
  ·rename_i hy
   split
   ·rename_i he
    split
    ·exact List.pairwise_cons.2 ⟨fun x hx=>he ▸ h1 x hx,h2⟩
    ·exact h
   ·rename_i he
    have hlt:=lt_or hy he
    refine List.pairwise_cons.2 ⟨fun x hx=>?_,h⟩
    rcases List.mem_cons.1 hx with rfl | hx
    ·exact hlt
    ·exact lt_tr hlt (h1 x hx)
theorem srt_del {n:List UInt8} {M:List α} (h:Srt f M):Srt f (del f n M):=h.filter _
theorem mem_del {n:List UInt8} {M:List α} {x:α}:x∈del f n M ↔ x∈M∧f x≠n:=by simp [del]
theorem look_some {n:List UInt8} {M:List α} {x:α} (h:look f n M=some x):x∈M∧f x=n:=by
 have h1:=List.mem_of_find?_eq_some h
 have h2:=List.find?_some h
 exact ⟨h1,by simpa using h2⟩
theorem look_none {n:List UInt8} {M:List α}:look f n M=none ↔ ∀ x∈M,f x≠n:=by
 simp [look,List.find?_eq_none]
theorem srt_inj {M:List α} (h:Srt f M) {x y:α} (hx:x∈M) (hy:y∈M) (e:f x=f y):x=y:=by
 induction M with
 | nil=>cases hx
 | cons z r ih =>
  obtain ⟨h1,h2⟩:=List.pairwise_cons.1 h
  rcases List.mem_cons.1 hx with ex | hx' <;> rcases List.mem_cons.1 hy with ey | hy'
  ·rw [ex,ey]
  ·subst ex;exact absurd e (lt_ne (h1 y hy'))
  ·subst ey;exact absurd e.symm (lt_ne (h1 x hx'))
  ·exact ih h2 hx' hy'
theorem look_mem {M:List α} (h:Srt f M) {x:α} (hx:x∈M):look f (f x) M=some x:=by
 cases hl:look f (f x) M with
 | none=>exact absurd rfl (look_none.1 hl x hx)
 | some y =>
  obtain ⟨h1,h2⟩:=look_some hl
  rw [srt_inj h h1 hx h2]
theorem mem_iff_look {M:List α} (h:Srt f M) {x:α}:x∈M ↔ look f (f x) M=some x:=⟨look_mem h,fun h=>(look_some h).1⟩
theorem srt_ext:∀ {A B:List α},Srt f A→Srt f B→(∀ x,x∈A ↔ x∈B)→A=B
 | [],[],_,_,_=>rfl
 | [],b::B,_,_,h=>absurd ((h b).2 (by simp)) (by simp)
 | a::A,[],_,_,h=>absurd ((h a).1 (by simp)) (by simp)
 | a::A,b::B,hA,hB,h=>by
  obtain ⟨a1,a2⟩:=List.pairwise_cons.1 hA
  obtain ⟨b1,b2⟩:=List.pairwise_cons.1 hB
  have e:a=b:=by
   rcases List.mem_cons.1 ((h a).1 (by simp)) with e | h1
   ·exact e
   ·rcases List.mem_cons.1 ((h b).2 (by simp)) with e | h2
    ·exact e.symm
    ·exact absurd (lt_tr (a1 b h2) (b1 a h1)) (lt_irr _)
  subst e
  rw [srt_ext a2 b2 fun x=>?_]
  constructor
  ·intro hx
   rcases List.mem_cons.1 ((h x).1 (by simp [hx])) with e | h1
   ·subst e;exact absurd (a1 x hx) (lt_irr _)
   ·exact h1
  ·intro hx
   rcases List.mem_cons.1 ((h x).2 (by simp [hx])) with e | h1
   ·subst e;exact absurd (b1 x hx) (lt_irr _)
   ·exact h1
theorem look_ext {A B:List α} (hA:Srt f A) (hB:Srt f B) (h:∀ n,look f n A=look f n B):A=B :=
 srt_ext hA hB fun x=>by rw [mem_iff_look hA,mem_iff_look hB,h]
theorem look_put_other {t:α} {again:Bool} {n:List UInt8} (hn:f t≠n):∀ M:List α,look f n (put f t again M)=look f n M
 | []=>by simp [put,look,hn]
 | y::r=>by
  have ih:=look_put_other (again:=again) hn r
  unfold put
  split
  ·unfold look at ih ⊢
   simp only [List.find?_cons]
   rw [ih]
  ·split
   ·rename_i he
    split
    ·have hy:f y≠n:=he ▸ hn
     simp [look,List.find?_cons,hn,hy]
    ·rfl
   ·simp [look,List.find?_cons,hn]
theorem look_put_same {t:α} {again:Bool}:∀ {M:List α},Srt f M→look f (f t) (put f t again M)=some (if again then t else (look f (f t) M).getD t)
 | [],_=>by simp [put,look]
 | y::r,h=>by
  obtain ⟨h1,h2⟩:=List.pairwise_cons.1 h
  have ih:=look_put_same (again:=again) (t:=t) h2
  unfold put
  split
  ·rename_i hy
   have e:f y≠f t:=lt_ne hy
   unfold look at ih ⊢
   simp only [List.find?_cons,e,decide_false]
   exact ih
  ·rename_i hy
   split
   ·rename_i he
    cases again <;> simp [look,List.find?_cons,he]
   ·rename_i he
    have hlt:=lt_or hy he
    have hno:look f (f t) (y::r)=none:=look_none.2 fun x hx=>by
     rcases List.mem_cons.1 hx with rfl | hx
     ·exact he
     ·exact (lt_ne (lt_tr hlt (h1 x hx))).symm
    rw [hno]
    simp [look]
theorem srt_foldl {M:List α} (h:Srt f M) (l:List α):Srt f (l.foldl (fun M t=>put f t false M) M):=by
 induction l generalizing M with
 | nil=>exact h
 | cons t l ih=>exact ih (srt_put h)
theorem srt_byn (l:List α):Srt f (byn f l):=srt_foldl List.Pairwise.nil l
theorem look_foldl {M:List α} (h:Srt f M) (n:List UInt8):∀ l:List α,look f n (l.foldl (fun M t=>put f t false M) M)=(look f n M).or (look f n l)
 | []=>by simp [look]
 | t::l=>by
  have ih:=look_foldl (srt_put (t:=t) (again:=false) h) n l
  rw [List.foldl_cons,ih]
  by_cases hn:f t=n
  ·subst hn
   rw [look_put_same h]
   cases hl:look f (f t) M <;> simp [look,List.find?_cons]
  ·rw [look_put_other hn]
   have e1:look f n (t::l)=look f n l:=by simp [look,List.find?_cons,hn]
   rw [e1]
theorem look_byn (l:List α) (n:List UInt8):look f n (byn f l)=look f n l:=by
 rw [byn,look_foldl List.Pairwise.nil]
 simp [look]
theorem byn_srt {M:List α} (h:Srt f M):byn f M=M:=look_ext (srt_byn M) h (look_byn M)
theorem byn_snoc (l:List α) (t:α):byn f (l++[t])=put f t false (byn f l):=by simp [byn]
theorem mem_byn {l:List α} {x:α} (h:x∈byn f l):x∈l:=by
 have:=(mem_iff_look (srt_byn l)).1 h
 rw [look_byn] at this
 exact (look_some this).1
theorem put_length (t:α) (again:Bool):∀ M:List α,(put f t again M).length≤M.length+1
 | []=>by simp [put]
 | y::r=>by
  have:=put_length t again r
  unfold put
  split
  ·simp;omega
  ·split
   ·split <;> simp
   ·simp
theorem byn_length (l:List α):(byn f l).length≤l.length:=by
 have key:∀ (l M:List α),(l.foldl (fun M t=>put f t false M) M).length≤M.length+l.length:=by
  intro l
  induction l with
  | nil=>simp
  | cons t l ih=>intro M;have:=ih (put f t false M);have:=put_length (f:=f) t false M;simp only [List.foldl_cons,List.length_cons];omega
 simpa [byn] using key l []
theorem del_at {M:List α} (h:Srt f M) {k:Nat} (hk:k < M.length):del f (f M[k]) M=M.take k++M.drop (k+1):=by
 have e:M=M.take k++M[k]::M.drop (k+1):=by rw [List.getElem_cons_drop,List.take_append_drop]
 have hp:Srt f (M.take k++M[k]::M.drop (k+1)):=e ▸ h
 generalize hz:M[k]=z at *
 obtain ⟨h1,h2,h3⟩:=List.pairwise_append.1 hp
 obtain ⟨h4,h5⟩:=List.pairwise_cons.1 h2
 conv=>lhs;rw [e]
 unfold del
 rw [List.filter_append,List.filter_cons]
 have a1:(M.take k).filter (fun y=>decide (f y≠f z))=M.take k:=List.filter_eq_self.2 fun x hx=>by
  have:=h3 x hx z (by simp)
  simpa using lt_ne this
 have a2:(M.drop (k+1)).filter (fun y=>decide (f y≠f z))=M.drop (k+1):=List.filter_eq_self.2 fun x hx=>by
  have:=h4 x hx
  simpa using (lt_ne this).symm
 rw [a1,a2]
 simp
theorem del_no {M:List α} {n:List UInt8} (h:∀ k (hk:k < M.length),f M[k]≠n):del f n M=M :=
 List.filter_eq_self.2 fun x hx=>by
  obtain ⟨k,hk,rfl⟩:=List.mem_iff_getElem.1 hx
  simpa using h k hk
theorem del_length (n:List UInt8) (M:List α):(del f n M).length≤M.length:=List.length_filter_le _ _
end
section
variable {α β:Type} {f:α→List UInt8} {g:β→List UInt8} {h:α→β} (hg:∀ x,g (h x)=f x)
include hg
theorem map_put (t:α) (again:Bool):∀ M:List α,(put f t again M).map h=put g (h t) again (M.map h)
 | []=>rfl
 | y::r=>by
  simp only [put,List.map_cons,hg]
  split
  ·simp [map_put t again r]
  ·split
   ·cases again <;> simp
   ·simp
theorem map_del (n:List UInt8) (M:List α):(del f n M).map h=del g n (M.map h):=by
 unfold del
 rw [List.filter_map]
 congr 1
 apply List.filter_congr
 intro x _
 simp [hg]
theorem map_look (n:List UInt8):∀ M:List α,(look f n M).map h=look g n (M.map h)
 | []=>rfl
 | y::r=>by
  have ih:=map_look n r
  unfold look at ih ⊢
  by_cases hy:f y=n
  ·simp [List.find?_cons,hg,hy]
  ·simp [List.find?_cons,hg,hy]
   simpa using ih
theorem map_byn (l:List α):(byn f l).map h=byn g (l.map h):=by
 have key:∀ (l M:List α),(l.foldl (fun M t=>put f t false M) M).map h=(l.map h).foldl (fun M t=>put g t false M) (M.map h):=by
  intro l
  induction l with
  | nil=>simp
  | cons t l ih=>intro M;simp only [List.foldl_cons,List.map_cons];rw [ih,map_put hg]
 simpa [byn] using key l []
end
theorem srt_compact {l:List (List UInt8)} (h:l.Pairwise (·≤·)):(Lib.compact l).Pairwise (· < ·)∧∀ x,x∈Lib.compact l ↔ x∈l:=by
 have hget:∀ i j,i≤j→j < l.length→l.toArray[i]!≤l.toArray[j]!:=by
  intro i j hij hj
  have hi:i < l.length:=by omega
  rw [getElem!_pos _ i (by simpa using hi),getElem!_pos _ j (by simpa using hj)]
  simp only [List.getElem_toArray]
  rcases Nat.lt_or_ge i j with h1 | h1
  ·exact List.pairwise_iff_getElem.1 h i j hi hj h1
  ·obtain rfl:i=j:=by omega
   exact List.le_refl _
 constructor
 ·unfold Lib.compact Lib.compactUpTo
  rw [List.pairwise_map]
  refine ((List.pairwise_lt_range (n:=l.length)).filter _).imp_of_mem ?_
  intro i j hi hj hij
  simp only [List.mem_filter,List.mem_range] at hi hj
  have h1:=hget i (j - 1) (by omega) (by omega)
  have h2:=hget (j - 1) j (by omega) hj.1
  have hne:l.toArray[j]!≠l.toArray[j - 1]!:=by
   intro e
   have:=hj.2
   rw [Lib.keeps_neg (by omega) e] at this
   cases this
  have h3:=List.le_trans h1 h2
  refine Classical.byContradiction fun hh=>?_
  have h4:l.toArray[j]!≤l.toArray[i]!:=List.not_lt.1 hh
  exact hne (List.le_antisymm (List.le_trans h4 h1) h2)
 ·intro x
  unfold Lib.compact Lib.compactUpTo
  simp only [List.mem_map,List.mem_filter,List.mem_range]
  constructor
  ·rintro ⟨i,⟨hi,_⟩,rfl⟩
   rw [getElem!_pos _ i (by simpa using hi)]
   simp
  ·intro hx
   obtain ⟨i,hi,rfl⟩:=List.mem_iff_getElem.1 hx
   induction i using Nat.strongRecOn with
   | ind i ih =>
    by_cases hk:Lib.keeps l.toArray i=true
    ·exact ⟨i,⟨hi,hk⟩,by rw [getElem!_pos _ i (by simpa using hi)];simp⟩
    ·have h0:0 < i:=by
      rcases Nat.eq_zero_or_pos i with e | h
      ·exact absurd (Lib.keeps_lt_one _ i (by omega)) hk
      ·exact h
     have he:l.toArray[i]! = l.toArray[i - 1]!:=Classical.byContradiction fun hne=>hk (Lib.keeps_pos hne)
     obtain ⟨j,hj,e⟩:=ih (i - 1) (by omega) (by omega) (List.getElem_mem _)
     refine ⟨j,hj,e.trans ?_⟩
     rw [getElem!_pos _ i (by simpa using hi),getElem!_pos _ (i - 1) (by simp;omega)] at he
     simpa using he.symm
theorem names_of {l:List (List UInt8)} {m:List (List UInt8)} (hm:m.Pairwise (· < ·)) (h:∀ x,x∈l ↔ x∈m):Lib.compact (l.mergeSort (fun x y=>decide (x≤y)))=m:=by
 have hs:(l.mergeSort (fun x y=>decide (x≤y))).Pairwise (·≤·):=by
  have:=List.pairwise_mergeSort (le:=fun x y:List UInt8=>decide (x≤y)) (fun a b c h1 h2=>by simp only [decide_eq_true_eq] at *;exact List.le_trans h1 h2) (fun a b=>by simp only [Bool.or_eq_true,decide_eq_true_eq];exact List.le_total a b) l
  exact this.imp (fun h=>by simpa using h)
 obtain ⟨h1,h2⟩:=srt_compact hs
 exact srt_ext (f:=id) h1 hm fun x=>by rw [h2,List.mem_mergeSort,h]
end Df
end Go.Proofs.YtdigofgjhaakmaaGreatDoor
namespace Go.Proofs.YtdigofgjhaakmaaGreatDoor
open Go.ChangeShapes Go.WideShapes Go.ChangeAt Go.RowKit Go.Joins
open Sm
open Cf
structure Ac where
 what:Int
 good:Bool
 v:Int
 kind:Int
 nn:Int
 y:Chg×Value×Value×Value
 raw:Bool
 c:Cgf
 u:Value
def aC (x:Ac):List Value:=.int .i64 x.what::.bool x.good::.int .u64 x.v::.int .u16 x.kind::.int .u8 x.nn::(hc x.y.1 x.y.2.1 x.y.2.2.1 x.y.2.2.2++(.bool x.raw::cc x.c x.u))
structure AcW (w:World) (x:Ac):Prop where
 what:-9223372036854775808≤x.what∧x.what≤9223372036854775807
 v:0≤x.v∧x.v≤18446744073709551615
 kind:0≤x.kind∧x.kind≤65535
 nn:0≤x.nn∧x.nn≤255
 len:TLen x.y.1.t
 rws:Rws w (x.y.1.t,x.y.2)
 tby:TBy x.y.1.t
 trg:TRg x.y.1.t
 tsv:TSV w x.u x.c.ten
 cin:CIn x.c
 crg:CRg x.c
 ten:∀ t∈x.c.ten,TBy t∧TRg t
section
variable {H:Type} {enc:TypeId×Value→H} {W:World} {base:Nat} {held:Bool}
end
end Go.Proofs.YtdigofgjhaakmaaGreatDoor
namespace Go.Proofs.YtdigofgjhaakmaaGreatDoor
open Go.ChangeShapes Go.WideShapes Go.ChangeAt Go.RowKit
theorem open_elems {H:Type} {enc:TypeId×Value→H} {W:World} {base:Nat} {held:Bool} {a:Option Addr} {len cap:Nat} {d:DataW H} {p:List MemPlace} {t e:TypeId} (ht:Tryz.prog.underlying t=some (.slice e)) (hc:Tryz.prog.cellsOf e=1) (h:DataW.Trod enc Tryz.prog W base (fun _=>true) held t (.slice a len cap) d p) :
  ∀ i,i < len→∃ b off v fuel y,a=some ⟨b,off,none⟩∧W.cell? ⟨b,off+i,none⟩=some v∧DataW.trod enc Tryz.prog W base (fun _=>true) held fuel e [v]=some y:=by
 obtain ⟨fuel,hf⟩:=h
 rcases Go.Deep.open_slice1 ht hc hf with ⟨hcs,_⟩ | ⟨x,l,c,m,n,V,D,Pl,hcs,_,hl,hm,hmm,_,hx⟩
 ·simp [Value.cells] at hcs
  obtain ⟨rfl,rfl,rfl⟩:=hcs
  intro i hi;omega
 ·simp [Value.cells] at hcs
  obtain ⟨rfl,rfl,rfl⟩:=hcs
  have hlm:len≤m:=by simp at hmm;omega
  intro i hi
  obtain ⟨b,off,spot⟩:=x
  have hspot:spot=none:=by simpa [Addr.add] using World.cell?_spot (hx 0 (by omega)).1
  subst hspot
  obtain ⟨h1,h2⟩:=hx i (by omega)
  refine ⟨b,off,V i,n,_,rfl,?_,h2⟩
  by_cases e0:i=0
  ·subst e0;simpa [Addr.add] using h1
  ·simpa [Addr.add,e0] using h1
open Classical in
theorem open_hs {H:Type} {enc:TypeId×Value→H} {W:World} {base:Nat} {held:Bool} {a:Option Addr} {len cap:Nat} {d:DataW H} {p:List MemPlace} (h:DataW.Trod enc Tryz.prog W base (fun _=>true) held 75 (.slice a len cap) d p) :
  ∃ ks:Nat→Int,∀ i,i < len→∃ b off,a=some ⟨b,off,none⟩∧W.cell? ⟨b,off+i,none⟩=some (.int .u16 (ks i))∧0≤ks i∧ks i≤65535:=by
 have h1:∀ i,∃ k:Int,i < len→∃ b off,a=some ⟨b,off,none⟩∧W.cell? ⟨b,off+i,none⟩=some (.int .u16 k)∧0≤k∧k≤65535:=by
  intro i
  by_cases hi:i < len
  ·obtain ⟨b,off,v,fuel,y,h2,h3,h4⟩:=open_elems Tryz.underlying75 (by kernel_rfl) h i hi
   obtain ⟨k,rfl,hw⟩:=open_cell (k:=.u16) Tryz.underlying42 h4
   exact ⟨k,fun _=>⟨b,off,h2,h3,bounds_u16 hw⟩⟩
  ·exact ⟨0,fun h=>absurd h hi⟩
 exact ⟨fun i=>(h1 i).choose,fun i=>(h1 i).choose_spec⟩
end Go.Proofs.YtdigofgjhaakmaaGreatDoor
namespace Go.Proofs.YtdigofgjhaakmaaGreatDoor
open Go.RowKit
open Sm
section
variable {w W:World} {p h m N:Nat} {D:Dk} {pl:Nat} {B:Int} {all:List (List Int)} {L:List (Nat×Obj)}
theorem beside_cur {g cap:Nat} {cur:Array Value} {r:List Int} (hx:(g,Obj.cells cur 5)∈L) (hc:cur.toList.take r.length=r.map (Value.int .u8)) (hb:IsBytes r) (hl:r.length≤140737488351232):Beside w p h m L (some ⟨g,0,none⟩) r:=by
 intro W' D' hc' ks' L' H hL
 have hg:=H.has (hL _ hx)
 refine ⟨hb,hl,Or.inr ⟨g,0,rfl,fun i hi=>?_⟩⟩
 rw [Nat.zero_add,cell_of hg]
 have e:=congrArg (fun l=>l[i]?) hc
 simp only [List.getElem?_take,if_pos hi,List.getElem?_map,Array.getElem?_toList] at e
 rw [e,List.getElem?_eq_getElem hi]
 simp [List.getD,hi]
theorem sd_openB (H:Sd w W p h m N D B all L) {ga:Addr} (hG:Gl w ga) (hd:D.dead=false) (hn:4≤N) (hm:256≤m) (hB:B≤1000000) (hB0:0≤B) :
  Calls Tryz.prog 40 #[.pointer (some ⟨p,0,none⟩)] W fun e W'=>∃ pl v',e=.returned (.tuple #[.pointer (some ⟨pl,0,none⟩),v',.int .i64 0])∧∃ got Y,RS v' got Y∧Ends got all∧Sy w W' p h m N D pl B all (Y++L)∧Below W.heap.size W W':=by
 obtain ⟨hc,ks,K,h1,h2,h3⟩:=H.at_
 refine (open_live h1 (hG.on h1.st.mem) hd (by omega) hm).mono ?_
 rintro e W' ⟨pl,v',rfl,vr,X,hO,Y,hR,K',hM⟩
 refine ⟨pl,v',rfl,_,Y,hR,syn_kp h3 hB,⟨hc,ks,vr,X,K'++K,?_,h2,h3,?_⟩,hM.below⟩
 ·have h4:=h1.join hM
  refine h4.on (h4.st.perm ?_)
  have e9:∀ (P:Nat×Obj) (X Y K' L K:List (Nat×Obj)),((P::(X++(Y++K')))++(L++K)).Perm (P::(X++((Y++L)++(K'++K)))):=by
   intro P X Y K' L K
   rw [List.cons_append]
   refine List.Perm.cons P ?_
   simp only [List.append_assoc]
   refine List.Perm.append_left X (List.Perm.append_left Y ?_)
   exact perm_front K' L K
  exact e9 _ _ _ _ _ _
 ·have:=(syn_nw h3 hB hB0).2.1
  rw [←this];exact hO
theorem sy_appC (H:Sy w W p h m N D pl B all L) {ga:Addr} (hG:Gl w ga) (hd:D.dead=false) (hn:4≤N) (hm:256≤m) (hB:B≤900000) (hB0:0≤B) (hal:all.length≤900000) {g k cap:Nat} {r:List Int} (hr:r.length=k) (hcap:k≤cap) (hk:k≤room N m) (hBe0:Beside w p h m L (some ⟨g,0,none⟩) r) (hb:IsBytes r) :
 Calls Tryz.prog 60 #[.pointer (some ⟨pl,0,none⟩),.slice (some ⟨g,0,none⟩) k cap] W fun ev W'=>∃ err,ev=.returned (.int .i64 err)∧∃ D',
  ((err=0∧D'.dead=false∧(D.set=false→D'=D)∧Sy w W' p h m N D' pl (B+1) (all++[r]) L) ∨
   (err=42∧D'=gone∧D.set=true∧So w W' p h m N D' pl L∧(Sd w W' p h m N D' (B+1) all L∨Sd w W' p h m N D' (B+1) (all++[r]) L))):=by
 obtain ⟨hc,ks,v,X,K,h1,h2,h3,h4⟩:=H.at_
 subst h2
 have hrm:=room_le ks.length m
 obtain ⟨av,cv,ev,-⟩:=h4.shape
 have hx2:=syn_nxt h3 hB hB0 hal rfl rfl r
 have hBe:Beside w p h m (X++(L++K)) (some ⟨g,0,none⟩) r:=hBe0.mono (fun q hq=>by simp [hq])
 have heo:=nxt_ok (t:=(nw (fd (ks.map Bk.b))).t) (c:=(nw (fd (ks.map Bk.b))).c) (bl:=ks.map Bk.b) hn h1.top hm h1.mhi (by rw [hr];exact hk) hb (by rw [hx2.2.2.1];omega)
 refine (append_live h1 hG hd hn hm hr hk hcap (Or.inr ⟨_,_,rfl⟩) hBe hb (by rw [hx2.2.2.1];omega) ev).mono ?_
 rintro ev2 W' ⟨err,rfl,D',ks',c',v',X',K',hE⟩
 refine ⟨err,rfl,D',?_⟩
 have hat:=hE.at_
 rcases hE.ok with ⟨rfl,a1,a2,a3,a4,a5⟩ | ⟨rfl,a1,a2,a3,a4,a5,a6⟩
 ·left
  obtain ⟨s1,s2⟩:=syn_ok h3 hB hB0 hal rfl rfl heo (by rw [List.length_map])
  refine ⟨rfl,a1,a2,hc,ks',v',X',K'++(X++K),?_,?_,by rw [a3];exact s1,?_⟩
  ·rw [a3,s2]
   rw [a4] at hat
   refine hat.on (hat.st.perm (List.Perm.cons _ (List.Perm.append_left X' ?_)))
   have e9:∀ (K' X L K:List (Nat×Obj)),(K'++(X++(L++K))).Perm (L++(K'++(X++K))):=by
    intro K' X L K
    have e1:K'++(X++(L++K))=(K'++X)++(L++K):=by simp
    have e2:L++(K'++(X++K))=L++((K'++X)++K):=by simp
    rw [e1,e2];exact perm_front _ _ _
   exact e9 _ _ _ _
  ·have:=congrArg List.length a3;rw [part_length,List.length_map,List.length_map] at this;exact this
  ·have:(all++[r]).getLastD []=r:=by rw [List.getLastD_eq_getLast?,List.getLast?_concat];rfl
   rw [this]
   have e2:(lnxt (nw (fd (ks.map Bk.b))).t (nw (fd (ks.map Bk.b))).c (nw (fd (ks.map Bk.b))) r).r=r:=rfl
   rw [e2] at a5;exact a5
 ·right
  have hlen:ks'.length=ks.length:=by have:=a3.length;rw [List.length_map,List.length_map] at this;exact this
  refine ⟨rfl,a1,a2,⟨hc,ks',(lnxt (nw (fd (ks.map Bk.b))).t (nw (fd (ks.map Bk.b))).c (nw (fd (ks.map Bk.b))) r).t,c',v',X'++(K'++(X++K)),?_,hlen⟩,?_⟩
  ·refine hat.on (hat.st.perm (List.Perm.cons _ ?_))
   have e9:∀ (X' K' X L K:List (Nat×Obj)),(X'++(K'++(X++(L++K)))).Perm (L++(X'++(K'++(X++K)))):=by
    intro X' K' X L K
    have e1:X'++(K'++(X++(L++K)))=(X'++(K'++X))++(L++K):=by simp
    have e2:L++(X'++(K'++(X++K)))=L++((X'++(K'++X))++K):=by simp
    rw [e1,e2];exact perm_front _ _ _
   exact e9 _ _ _ _ _
  ·have hrest:DkAt w W' p h m D' hc ks' (L++((pl,.cells (lgA p (lnxt (nw (fd (ks.map Bk.b))).t (nw (fd (ks.map Bk.b))).c (nw (fd (ks.map Bk.b))) r).t c' v') lgT (0,0))::(X'++(K'++(X++K))))):=by
    refine hat.on (hat.st.perm ?_)
    have e9:∀ (P:Nat×Obj) (X' K' X L K:List (Nat×Obj)),(P::(X'++(K'++(X++(L++K))))).Perm (L++(P::(X'++(K'++(X++K))))):=by
     intro P X' K' X L K
     have e1:P::(X'++(K'++(X++(L++K))))=(P::(X'++(K'++X)))++(L++K):=by simp
     have e2:L++(P::(X'++(K'++(X++K))))=L++((P::(X'++(K'++X)))++K):=by simp
     rw [e1,e2];exact perm_front _ _ _
    exact e9 _ _ _ _ _ _
   rcases syn_fail h3 hB hB0 hal rfl rfl heo (by rw [List.length_map]) (fun b hb2=>(h1.rows b hb2).1) a3 with q | q
   ·left;exact ⟨hc,ks',_,hrest,hlen,syn_more q (by omega)⟩
   ·right;exact ⟨hc,ks',_,hrest,hlen,q⟩
end
end Go.Proofs.YtdigofgjhaakmaaGreatDoor
