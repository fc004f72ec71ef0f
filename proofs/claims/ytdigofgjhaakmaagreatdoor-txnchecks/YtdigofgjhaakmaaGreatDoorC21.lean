/- Parts of the proof. -/
import Derived.Lib.IfaceEq
import Derived.Lib.Split
import Derived.Shelf.Slices.CompactS
import Derived.Shelf.Slices.In.SortNone
import Derived.Shelf.Unicode.ValidAny
import Derived.Test.YtdigofgjhaakmaaGreatDoorProg
import Derived.Test.YtdigofgjhaakmaaGreatDoorC19
set_option linter.all false
set_option maxHeartbeats 40000000
set_option maxRecDepth 100000
open Go.Proofs.Tryz
open Array renaming length_toList->a8
open Go.Shelf renaming Ren->aa
open Go.Lib renaming decodeGo->ab,compact->ac,compactUpTo->ad
open List renaming le_antisymm->ae,not_lt->af,mem_cons->ag,pairwise_cons->ah,find?_cons->ai,foldl_cons->aj,filter_eq_self->ak,mem_iff_getElem->al,map_cons->am,mem_filter->an,mem_range->ao,le_trans->ap,length_map->aq
open Classical renaming byContradiction->ar
open Or renaming inl->au,inr->aw
open List.Perm renaming cons->ax,append_left->ay
namespace Go.Proofs.YtdigofgjhaakmaaGreatDoor
section
open Go.RowKit Go.Extern.Stop Go.Stop Go.Extern
theorem j3z (w:World):(j2i #[.agg #[.pointer (some ⟨4,28,none⟩)]]).run prog w=.ok (.bool true) w:=by kernel_rfl
theorem j3c (x y:Int) (w:World) :
  Calls prog 62 #[.iface 28 (.int .i64 x),.iface 28 (.int .i64 y)] w fun e w'=>e=.returned (.bool (x==y))/\w=w':=by
 have l:=@run_callFunc_extern prog 89 _ Extern.ReflectliteType.typeOf func89 (by kernel_rfl) (by kernel_rfl) (by kernel_rfl) (by kernel_rfl);have b:=@run_callFunc_extern prog 345 _ j2i func345 (by kernel_rfl) (by kernel_rfl) (by kernel_rfl) (by kernel_rfl);have i:=jfn;have n:=j3z;have k:=yh;have j:=jlj;have d:=j8h;have c:=j6r;have a:(binOp .eql 134 (.iface 28 (.int .i64 x)) (.iface 28 (.int .i64 y))).run prog w=.ok (.bool (x==y)) w:=Go.Lib.run_eql_iface_int (q:=.i64) w x y underlying134 (by kernel_rfl) underlying28;generalize (x==y)=r at a ⊢;go_enter func62,ntmps62;cases r
 all_goals
  go_wp2
  refine wp_loop_rounds 1 ?_;rw [rounds_succ]
  go_wp2
  go_ret;exact ⟨rfl,rfl⟩
theorem jo (x:Int) (w:World):Calls prog 41 #[.iface 28 (.int .i64 x)] w fun e w'=>e=.returned (.bool (x != 0))/\w=w':=by
 have C:=j3c x 0 w;go_enter func41,ntmps41;go_wp2_with fail;refine C.mono ?_;rintro e w' ⟨rfl,rfl⟩;go_wp2_with fail;go_ret;exact ⟨rfl,rfl⟩
end
section
namespace Ad
theorem j73 (s:ByteArray) (i:Nat) (h:i<s.size):s.data.toList.drop i=s[i]'h::s.data.toList.drop (i+1):=by
 have a:i<s.data.toList.length:=by rw [a8];exact h
 rw [List.drop_eq_getElem_cons a];congr 1
theorem jam (s:ByteArray) (i:Nat) (h:¬i<s.size):s.data.toList.drop i=[]:=by
 apply List.drop_eq_nil_of_le;rw [a8];show s.size<=i;omega
theorem jg8 (s:ByteArray) (i j:Nat):(s.extract i j).data.toList=(s.data.toList.drop i).take (j-i):=Lib.extract_data s i j
theorem zr (s:ByteArray):s.data.toList.length=s.size:=by rw [a8];rfl
end Ad
end
end Go.Proofs.YtdigofgjhaakmaaGreatDoor

namespace Go.Proofs
open Go.Shelf
def Tryz.lays197_ren:aa:=⟨fun | 197=>80 | 260=>104|n=>n,fun | 9=>9 | 21=>21 | 3=>3 | 4=>4 | 5=>5 | 105=>143 | 119=>220 | 0=>0 | 46=>120 | 139=>223 | 138=>222|n=>n,fun | 3=>2 | 4=>3|n=>n⟩
theorem Tryz.lays197:Go.Proofs.Lays.n197 prog Tryz.lays197_ren:={
 mixed:=by kernel_rfl
 f197:=func80.trans (congrArg some (by kernel_rfl))
 f260:=func104.trans (congrArg some (by kernel_rfl))
 t0:=underlying0
 a0:=Tryz.isAgg0
 z0:=Tryz.sizeOf0
 v0:=Tryz.zeroValue0
 t3:=underlying3
 a3:=Tryz.isAgg3
 z3:=Tryz.sizeOf3
 v3:=Tryz.zeroValue3
 t4:=underlying4
 a4:=Tryz.isAgg4
 z4:=Tryz.sizeOf4
 v4:=Tryz.zeroValue4
 t5:=underlying5
 a5:=Tryz.isAgg5
 z5:=Tryz.sizeOf5
 v5:=Tryz.zeroValue5
 t9:=underlying9
 a9:=Tryz.isAgg9
 z9:=Tryz.sizeOf9
 v9:=Tryz.zeroValue9
 t21:=underlying21
 a21:=Tryz.isAgg21
 z21:=Tryz.sizeOf21
 v21:=Tryz.zeroValue21
 t46:=underlying120
 a46:=Tryz.isAgg120
 z46:=Tryz.sizeOf120
 v46:=Tryz.zeroValue120
 t105:=underlying143
 a105:=Tryz.isAgg143
 z105:=Tryz.sizeOf143
 v105:=Tryz.zeroValue143
 t119:=underlying220
 a119:=Tryz.isAgg220
 z119:=Tryz.sizeOf220
 t138:=underlying222
 a138:=Tryz.isAgg222
 z138:=Tryz.sizeOf222
 v138:=Tryz.zeroValue222
 t139:=underlying223
 a139:=Tryz.isAgg223
 z139:=Tryz.sizeOf223
 v139:=Tryz.zeroValue223
 g3:=by kernel_rfl
 g4:=by kernel_rfl }
open Go.RowKit Go.Lib in
theorem Tryz.utf8_DecodeRuneInString (s:ByteArray) (w:World) (a:Lib.Utf8Tabs 2 3 w) :
  Calls prog 80 #[.string s] w fun e w'=>e=.returned (.tuple #[.int .i32 (ab s).1,.int .i64 (ab s).2])/\Below w.heap.size w w':=Any.utf8_DecodeRuneInString Tryz.lays197 s w a
def Tryz.lays190_ren:aa:=⟨fun | 190=>102 | 125=>136 | 258=>135 | 128=>201 | 129=>202 | 302=>192 | 303=>193 | 304=>194 | 305=>195 | 306=>196 | 307=>197 | 308=>198 | 309=>199 | 310=>200 | 333=>264 | 329=>265 | 330=>266 | 334=>267 | 335=>268 | 336=>269 | 344=>314|n=>n,fun | 31=>140 | 9=>9 | 3=>3 | 46=>120 | 0=>0 | 51=>33 | 53=>32 | 4=>4 | 183=>265 | 182=>264 | 131=>270 | 5=>5 | 218=>322 | 222=>299 | 228=>340 | 229=>52|n=>n,fun|n=>n⟩
theorem Tryz.lays190:Go.Proofs.Lays.n190 prog Tryz.lays190_ren:={
 mixed:=by kernel_rfl
 f125:=func136.trans (congrArg some (by kernel_rfl))
 f128:=func201.trans (congrArg some (by kernel_rfl))
 f129:=func202.trans (congrArg some (by kernel_rfl))
 f190:=func102.trans (congrArg some (by kernel_rfl))
 f258:=func135.trans (congrArg some (by kernel_rfl))
 f302:=func192.trans (congrArg some (by kernel_rfl))
 f303:=func193.trans (congrArg some (by kernel_rfl))
 f304:=func194.trans (congrArg some (by kernel_rfl))
 f305:=func195.trans (congrArg some (by kernel_rfl))
 f306:=func196.trans (congrArg some (by kernel_rfl))
 f307:=func197.trans (congrArg some (by kernel_rfl))
 f308:=func198.trans (congrArg some (by kernel_rfl))
 f309:=func199.trans (congrArg some (by kernel_rfl))
 f310:=func200.trans (congrArg some (by kernel_rfl))
 f329:=func265.trans (congrArg some (by kernel_rfl))
 f330:=func266.trans (congrArg some (by kernel_rfl))
 f333:=func264.trans (congrArg some (by kernel_rfl))
 f334:=func267.trans (congrArg some (by kernel_rfl))
 f335:=func268.trans (congrArg some (by kernel_rfl))
 f336:=func269.trans (congrArg some (by kernel_rfl))
 f344:=func314.trans (congrArg some (by kernel_rfl))
 t0:=underlying0
 a0:=Tryz.isAgg0
 z0:=Tryz.sizeOf0
 v0:=Tryz.zeroValue0
 t3:=underlying3
 a3:=Tryz.isAgg3
 z3:=Tryz.sizeOf3
 v3:=Tryz.zeroValue3
 t4:=underlying4
 a4:=Tryz.isAgg4
 z4:=Tryz.sizeOf4
 v4:=Tryz.zeroValue4
 t5:=underlying5
 a5:=Tryz.isAgg5
 z5:=Tryz.sizeOf5
 v5:=Tryz.zeroValue5
 t9:=underlying9
 a9:=Tryz.isAgg9
 z9:=Tryz.sizeOf9
 v9:=Tryz.zeroValue9
 t31:=underlying140
 a31:=Tryz.isAgg140
 z31:=Tryz.sizeOf140
 v31:=Tryz.zeroValue140
 t46:=underlying120
 a46:=Tryz.isAgg120
 z46:=Tryz.sizeOf120
 v46:=Tryz.zeroValue120
 t51:=underlying33
 a51:=Tryz.isAgg33
 z51:=Tryz.sizeOf33
 v51:=Tryz.zeroValue33
 t53:=underlying32
 a53:=Tryz.isAgg32
 z53:=Tryz.sizeOf32
 v53:=Tryz.zeroValue32
 t131:=underlying270
 a131:=Tryz.isAgg270
 z131:=Tryz.sizeOf270
 v131:=Tryz.zeroValue270
 t182:=underlying264
 a182:=Tryz.isAgg264
 z182:=Tryz.sizeOf264
 v182:=Tryz.zeroValue264
 t183:=underlying265
 a183:=Tryz.isAgg265
 z183:=Tryz.sizeOf265
 v183:=Tryz.zeroValue265
 t218:=underlying322
 a218:=Tryz.isAgg322
 z218:=Tryz.sizeOf322
 v218:=Tryz.zeroValue322
 t222:=underlying299
 a222:=Tryz.isAgg299
 z222:=Tryz.sizeOf299
 v222:=Tryz.zeroValue299
 t228:=underlying340
 a228:=Tryz.isAgg340
 z228:=Tryz.sizeOf340
 v228:=Tryz.zeroValue340
 t229:=underlying52
 a229:=Tryz.isAgg52
 z229:=Tryz.sizeOf52
 v229:=Tryz.zeroValue52 }
def Tryz.lays194_ren:aa:=⟨fun | 194=>103|n=>n,fun | 31=>140 | 9=>9 | 3=>3 | 4=>4 | 0=>0|n=>n,fun|n=>n⟩
theorem Tryz.lays194:Go.Proofs.Lays.n194 prog Tryz.lays194_ren:={
 mixed:=by kernel_rfl
 f194:=func103.trans (congrArg some (by kernel_rfl))
 t0:=underlying0
 a0:=Tryz.isAgg0
 z0:=Tryz.sizeOf0
 v0:=Tryz.zeroValue0
 t3:=underlying3
 a3:=Tryz.isAgg3
 z3:=Tryz.sizeOf3
 v3:=Tryz.zeroValue3
 t4:=underlying4
 a4:=Tryz.isAgg4
 z4:=Tryz.sizeOf4
 v4:=Tryz.zeroValue4
 t9:=underlying9
 a9:=Tryz.isAgg9
 z9:=Tryz.sizeOf9
 v9:=Tryz.zeroValue9
 t31:=underlying140
 a31:=Tryz.isAgg140
 z31:=Tryz.sizeOf140
 v31:=Tryz.zeroValue140 }
def Tryz.lays196_ren:aa:=⟨fun | 196=>258 | 259=>312|n=>n,fun | 9=>9 | 4=>4 | 3=>3 | 5=>5 | 12=>12 | 119=>220 | 0=>0 | 46=>120 | 139=>223 | 138=>222 | 53=>32|n=>n,fun | 3=>2 | 4=>3|n=>n⟩
theorem Tryz.lays196:Go.Proofs.Lays.n196 prog Tryz.lays196_ren:={
 mixed:=by kernel_rfl
 f196:=func258.trans (congrArg some (by kernel_rfl))
 f259:=func312.trans (congrArg some (by kernel_rfl))
 t0:=underlying0
 a0:=Tryz.isAgg0
 z0:=Tryz.sizeOf0
 v0:=Tryz.zeroValue0
 t3:=underlying3
 a3:=Tryz.isAgg3
 z3:=Tryz.sizeOf3
 v3:=Tryz.zeroValue3
 t4:=underlying4
 a4:=Tryz.isAgg4
 z4:=Tryz.sizeOf4
 v4:=Tryz.zeroValue4
 t5:=underlying5
 a5:=Tryz.isAgg5
 z5:=Tryz.sizeOf5
 v5:=Tryz.zeroValue5
 t9:=underlying9
 a9:=Tryz.isAgg9
 z9:=Tryz.sizeOf9
 v9:=Tryz.zeroValue9
 t12:=underlying12
 a12:=Tryz.isAgg12
 z12:=Tryz.sizeOf12
 v12:=Tryz.zeroValue12
 t46:=underlying120
 a46:=Tryz.isAgg120
 z46:=Tryz.sizeOf120
 v46:=Tryz.zeroValue120
 t53:=underlying32
 a53:=Tryz.isAgg32
 z53:=Tryz.sizeOf32
 v53:=Tryz.zeroValue32
 t119:=underlying220
 a119:=Tryz.isAgg220
 z119:=Tryz.sizeOf220
 t138:=underlying222
 a138:=Tryz.isAgg222
 z138:=Tryz.sizeOf222
 v138:=Tryz.zeroValue222
 t139:=underlying223
 a139:=Tryz.isAgg223
 z139:=Tryz.sizeOf223
 v139:=Tryz.zeroValue223
 g3:=by kernel_rfl
 g4:=by kernel_rfl }
end Go.Proofs
namespace Go.Proofs.YtdigofgjhaakmaaGreatDoor
section
namespace Df
section
variable {α:Type} (f:α->List UInt8)
def put (t:α) (again:Bool):List α->List α
 | []=>[t]
 | y::r=>if f y<f t then y::put t again r else if f y=f t then (if again then t::r else y::r) else t::y::r
def del (n:List UInt8) (M:List α):List α:=M.filter (fun y=>decide (f y≠n))
def look (n:List UInt8) (M:List α):Option α:=M.find? (fun y=>decide (f y=n))
def Srt (M:List α):Prop:=M.Pairwise (fun a b=>f a<f b)
def byn (l:List α):List α:=l.foldl (fun M t=>put f t false M) []
end
theorem j6n (a:List UInt8):¬a<a:=List.lt_irrefl a
theorem je2 {a b c:List UInt8} (h:a<b) (d:b<c):a<c:=List.lt_trans h d
theorem jlc {a b:List UInt8} (h:¬a<b) (c:a≠b):b<a:=by
 rcases List.le_total a b with h1|h1
 ·exact absurd (ae h1 (af.1 h)) c
 ·exact ar fun d=>c (ae (af.1 d) h1)
theorem j5a {a b:List UInt8} (h:a<b):a≠b:=fun e=>j6n b (e ▸ h)
section
variable {α:Type} {f:α->List UInt8}
theorem j56 {t:α} {again:Bool}:∀ {M:List α} {x:α},x∈put f t again M->x=t\/x∈M
 | [],x,h=>by simp [put] at h;exact au h
 | y::r,x,h=>by
  unfold put at h;split at h
  ·rcases ag.1 h with rfl|h
   ·exact aw (by simp)
   ·rcases j56 h with h|h
    ·exact au h
    ·exact aw (by simp [h])
  ·split at h
   ·split at h
    ·rcases ag.1 h with rfl|h
     ·exact au rfl
     ·exact aw (by simp [h])
    ·exact aw h
   ·rcases ag.1 h with rfl|h
    ·exact au rfl
    ·exact aw h
theorem j03 {t:α} {again:Bool}:∀ {M:List α},Srt f M->Srt f (put f t again M)
 | [],_=>by simp [put,Srt]
 | y::r,h=>by
  obtain ⟨d,e⟩:=ah.1 h;unfold put;split
  ·rename_i b;refine ah.2 ⟨fun x hx=>?_,j03 e⟩;rcases j56 hx with rfl|hx
   ·exact b
   ·exact d x hx
  ·rename_i b;split
   ·rename_i c;split
    ·exact ah.2 ⟨fun x hx=>c ▸ d x hx,e⟩
    ·exact h
   ·rename_i c;have a:=jlc b c;refine ah.2 ⟨fun x hx=>?_,h⟩;rcases ag.1 hx with rfl|hx
    ·exact a
    ·exact je2 a (d x hx)
theorem jd4 {n:List UInt8} {M:List α} (h:Srt f M):Srt f (del f n M):=h.filter _
theorem jdz {n:List UInt8} {M:List α} {x:α}:x∈del f n M ↔ x∈M/\f x≠n:=by simp [del]
theorem j0b {n:List UInt8} {M:List α} {x:α} (h:look f n M=some x):x∈M/\f x=n:=by
 have b:=List.mem_of_find?_eq_some h;have a:=List.find?_some h;exact ⟨b,by simpa using a⟩
theorem j15 {n:List UInt8} {M:List α}:look f n M=none ↔ ∀ x∈M,f x≠n:=by
 simp [look,List.find?_eq_none]
theorem jk8 {M:List α} (h:Srt f M) {x y:α} (hx:x∈M) (b:y∈M) (e:f x=f y):x=y:=by
 induction M with
 | nil=>cases hx
 | cons z r ih =>
  obtain ⟨a,c⟩:=ah.1 h;rcases ag.1 hx with ex|hx'<;>rcases ag.1 b with ey|hy'
  ·rw [ex,ey]
  ·subst ex;exact absurd e (j5a (a y hy'))
  ·subst ey;exact absurd e.symm (j5a (a x hx'))
  ·exact ih c hx' hy'
theorem jab {M:List α} (h:Srt f M) {x:α} (hx:x∈M):look f (f x) M=some x:=by
 cases hl:look f (f x) M with
 | none=>exact absurd rfl (j15.1 hl x hx)
 | some y =>
  obtain ⟨b,a⟩:=j0b hl;rw [jk8 h b hx a]
theorem j08 {M:List α} (h:Srt f M) {x:α}:x∈M ↔ look f (f x) M=some x:=⟨jab h,fun h=>(j0b h).1⟩
theorem j7r:∀ {A B:List α},Srt f A->Srt f B->(∀ x,x∈A ↔ x∈B)->A=B
 | [],[],_,_,_=>rfl
 | [],b::B,_,_,h=>absurd ((h b).2 (by simp)) (by simp)
 | a::A,[],_,_,h=>absurd ((h a).1 (by simp)) (by simp)
 | a::A,b::B,hA,hB,h=>by
  obtain ⟨d,j⟩:=ah.1 hA;obtain ⟨c,i⟩:=ah.1 hB;have e:a=b:=by
   rcases ag.1 ((h a).1 (by simp)) with e|h1
   ·exact e
   ·rcases ag.1 ((h b).2 (by simp)) with e|h2
    ·exact e.symm
    ·exact absurd (je2 (d b h2) (c a h1)) (j6n _)
  subst e;rw [j7r j i fun x=>?_];constructor
  ·intro hx;rcases ag.1 ((h x).1 (by simp [hx])) with e|h1
   ·subst e;exact absurd (d x hx) (j6n _)
   ·exact h1
  ·intro hx;rcases ag.1 ((h x).2 (by simp [hx])) with e|h1
   ·subst e;exact absurd (c x hx) (j6n _)
   ·exact h1
theorem jac {A B:List α} (b:Srt f A) (a:Srt f B) (h:∀ n,look f n A=look f n B):A=B :=
 j7r b a fun x=>by rw [j08 b,j08 a,h]
theorem kd {t:α} {again:Bool} {n:List UInt8} (a:f t≠n):∀ M:List α,look f n (put f t again M)=look f n M
 | []=>by simp [put,look,a]
 | y::r=>by
  have b:=kd (again:=again) a r;unfold put;split
  ·unfold look at b ⊢;simp only [ai];rw [b]
  ·split
   ·rename_i d;split
    ·have c:f y≠n:=d ▸ a;simp [look,ai,a,c]
    ·rfl
   ·simp [look,ai,a]
theorem km {t:α} {again:Bool}:∀ {M:List α},Srt f M->look f (f t) (put f t again M)=some (if again then t else (look f (f t) M).getD t)
 | [],_=>by simp [put,look]
 | y::r,h=>by
  obtain ⟨k,j⟩:=ah.1 h;have i:=km (again:=again) (t:=t) j;unfold put;split
  ·rename_i b;have e:f y≠f t:=j5a b;unfold look at i ⊢;simp only [ai,e,decide_false];exact i
  ·rename_i b;split
   ·rename_i a;cases again<;>simp [look,ai,a]
   ·rename_i a;have d:=jlc b a;have c:look f (f t) (y::r)=none:=j15.2 fun x hx=>by
     rcases ag.1 hx with rfl|hx
     ·exact a
     ·exact (j5a (je2 d (k x hx))).symm
    rw [c];simp [look]
theorem jd3 {M:List α} (h:Srt f M) (l:List α):Srt f (l.foldl (fun M t=>put f t false M) M):=by
 induction l generalizing M with
 | nil=>exact h
 | cons t l ih=>exact ih (j03 h)
theorem jd5 (l:List α):Srt f (byn f l):=jd3 List.Pairwise.nil l
theorem j4a {M:List α} (h:Srt f M) (n:List UInt8):∀ l:List α,look f n (l.foldl (fun M t=>put f t false M) M)=(look f n M).or (look f n l)
 | []=>by simp [look]
 | t::l=>by
  have a:=j4a (j03 (t:=t) (again:=false) h) n l;rw [aj,a];by_cases hn:f t=n
  ·subst hn;rw [km h];cases hl:look f (f t) M<;>simp [look,ai]
  ·rw [kd hn];have b:look f n (t::l)=look f n l:=by simp [look,ai,hn]
   rw [b]
theorem jhf (l:List α) (n:List UInt8):look f n (byn f l)=look f n l:=by
 rw [byn,j4a List.Pairwise.nil];simp [look]
theorem jig (l:List α) (t:α):byn f (l++[t])=put f t false (byn f l):=by simp [byn]
theorem j58 {l:List α} {x:α} (h:x∈byn f l):x∈l:=by
 have:=(j08 (jd5 l)).1 h;rw [jhf] at this;exact (j0b this).1
theorem j1m (t:α) (again:Bool):∀ M:List α,(put f t again M).length<=M.length+1
 | []=>by simp [put]
 | y::r=>by
  have:=j1m t again r;unfold put;split
  ·simp;omega
  ·split
   ·split<;>simp
   ·simp
theorem j4j (l:List α):(byn f l).length<=l.length:=by
 have key:∀ (l M:List α),(l.foldl (fun M t=>put f t false M) M).length<=M.length+l.length:=by
  intro l
  induction l with
  | nil=>simp
  | cons t l ih=>intro M;have:=ih (put f t false M);have:=j1m (f:=f) t false M;simp only [aj,List.length_cons];omega
 simpa [byn] using key l []
theorem jj2 {t:α} {again:Bool}:∀ M:List α,∃ at_,at_<=M.length/\(∀ i (h:i<M.length),i<at_->f M[i]<f t) /\
  ((∃ h:at_<M.length,f M[at_]=f t/\put f t again M=if again then M.set at_ t else M)\/((∀ h:at_<M.length,¬f M[at_]<f t/\f M[at_]≠f t)/\put f t again M=M.take at_++t::M.drop at_))
 | []=>⟨0,by simp,by simp,aw ⟨by simp,by simp [put]⟩⟩
 | y::r=>by
  unfold put;by_cases hy:f y<f t
  ·obtain ⟨k,d,c,b⟩:=jj2 (t:=t) (again:=again) r;refine ⟨k+1,by simp;omega,?_,?_⟩
   ·intro i hi a;cases i with
    | zero=>exact hy
    | succ i=>simpa using c i (by simpa using hi) (by omega)
   ·rw [if_pos hy];rcases b with ⟨h,he,e⟩|⟨he,e⟩
    ·refine au ⟨by simp;omega,by simpa using he,?_⟩;rw [e];cases again<;>simp
    ·refine aw ⟨fun h=>by simpa using he (by simpa using h),?_⟩;rw [e];simp
  ·refine ⟨0,by simp,by simp,?_⟩;rw [if_neg hy];by_cases he:f y=f t
   ·rw [if_pos he];refine au ⟨by simp,by simpa using he,?_⟩;cases again<;>simp
   ·rw [if_neg he];exact aw ⟨fun _=>by simpa using ⟨hy,he⟩,by simp⟩
theorem jje {M:List α} (h:Srt f M) {k:Nat} (n:k<M.length):del f (f M[k]) M=M.take k++M.drop (k+1):=by
 have e:M=M.take k++M[k]::M.drop (k+1):=by rw [List.getElem_cons_drop,List.take_append_drop]
 have a:Srt f (M.take k++M[k]::M.drop (k+1)):=e ▸ h;generalize l:M[k]=z at *;obtain ⟨q,d,c⟩:=List.pairwise_append.1 a;obtain ⟨b,o⟩:=ah.1 d
 conv=>lhs;rw [e]
 unfold del;rw [List.filter_append,List.filter_cons];have j:(M.take k).filter (fun y=>decide (f y≠f z))=M.take k:=ak.2 fun x hx=>by
  have:=c x hx z (by simp);simpa using j5a this
 have i:(M.drop (k+1)).filter (fun y=>decide (f y≠f z))=M.drop (k+1):=ak.2 fun x hx=>by
  have:=b x hx;simpa using (j5a this).symm
 rw [j,i];simp
theorem jjd {M:List α} {n:List UInt8} (h:∀ k (a:k<M.length),f M[k]≠n):del f n M=M :=
 ak.2 fun x hx=>by
  obtain ⟨k,a,rfl⟩:=al.1 hx;simpa using h k a
theorem jc0 (n:List UInt8) (M:List α):(del f n M).length<=M.length:=List.length_filter_le _ _
end
section
variable {α β:Type} {f:α->List UInt8} {g:β->List UInt8} {h:α->β} (hg:∀ x,g (h x)=f x)
include hg
theorem j8b (t:α) (again:Bool):∀ M:List α,(put f t again M).map h=put g (h t) again (M.map h)
 | []=>rfl
 | y::r=>by
  simp only [put,am,hg];split
  ·simp [j8b t again r]
  ·split
   ·cases again<;>simp
   ·simp
theorem jl8 (n:List UInt8) (M:List α):(del f n M).map h=del g n (M.map h):=by
 unfold del;rw [List.filter_map];congr 1;apply List.filter_congr;intro x _;simp [hg]
theorem ja8 (n:List UInt8):∀ M:List α,(look f n M).map h=look g n (M.map h)
 | []=>rfl
 | y::r=>by
  have a:=ja8 n r;unfold look at a ⊢;by_cases hy:f y=n
  ·simp [ai,hg,hy]
  ·simp [ai,hg,hy];simpa using a
theorem jl9 (l:List α):(byn f l).map h=byn g (l.map h):=by
 have key:∀ (l M:List α),(l.foldl (fun M t=>put f t false M) M).map h=(l.map h).foldl (fun M t=>put g t false M) (M.map h):=by
  intro l
  induction l with
  | nil=>simp
  | cons t l ih=>intro M;simp only [aj,am];rw [ih,j8b hg]
 simpa [byn] using key l []
end
theorem j7s {l:List (List UInt8)} (h:l.Pairwise (·<=·)):(ac l).Pairwise (· < ·)/\∀ x,x∈ac l ↔ x∈l:=by
 have b:∀ i j,i<=j->j<l.length->l.toArray[i]!<=l.toArray[j]!:=by
  intro i j k a;have hi:i<l.length:=by omega
  rw [getElem!_pos _ i (by simpa using hi),getElem!_pos _ j (by simpa using a)];simp only [List.getElem_toArray];rcases Nat.lt_or_ge i j with d|d
  ·exact List.pairwise_iff_getElem.1 h i j hi a d
  ·obtain rfl:i=j:=by omega
   exact List.le_refl _
 constructor
 ·unfold ac ad;rw [List.pairwise_map];refine ((List.pairwise_lt_range (n:=l.length)).filter _).imp_of_mem ?_;intro i j hi a k;simp only [an,ao] at hi a;have d:=b i (j-1) (by omega) (by omega);have q:=b (j-1) j (by omega) a.1;have c:l.toArray[j]!≠l.toArray[j-1]!:=by
   intro e;have:=a.2;rw [Lib.keeps_neg (by omega) e] at this;cases this
  have t:=ap d q;refine ar fun r=>?_;have s:l.toArray[j]!<=l.toArray[i]!:=af.1 r;exact c (ae (ap s d) q)
 ·intro x;unfold ac ad;simp only [List.mem_map,an,ao];constructor
  ·rintro ⟨i,⟨hi,_⟩,rfl⟩;rw [getElem!_pos _ i (by simpa using hi)];simp
  ·intro hx;obtain ⟨i,hi,rfl⟩:=al.1 hx
   induction i using Nat.strongRecOn with
   | ind i ih =>
    by_cases hk:Lib.keeps l.toArray i=true
    ·exact ⟨i,⟨hi,hk⟩,by rw [getElem!_pos _ i (by simpa using hi)];simp⟩
    ·have u:0<i:=by
      rcases Nat.eq_zero_or_pos i with e|h
      ·exact absurd (Lib.keeps_lt_one _ i (by omega)) hk
      ·exact h
     have o:l.toArray[i]! = l.toArray[i-1]!:=ar fun c=>hk (Lib.keeps_pos c);obtain ⟨j,a,e⟩:=ih (i-1) (by omega) (by omega) (List.getElem_mem _);refine ⟨j,a,e.trans ?_⟩;rw [getElem!_pos _ i (by simpa using hi),getElem!_pos _ (i-1) (by simp;omega)] at o;simpa using o.symm
theorem jh3 {l:List (List UInt8)} {m:List (List UInt8)} (i:m.Pairwise (· < ·)) (h:∀ x,x∈l ↔ x∈m):ac (l.mergeSort (fun x y=>decide (x<=y)))=m:=by
 have hs:(l.mergeSort (fun x y=>decide (x<=y))).Pairwise (·<=·):=by
  have:=List.pairwise_mergeSort (le:=fun x y:List UInt8=>decide (x<=y)) (fun a b c e d=>by simp only [decide_eq_true_eq] at *;exact ap e d) (fun a b=>by simp only [Bool.or_eq_true,decide_eq_true_eq];exact List.le_total a b) l;exact this.imp (fun h=>by simpa using h)
 obtain ⟨e,d⟩:=j7s hs;exact j7r (f:=id) e i fun x=>by rw [d,List.mem_mergeSort,h]
end Df
end
section
open Go.ChangeShapes Go.WideShapes Go.ChangeAt Go.RowKit Go.Joins Sm Cf
structure Ac where
 what:Int
 good:Bool
 v:Int
 kind:Int
 nn:Int
 y:Chg×Value×Value×Value
 raw:Bool
 c:Cgf
 u:Value
structure AcW (w:World) (x:Ac):Prop where
 what:-9223372036854775808<=x.what/\x.what<=9223372036854775807
 v:0<=x.v/\x.v<=18446744073709551615
 kind:0<=x.kind/\x.kind<=65535
 nn:0<=x.nn/\x.nn<=255
 len:TLen x.y.1.t
 rws:Rws w (x.y.1.t,x.y.2)
 tby:TBy x.y.1.t
 trg:TRg x.y.1.t
 tsv:TSV w x.u x.c.ten
 cin:CIn x.c
 crg:CRg x.c
 ten:∀ t∈x.c.ten,TBy t/\TRg t
section
variable {H:Type} {enc:TypeId×Value->H} {W:World} {base:Nat} {held:Bool}
end
end
section
open Go.ChangeShapes Go.WideShapes Go.ChangeAt Go.RowKit
end
section
open Go.RowKit Sm
section
variable {w W:World} {p h m N:Nat} {D:Dk} {pl:Nat} {B:Int} {all:List (List Int)} {L:List (Nat×Obj)}
theorem jc6 {g cap:Nat} {a:Array Value} {r:List Int} (hx:(g,Obj.cells a 5)∈L) (hc:a.toList.take r.length=r.map (Value.int .u8)) (hb:j6 r) (c:r.length<=140737488351232):j0o w p h m L (some ⟨g,0,none⟩) r:=by
 intro k o d b n H j;have hg:=H.has (j _ hx);refine ⟨hb,c,aw ⟨g,0,rfl,fun i hi=>?_⟩⟩;rw [Nat.zero_add,cell_of hg];have e:=congrArg (fun l=>l[i]?) hc;simp only [List.getElem?_take,if_pos hi,List.getElem?_map,Array.getElem?_toList] at e;rw [e,List.getElem?_eq_getElem hi];simp [List.getD,hi]
theorem jgf (H:Sd w W p h m N D B all L) {y:Addr} (v:Gl w y) (hd:D.dead=false) (A:4<=N) (s:256<=m) (n:B<=1000000) (d:0<=B) :
  Calls prog 40 #[.pointer (some ⟨p,0,none⟩)] W fun e k=>∃ pl c,e=.returned (.tuple #[.pointer (some ⟨pl,0,none⟩),c,.int .i64 0])/\∃ b Y,RS c b Y/\Ends b all/\Sy w k p h m N D pl B all (Y++L)/\Below W.heap.size W k:=by
 obtain ⟨hc,r,K,j,x,i⟩:=H.at_;refine (jdq j (v.on j.st.mem) hd (by omega) s).mono ?_;rintro e k ⟨pl,c,rfl,q,X,u,Y,t,a,l⟩;refine ⟨pl,c,rfl,_,Y,t,jn0 i n,⟨hc,r,q,X,a++K,?_,x,i,?_⟩,l.below⟩
 ·have o:=j.join l;refine o.on (o.st.perm ?_);have z:∀ (P:Nat×Obj) (X Y a L K:List (Nat×Obj)),((P::(X++(Y++a)))++(L++K)).Perm (P::(X++((Y++L)++(a++K)))):=by
   intro P X Y a L K;rw [List.cons_append];refine ax P ?_;simp only [List.append_assoc];refine ay X (ay Y ?_);exact js a L K
  exact z _ _ _ _ _ _
 ·have:=(jcy i n d).2.1;rw [<-this];exact u
theorem jk5 (H:Sy w W p h m N D pl B all L) {ga:Addr} (hG:Gl w ga) (hd:D.dead=false) (T:4<=N) (U:256<=m) (Q:B<=900000) (x:0<=B) (u:all.length<=900000) {g k cap:Nat} {r:List Int} (hr:r.length=k) (E:k<=cap) (V:k<=room N m) (F:j0o w p h m L (some ⟨g,0,none⟩) r) (hb:j6 r) :
 Calls prog 60 #[.pointer (some ⟨pl,0,none⟩),.slice (some ⟨g,0,none⟩) k cap] W fun S z=>∃ o,S=.returned (.int .i64 o)/\∃ s,
  ((o=0/\s.dead=false/\(D.set=false->s=D)/\Sy w z p h m N s pl (B+1) (all++[r]) L) \/
   (o=42/\s=gone/\D.set=true/\So w z p h m N s pl L/\(Sd w z p h m N s (B+1) all L\/Sd w z p h m N s (B+1) (all++[r]) L))):=by
 obtain ⟨hc,i,v,X,K,J,h2,R,h4⟩:=H.at_;subst h2;have a0:=room_le i.length m;obtain ⟨av,cv,S,-⟩:=h4.shape;have A:=j7p R Q x u rfl rfl r;have O:j0o w p h m (X++(L++K)) (some ⟨g,0,none⟩) r:=F.mono (fun q hq=>by simp [hq]);have C:=jj4 (t:=(nw (fd (i.map Bk.b))).t) (c:=(nw (fd (i.map Bk.b))).c) (bl:=i.map Bk.b) T J.top U J.mhi (by rw [hr];exact V) hb (by rw [A.2.2.1];omega);refine (j91 J hG hd T U hr V E (aw ⟨_,_,rfl⟩) O hb (by rw [A.2.2.1];omega) S).mono ?_;rintro a7 z ⟨o,rfl,s,j,Z,M,d,a,Y⟩;refine ⟨o,rfl,s,?_⟩;have e:=Y.at_;rcases Y.ok with ⟨rfl,a1,a2,a3,a4,a5⟩|⟨rfl,a1,a2,a3,a4,a5,a6⟩
 ·left;obtain ⟨s1,s2⟩:=jmz R Q x u rfl rfl C (by rw [aq]);refine ⟨rfl,a1,a2,hc,j,M,d,a++(X++K),?_,?_,by rw [a3];exact s1,?_⟩
  ·rw [a3,s2];rw [a4] at e;refine e.on (e.st.perm (ax _ (ay d ?_)));have G:∀ (a X L K:List (Nat×Obj)),(a++(X++(L++K))).Perm (L++(a++(X++K))):=by
    intro a X L K;have I:a++(X++(L++K))=(a++X)++(L++K):=by simp
    have y:L++(a++(X++K))=L++((a++X)++K):=by simp
    rw [I,y];exact js _ _ _
   exact G _ _ _ _
  ·have:=congrArg List.length a3;rw [jl,aq,aq] at this;exact this
  ·have:(all++[r]).getLastD []=r:=by rw [List.getLastD_eq_getLast?,List.getLast?_concat];rfl
   rw [this];have y:(lnxt (nw (fd (i.map Bk.b))).t (nw (fd (i.map Bk.b))).c (nw (fd (i.map Bk.b))) r).r=r:=rfl;rw [y] at a5;exact a5
 ·right;have n:j.length=i.length:=by have:=a3.length;rw [aq,aq] at this;exact this
  refine ⟨rfl,a1,a2,⟨hc,j,(lnxt (nw (fd (i.map Bk.b))).t (nw (fd (i.map Bk.b))).c (nw (fd (i.map Bk.b))) r).t,Z,M,d++(a++(X++K)),?_,n⟩,?_⟩
  ·refine e.on (e.st.perm (ax _ ?_));have G:∀ (d a X L K:List (Nat×Obj)),(d++(a++(X++(L++K)))).Perm (L++(d++(a++(X++K)))):=by
    intro d a X L K;have I:d++(a++(X++(L++K)))=(d++(a++X))++(L++K):=by simp
    have y:L++(d++(a++(X++K)))=L++((d++(a++X))++K):=by simp
    rw [I,y];exact js _ _ _
   exact G _ _ _ _ _
  ·have l:DkAt w z p h m s hc j (L++((pl,.cells (lgA p (lnxt (nw (fd (i.map Bk.b))).t (nw (fd (i.map Bk.b))).c (nw (fd (i.map Bk.b))) r).t Z M) lgT (0,0))::(d++(a++(X++K))))):=by
    refine e.on (e.st.perm ?_);have G:∀ (P:Nat×Obj) (d a X L K:List (Nat×Obj)),(P::(d++(a++(X++(L++K))))).Perm (L++(P::(d++(a++(X++K))))):=by
     intro P d a X L K;have I:P::(d++(a++(X++(L++K))))=(P::(d++(a++X)))++(L++K):=by simp
     have y:L++(P::(d++(a++(X++K))))=L++((P::(d++(a++X)))++K):=by simp
     rw [I,y];exact js _ _ _
    exact G _ _ _ _ _ _
   rcases jg7 R Q x u rfl rfl C (by rw [aq]) (fun b hb2=>(J.rows b hb2).1) a3 with q|q
   ·left;exact ⟨hc,j,_,l,n,jg5 q (by omega)⟩
   ·right;exact ⟨hc,j,_,l,n,q⟩
end
end
end Go.Proofs.YtdigofgjhaakmaaGreatDoor
