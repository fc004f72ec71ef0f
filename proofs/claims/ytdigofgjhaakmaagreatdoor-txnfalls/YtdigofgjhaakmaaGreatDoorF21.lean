/- Parts of the proof. -/
import Derived.Lib.IfaceEq
import Derived.Lib.Split
import Derived.Shelf.Slices.CompactS
import Derived.Shelf.Slices.In.SortNone
import Derived.Shelf.Unicode.ValidAny
import Derived.Test.YtdigofgjhaakmaaGreatDoorProg
import Derived.Test.YtdigofgjhaakmaaGreatDoorF19
set_option linter.all false
set_option maxHeartbeats 40000000
set_option maxRecDepth 100000
open Go.Proofs.Tryz
open Array renaming length_toList->a8
open Go.Shelf renaming Ren->aa
open Go.Lib renaming decodeGo->ab,compact->ac,compactUpTo->ad
open List renaming le_antisymm->ae,not_lt->af,mem_cons->ag,pairwise_cons->ah,find?_cons->ai,foldl_cons->aj,take_append_drop->ak,filter_eq_self->al,mem_iff_getElem->am,map_cons->an,mem_filter->ao,mem_range->ap,le_trans->aq,getElem?_eq_getElem->ar,drop_drop->au,drop_eq_nil_iff->aw,drop_zero->ax,cons_append->ay,nil_append->az,append_nil->aA,length_map->aB
open Classical renaming byContradiction->aD
open Or renaming inl->aE,inr->aF
open Go.DataW renaming trod->aG,trod_int->aH,trod_bool->aI
open List.Perm renaming cons->aJ,append_left->aK
namespace Go.Proofs.YtdigofgjhaakmaaGreatDoor
section
open Go.RowKit Go.Extern.Stop Go.Stop Go.Extern
theorem j4z (w:World):(j3c #[.agg #[.pointer (some ⟨4,28,none⟩)]]).run prog w=.ok (.bool true) w:=by kernel_rfl
theorem j4a (x y:Int) (w:World) :
  Calls prog 62 #[.iface 28 (.int .i64 x),.iface 28 (.int .i64 y)] w fun e w'=>e=.returned (.bool (x==y))/\w=w':=by
 have l:=@run_callFunc_extern prog 89 _ Extern.ReflectliteType.typeOf func89 (by kernel_rfl) (by kernel_rfl) (by kernel_rfl) (by kernel_rfl);have b:=@run_callFunc_extern prog 345 _ j3c func345 (by kernel_rfl) (by kernel_rfl) (by kernel_rfl) (by kernel_rfl);have i:=jhq;have o:=j4z;have k:=zo;have j:=joe;have d:=j9x;have c:=j85;have a:(binOp .eql 134 (.iface 28 (.int .i64 x)) (.iface 28 (.int .i64 y))).run prog w=.ok (.bool (x==y)) w:=Go.Lib.run_eql_iface_int (q:=.i64) w x y underlying134 (by kernel_rfl) underlying28;generalize (x==y)=r at a ⊢;go_enter func62,ntmps62;cases r
 all_goals
  go_wp2
  refine wp_loop_rounds 1 ?_;rw [rounds_succ]
  go_wp2
  go_ret;exact ⟨rfl,rfl⟩
theorem jk (x:Int) (w:World):Calls prog 41 #[.iface 28 (.int .i64 x)] w fun e w'=>e=.returned (.bool (x != 0))/\w=w':=by
 have C:=j4a x 0 w;go_enter func41,ntmps41;go_wp2_with fail;refine C.mono ?_;rintro e w' ⟨rfl,rfl⟩;go_wp2_with fail;go_ret;exact ⟨rfl,rfl⟩
end
section
namespace Ad
theorem j8h (s:ByteArray) (i:Nat) (h:i<s.size):s.data.toList.drop i=s[i]'h::s.data.toList.drop (i+1):=by
 have a:i<s.data.toList.length:=by rw [a8];exact h
 rw [List.drop_eq_getElem_cons a];congr 1
theorem jc4 (s:ByteArray) (i:Nat) (h:¬i<s.size):s.data.toList.drop i=[]:=by
 apply List.drop_eq_nil_of_le;rw [a8];show s.size<=i;omega
theorem jie (s:ByteArray) (i j:Nat):(s.extract i j).data.toList=(s.data.toList.drop i).take (j-i):=Lib.extract_data s i j
theorem j0c (s:ByteArray):s.data.toList.length=s.size:=by rw [a8];rfl
end Ad
end
end Go.Proofs.YtdigofgjhaakmaaGreatDoor

namespace Go.Proofs
open Go.Shelf
def Tryz.lays197_ren:aa:=⟨fun | 197=>80 | 260=>104|n=>n,fun | 9=>9 | 21=>21 | 3=>3 | 4=>4 | 5=>5 | 105=>143 | 119=>220 | 0=>0 | 46=>120 | 139=>223 | 138=>222|n=>n,fun | 3=>2 | 4=>3|n=>n⟩
theorem Tryz.lays197:Go.Proofs.Lays.n197 prog Tryz.lays197_ren:={
 mixed:=by kernel_rfl
 f197:=func80.trans (congrArg some (by kernel_rfl))
 f260:=func104.trans (congrArg some (by kernel_rfl))
 t0:=underlying0
 a0:=Tryz.isAgg0
 z0:=Tryz.sizeOf0
 v0:=Tryz.zeroValue0
 t3:=underlying3
 a3:=Tryz.isAgg3
 z3:=Tryz.sizeOf3
 v3:=Tryz.zeroValue3
 t4:=underlying4
 a4:=Tryz.isAgg4
 z4:=Tryz.sizeOf4
 v4:=Tryz.zeroValue4
 t5:=underlying5
 a5:=Tryz.isAgg5
 z5:=Tryz.sizeOf5
 v5:=Tryz.zeroValue5
 t9:=underlying9
 a9:=Tryz.isAgg9
 z9:=Tryz.sizeOf9
 v9:=Tryz.zeroValue9
 t21:=underlying21
 a21:=Tryz.isAgg21
 z21:=Tryz.sizeOf21
 v21:=Tryz.zeroValue21
 t46:=underlying120
 a46:=Tryz.isAgg120
 z46:=Tryz.sizeOf120
 v46:=Tryz.zeroValue120
 t105:=underlying143
 a105:=Tryz.isAgg143
 z105:=Tryz.sizeOf143
 v105:=Tryz.zeroValue143
 t119:=underlying220
 a119:=Tryz.isAgg220
 z119:=Tryz.sizeOf220
 t138:=underlying222
 a138:=Tryz.isAgg222
 z138:=Tryz.sizeOf222
 v138:=Tryz.zeroValue222
 t139:=underlying223
 a139:=Tryz.isAgg223
 z139:=Tryz.sizeOf223
 v139:=Tryz.zeroValue223
 g3:=by kernel_rfl
 g4:=by kernel_rfl }
open Go.RowKit Go.Lib in
theorem Tryz.utf8_DecodeRuneInString (s:ByteArray) (w:World) (a:Lib.Utf8Tabs 2 3 w) :
  Calls prog 80 #[.string s] w fun e w'=>e=.returned (.tuple #[.int .i32 (ab s).1,.int .i64 (ab s).2])/\Below w.heap.size w w':=Any.utf8_DecodeRuneInString Tryz.lays197 s w a
def Tryz.lays190_ren:aa:=⟨fun | 190=>102 | 125=>136 | 258=>135 | 128=>201 | 129=>202 | 302=>192 | 303=>193 | 304=>194 | 305=>195 | 306=>196 | 307=>197 | 308=>198 | 309=>199 | 310=>200 | 333=>264 | 329=>265 | 330=>266 | 334=>267 | 335=>268 | 336=>269 | 344=>314|n=>n,fun | 31=>140 | 9=>9 | 3=>3 | 46=>120 | 0=>0 | 51=>33 | 53=>32 | 4=>4 | 183=>265 | 182=>264 | 131=>270 | 5=>5 | 218=>322 | 222=>299 | 228=>340 | 229=>52|n=>n,fun|n=>n⟩
theorem Tryz.lays190:Go.Proofs.Lays.n190 prog Tryz.lays190_ren:={
 mixed:=by kernel_rfl
 f125:=func136.trans (congrArg some (by kernel_rfl))
 f128:=func201.trans (congrArg some (by kernel_rfl))
 f129:=func202.trans (congrArg some (by kernel_rfl))
 f190:=func102.trans (congrArg some (by kernel_rfl))
 f258:=func135.trans (congrArg some (by kernel_rfl))
 f302:=func192.trans (congrArg some (by kernel_rfl))
 f303:=func193.trans (congrArg some (by kernel_rfl))
 f304:=func194.trans (congrArg some (by kernel_rfl))
 f305:=func195.trans (congrArg some (by kernel_rfl))
 f306:=func196.trans (congrArg some (by kernel_rfl))
 f307:=func197.trans (congrArg some (by kernel_rfl))
 f308:=func198.trans (congrArg some (by kernel_rfl))
 f309:=func199.trans (congrArg some (by kernel_rfl))
 f310:=func200.trans (congrArg some (by kernel_rfl))
 f329:=func265.trans (congrArg some (by kernel_rfl))
 f330:=func266.trans (congrArg some (by kernel_rfl))
 f333:=func264.trans (congrArg some (by kernel_rfl))
 f334:=func267.trans (congrArg some (by kernel_rfl))
 f335:=func268.trans (congrArg some (by kernel_rfl))
 f336:=func269.trans (congrArg some (by kernel_rfl))
 f344:=func314.trans (congrArg some (by kernel_rfl))
 t0:=underlying0
 a0:=Tryz.isAgg0
 z0:=Tryz.sizeOf0
 v0:=Tryz.zeroValue0
 t3:=underlying3
 a3:=Tryz.isAgg3
 z3:=Tryz.sizeOf3
 v3:=Tryz.zeroValue3
 t4:=underlying4
 a4:=Tryz.isAgg4
 z4:=Tryz.sizeOf4
 v4:=Tryz.zeroValue4
 t5:=underlying5
 a5:=Tryz.isAgg5
 z5:=Tryz.sizeOf5
 v5:=Tryz.zeroValue5
 t9:=underlying9
 a9:=Tryz.isAgg9
 z9:=Tryz.sizeOf9
 v9:=Tryz.zeroValue9
 t31:=underlying140
 a31:=Tryz.isAgg140
 z31:=Tryz.sizeOf140
 v31:=Tryz.zeroValue140
 t46:=underlying120
 a46:=Tryz.isAgg120
 z46:=Tryz.sizeOf120
 v46:=Tryz.zeroValue120
 t51:=underlying33
 a51:=Tryz.isAgg33
 z51:=Tryz.sizeOf33
 v51:=Tryz.zeroValue33
 t53:=underlying32
 a53:=Tryz.isAgg32
 z53:=Tryz.sizeOf32
 v53:=Tryz.zeroValue32
 t131:=underlying270
 a131:=Tryz.isAgg270
 z131:=Tryz.sizeOf270
 v131:=Tryz.zeroValue270
 t182:=underlying264
 a182:=Tryz.isAgg264
 z182:=Tryz.sizeOf264
 v182:=Tryz.zeroValue264
 t183:=underlying265
 a183:=Tryz.isAgg265
 z183:=Tryz.sizeOf265
 v183:=Tryz.zeroValue265
 t218:=underlying322
 a218:=Tryz.isAgg322
 z218:=Tryz.sizeOf322
 v218:=Tryz.zeroValue322
 t222:=underlying299
 a222:=Tryz.isAgg299
 z222:=Tryz.sizeOf299
 v222:=Tryz.zeroValue299
 t228:=underlying340
 a228:=Tryz.isAgg340
 z228:=Tryz.sizeOf340
 v228:=Tryz.zeroValue340
 t229:=underlying52
 a229:=Tryz.isAgg52
 z229:=Tryz.sizeOf52
 v229:=Tryz.zeroValue52 }
def Tryz.lays194_ren:aa:=⟨fun | 194=>103|n=>n,fun | 31=>140 | 9=>9 | 3=>3 | 4=>4 | 0=>0|n=>n,fun|n=>n⟩
theorem Tryz.lays194:Go.Proofs.Lays.n194 prog Tryz.lays194_ren:={
 mixed:=by kernel_rfl
 f194:=func103.trans (congrArg some (by kernel_rfl))
 t0:=underlying0
 a0:=Tryz.isAgg0
 z0:=Tryz.sizeOf0
 v0:=Tryz.zeroValue0
 t3:=underlying3
 a3:=Tryz.isAgg3
 z3:=Tryz.sizeOf3
 v3:=Tryz.zeroValue3
 t4:=underlying4
 a4:=Tryz.isAgg4
 z4:=Tryz.sizeOf4
 v4:=Tryz.zeroValue4
 t9:=underlying9
 a9:=Tryz.isAgg9
 z9:=Tryz.sizeOf9
 v9:=Tryz.zeroValue9
 t31:=underlying140
 a31:=Tryz.isAgg140
 z31:=Tryz.sizeOf140
 v31:=Tryz.zeroValue140 }
def Tryz.lays196_ren:aa:=⟨fun | 196=>258 | 259=>312|n=>n,fun | 9=>9 | 4=>4 | 3=>3 | 5=>5 | 12=>12 | 119=>220 | 0=>0 | 46=>120 | 139=>223 | 138=>222 | 53=>32|n=>n,fun | 3=>2 | 4=>3|n=>n⟩
theorem Tryz.lays196:Go.Proofs.Lays.n196 prog Tryz.lays196_ren:={
 mixed:=by kernel_rfl
 f196:=func258.trans (congrArg some (by kernel_rfl))
 f259:=func312.trans (congrArg some (by kernel_rfl))
 t0:=underlying0
 a0:=Tryz.isAgg0
 z0:=Tryz.sizeOf0
 v0:=Tryz.zeroValue0
 t3:=underlying3
 a3:=Tryz.isAgg3
 z3:=Tryz.sizeOf3
 v3:=Tryz.zeroValue3
 t4:=underlying4
 a4:=Tryz.isAgg4
 z4:=Tryz.sizeOf4
 v4:=Tryz.zeroValue4
 t5:=underlying5
 a5:=Tryz.isAgg5
 z5:=Tryz.sizeOf5
 v5:=Tryz.zeroValue5
 t9:=underlying9
 a9:=Tryz.isAgg9
 z9:=Tryz.sizeOf9
 v9:=Tryz.zeroValue9
 t12:=underlying12
 a12:=Tryz.isAgg12
 z12:=Tryz.sizeOf12
 v12:=Tryz.zeroValue12
 t46:=underlying120
 a46:=Tryz.isAgg120
 z46:=Tryz.sizeOf120
 v46:=Tryz.zeroValue120
 t53:=underlying32
 a53:=Tryz.isAgg32
 z53:=Tryz.sizeOf32
 v53:=Tryz.zeroValue32
 t119:=underlying220
 a119:=Tryz.isAgg220
 z119:=Tryz.sizeOf220
 t138:=underlying222
 a138:=Tryz.isAgg222
 z138:=Tryz.sizeOf222
 v138:=Tryz.zeroValue222
 t139:=underlying223
 a139:=Tryz.isAgg223
 z139:=Tryz.sizeOf223
 v139:=Tryz.zeroValue223
 g3:=by kernel_rfl
 g4:=by kernel_rfl }
end Go.Proofs
namespace Go.Proofs.YtdigofgjhaakmaaGreatDoor
section
namespace Df
section
variable {α:Type} (f:α->List UInt8)
def put (t:α) (again:Bool):List α->List α
 | []=>[t]
 | y::r=>if f y<f t then y::put t again r else if f y=f t then (if again then t::r else y::r) else t::y::r
def del (n:List UInt8) (M:List α):List α:=M.filter (fun y=>decide (f y≠n))
def look (n:List UInt8) (M:List α):Option α:=M.find? (fun y=>decide (f y=n))
def Srt (M:List α):Prop:=M.Pairwise (fun a b=>f a<f b)
def byn (l:List α):List α:=l.foldl (fun M t=>put f t false M) []
end
theorem j81 (a:List UInt8):¬a<a:=List.lt_irrefl a
theorem jg5 {a b c:List UInt8} (h:a<b) (d:b<c):a<c:=List.lt_trans h d
theorem jo6 {a b:List UInt8} (h:¬a<b) (c:a≠b):b<a:=by
 rcases List.le_total a b with h1|h1
 ·exact absurd (ae h1 (af.1 h)) c
 ·exact aD fun d=>c (ae (af.1 d) h1)
theorem j6f {a b:List UInt8} (h:a<b):a≠b:=fun e=>j81 b (e ▸ h)
section
variable {α:Type} {f:α->List UInt8}
theorem j6c {t:α} {again:Bool}:∀ {M:List α} {x:α},x∈put f t again M->x=t\/x∈M
 | [],x,h=>by simp [put] at h;exact aE h
 | y::r,x,h=>by
  unfold put at h;split at h
  ·rcases ag.1 h with rfl|h
   ·exact aF (by simp)
   ·rcases j6c h with h|h
    ·exact aE h
    ·exact aF (by simp [h])
  ·split at h
   ·split at h
    ·rcases ag.1 h with rfl|h
     ·exact aE rfl
     ·exact aF (by simp [h])
    ·exact aF h
   ·rcases ag.1 h with rfl|h
    ·exact aE rfl
    ·exact aF h
theorem j0i {t:α} {again:Bool}:∀ {M:List α},Srt f M->Srt f (put f t again M)
 | [],_=>by simp [put,Srt]
 | y::r,h=>by
  obtain ⟨d,e⟩:=ah.1 h;unfold put;split
  ·rename_i b;refine ah.2 ⟨fun x hx=>?_,j0i e⟩;rcases j6c hx with rfl|hx
   ·exact b
   ·exact d x hx
  ·rename_i b;split
   ·rename_i c;split
    ·exact ah.2 ⟨fun x hx=>c ▸ d x hx,e⟩
    ·exact h
   ·rename_i c;have a:=jo6 b c;refine ah.2 ⟨fun x hx=>?_,h⟩;rcases ag.1 hx with rfl|hx
    ·exact a
    ·exact jg5 a (d x hx)
theorem jf0 {n:List UInt8} {M:List α} (h:Srt f M):Srt f (del f n M):=h.filter _
theorem jg1 {n:List UInt8} {M:List α} {x:α}:x∈del f n M ↔ x∈M/\f x≠n:=by simp [del]
theorem j0q {n:List UInt8} {M:List α} {x:α} (h:look f n M=some x):x∈M/\f x=n:=by
 have b:=List.mem_of_find?_eq_some h;have a:=List.find?_some h;exact ⟨b,by simpa using a⟩
theorem j1r {n:List UInt8} {M:List α}:look f n M=none ↔ ∀ x∈M,f x≠n:=by
 simp [look,List.find?_eq_none]
theorem jmz {M:List α} (h:Srt f M) {x y:α} (hx:x∈M) (b:y∈M) (e:f x=f y):x=y:=by
 induction M with
 | nil=>cases hx
 | cons z r ih =>
  obtain ⟨a,c⟩:=ah.1 h;rcases ag.1 hx with ex|hx'<;>rcases ag.1 b with ey|hy'
  ·rw [ex,ey]
  ·subst ex;exact absurd e (j6f (a y hy'))
  ·subst ey;exact absurd e.symm (j6f (a x hx'))
  ·exact ih c hx' hy'
theorem jbu {M:List α} (h:Srt f M) {x:α} (hx:x∈M):look f (f x) M=some x:=by
 cases hl:look f (f x) M with
 | none=>exact absurd rfl (j1r.1 hl x hx)
 | some y =>
  obtain ⟨b,a⟩:=j0q hl;rw [jmz h b hx a]
theorem j0n {M:List α} (h:Srt f M) {x:α}:x∈M ↔ look f (f x) M=some x:=⟨jbu h,fun h=>(j0q h).1⟩
theorem j93:∀ {A B:List α},Srt f A->Srt f B->(∀ x,x∈A ↔ x∈B)->A=B
 | [],[],_,_,_=>rfl
 | [],b::B,_,_,h=>absurd ((h b).2 (by simp)) (by simp)
 | a::A,[],_,_,h=>absurd ((h a).1 (by simp)) (by simp)
 | a::A,b::B,hA,hB,h=>by
  obtain ⟨d,j⟩:=ah.1 hA;obtain ⟨c,i⟩:=ah.1 hB;have e:a=b:=by
   rcases ag.1 ((h a).1 (by simp)) with e|h1
   ·exact e
   ·rcases ag.1 ((h b).2 (by simp)) with e|h2
    ·exact e.symm
    ·exact absurd (jg5 (d b h2) (c a h1)) (j81 _)
  subst e;rw [j93 j i fun x=>?_];constructor
  ·intro hx;rcases ag.1 ((h x).1 (by simp [hx])) with e|h1
   ·subst e;exact absurd (d x hx) (j81 _)
   ·exact h1
  ·intro hx;rcases ag.1 ((h x).2 (by simp [hx])) with e|h1
   ·subst e;exact absurd (c x hx) (j81 _)
   ·exact h1
theorem jbv {A B:List α} (b:Srt f A) (a:Srt f B) (h:∀ n,look f n A=look f n B):A=B :=
 j93 b a fun x=>by rw [j0n b,j0n a,h]
theorem kn {t:α} {again:Bool} {n:List UInt8} (hn:f t≠n):∀ M:List α,look f n (put f t again M)=look f n M
 | []=>by simp [put,look,hn]
 | y::r=>by
  have ih:=kn (again:=again) hn r;unfold put;split
  ·unfold look at ih ⊢;simp only [ai];rw [ih]
  ·split
   ·rename_i he;split
    ·have hy:f y≠n:=he ▸ hn;simp [look,ai,hn,hy]
    ·rfl
   ·simp [look,ai,hn]
theorem qg {t:α} {again:Bool}:∀ {M:List α},Srt f M->look f (f t) (put f t again M)=some (if again then t else (look f (f t) M).getD t)
 | [],_=>by simp [put,look]
 | y::r,h=>by
  obtain ⟨h1,h2⟩:=ah.1 h;have ih:=qg (again:=again) (t:=t) h2;unfold put;split
  ·rename_i hy;have e:f y≠f t:=j6f hy;unfold look at ih ⊢;simp only [ai,e,decide_false];exact ih
  ·rename_i hy;split
   ·rename_i he;cases again<;>simp [look,ai,he]
   ·rename_i he;have hlt:=jo6 hy he;have hno:look f (f t) (y::r)=none:=j1r.2 fun x hx=>by
     rcases ag.1 hx with rfl|hx
     ·exact he
     ·exact (j6f (jg5 hlt (h1 x hx))).symm
    rw [hno];simp [look]
theorem jez {M:List α} (h:Srt f M) (l:List α):Srt f (l.foldl (fun M t=>put f t false M) M):=by
 induction l generalizing M with
 | nil=>exact h
 | cons t l ih=>exact ih (j0i h)
theorem jf1 (l:List α):Srt f (byn f l):=jez List.Pairwise.nil l
theorem j59 {M:List α} (h:Srt f M) (n:List UInt8):∀ l:List α,look f n (l.foldl (fun M t=>put f t false M) M)=(look f n M).or (look f n l)
 | []=>by simp [look]
 | t::l=>by
  have a:=j59 (j0i (t:=t) (again:=false) h) n l;rw [aj,a];by_cases hn:f t=n
  ·subst hn;rw [qg h];cases hl:look f (f t) M<;>simp [look,ai]
  ·rw [kn hn];have b:look f n (t::l)=look f n l:=by simp [look,ai,hn]
   rw [b]
theorem jjs (l:List α) (n:List UInt8):look f n (byn f l)=look f n l:=by
 rw [byn,j59 List.Pairwise.nil];simp [look]
theorem jl0 (l:List α) (t:α):byn f (l++[t])=put f t false (byn f l):=by simp [byn]
theorem j6d {l:List α} {x:α} (h:x∈byn f l):x∈l:=by
 have:=(j0n (jf1 l)).1 h;rw [jjs] at this;exact (j0q this).1
theorem j2a (t:α) (again:Bool):∀ M:List α,(put f t again M).length<=M.length+1
 | []=>by simp [put]
 | y::r=>by
  have:=j2a t again r;unfold put;split
  ·simp;omega
  ·split
   ·split<;>simp
   ·simp
theorem j5h (l:List α):(byn f l).length<=l.length:=by
 have key:∀ (l M:List α),(l.foldl (fun M t=>put f t false M) M).length<=M.length+l.length:=by
  intro l
  induction l with
  | nil=>simp
  | cons t l ih=>intro M;have:=ih (put f t false M);have:=j2a (f:=f) t false M;simp only [aj,List.length_cons];omega
 simpa [byn] using key l []
theorem jlm {t:α} {again:Bool}:∀ M:List α,∃ at_,at_<=M.length/\(∀ i (h:i<M.length),i<at_->f M[i]<f t) /\
  ((∃ h:at_<M.length,f M[at_]=f t/\put f t again M=if again then M.set at_ t else M)\/((∀ h:at_<M.length,¬f M[at_]<f t/\f M[at_]≠f t)/\put f t again M=M.take at_++t::M.drop at_))
 | []=>⟨0,by simp,by simp,aF ⟨by simp,by simp [put]⟩⟩
 | y::r=>by
  unfold put;by_cases hy:f y<f t
  ·obtain ⟨k,h1,h2,h3⟩:=jlm (t:=t) (again:=again) r;refine ⟨k+1,by simp;omega,?_,?_⟩
   ·intro i hi hik;cases i with
    | zero=>exact hy
    | succ i=>simpa using h2 i (by simpa using hi) (by omega)
   ·rw [if_pos hy];rcases h3 with ⟨h,he,e⟩|⟨he,e⟩
    ·refine aE ⟨by simp;omega,by simpa using he,?_⟩;rw [e];cases again<;>simp
    ·refine aF ⟨fun h=>by simpa using he (by simpa using h),?_⟩;rw [e];simp
  ·refine ⟨0,by simp,by simp,?_⟩;rw [if_neg hy];by_cases he:f y=f t
   ·rw [if_pos he];refine aE ⟨by simp,by simpa using he,?_⟩;cases again<;>simp
   ·rw [if_neg he];exact aF ⟨fun _=>by simpa using ⟨hy,he⟩,by simp⟩
theorem jlz {M:List α} (h:Srt f M) {k:Nat} (o:k<M.length):del f (f M[k]) M=M.take k++M.drop (k+1):=by
 have e:M=M.take k++M[k]::M.drop (k+1):=by rw [List.getElem_cons_drop,ak]
 have a:Srt f (M.take k++M[k]::M.drop (k+1)):=e ▸ h;generalize l:M[k]=z at *;obtain ⟨r,d,c⟩:=List.pairwise_append.1 a;obtain ⟨b,q⟩:=ah.1 d
 conv=>lhs;rw [e]
 unfold del;rw [List.filter_append,List.filter_cons];have j:(M.take k).filter (fun y=>decide (f y≠f z))=M.take k:=al.2 fun x hx=>by
  have:=c x hx z (by simp);simpa using j6f this
 have i:(M.drop (k+1)).filter (fun y=>decide (f y≠f z))=M.drop (k+1):=al.2 fun x hx=>by
  have:=b x hx;simpa using (j6f this).symm
 rw [j,i];simp
theorem jly {M:List α} {n:List UInt8} (h:∀ k (a:k<M.length),f M[k]≠n):del f n M=M :=
 al.2 fun x hx=>by
  obtain ⟨k,a,rfl⟩:=am.1 hx;simpa using h k a
theorem jdt (n:List UInt8) (M:List α):(del f n M).length<=M.length:=List.length_filter_le _ _
end
section
variable {α β:Type} {f:α->List UInt8} {g:β->List UInt8} {h:α->β} (hg:∀ x,g (h x)=f x)
include hg
theorem j9s (t:α) (again:Bool):∀ M:List α,(put f t again M).map h=put g (h t) again (M.map h)
 | []=>rfl
 | y::r=>by
  simp only [put,an,hg];split
  ·simp [j9s t again r]
  ·split
   ·cases again<;>simp
   ·simp
theorem jo1 (n:List UInt8) (M:List α):(del f n M).map h=del g n (M.map h):=by
 unfold del;rw [List.filter_map];congr 1;apply List.filter_congr;intro x _;simp [hg]
theorem jbr (n:List UInt8):∀ M:List α,(look f n M).map h=look g n (M.map h)
 | []=>rfl
 | y::r=>by
  have a:=jbr n r;unfold look at a ⊢;by_cases hy:f y=n
  ·simp [ai,hg,hy]
  ·simp [ai,hg,hy];simpa using a
theorem jo2 (l:List α):(byn f l).map h=byn g (l.map h):=by
 have key:∀ (l M:List α),(l.foldl (fun M t=>put f t false M) M).map h=(l.map h).foldl (fun M t=>put g t false M) (M.map h):=by
  intro l
  induction l with
  | nil=>simp
  | cons t l ih=>intro M;simp only [aj,an];rw [ih,j9s hg]
 simpa [byn] using key l []
end
theorem j94 {l:List (List UInt8)} (h:l.Pairwise (·<=·)):(ac l).Pairwise (· < ·)/\∀ x,x∈ac l ↔ x∈l:=by
 have b:∀ i j,i<=j->j<l.length->l.toArray[i]!<=l.toArray[j]!:=by
  intro i j k a;have hi:i<l.length:=by omega
  rw [getElem!_pos _ i (by simpa using hi),getElem!_pos _ j (by simpa using a)];simp only [List.getElem_toArray];rcases Nat.lt_or_ge i j with d|d
  ·exact List.pairwise_iff_getElem.1 h i j hi a d
  ·obtain rfl:i=j:=by omega
   exact List.le_refl _
 constructor
 ·unfold ac ad;rw [List.pairwise_map];refine ((List.pairwise_lt_range (n:=l.length)).filter _).imp_of_mem ?_;intro i j hi a k;simp only [ao,ap] at hi a;have d:=b i (j-1) (by omega) (by omega);have q:=b (j-1) j (by omega) a.1;have c:l.toArray[j]!≠l.toArray[j-1]!:=by
   intro e;have:=a.2;rw [Lib.keeps_neg (by omega) e] at this;cases this
  have t:=aq d q;refine aD fun r=>?_;have s:l.toArray[j]!<=l.toArray[i]!:=af.1 r;exact c (ae (aq s d) q)
 ·intro x;unfold ac ad;simp only [List.mem_map,ao,ap];constructor
  ·rintro ⟨i,⟨hi,_⟩,rfl⟩;rw [getElem!_pos _ i (by simpa using hi)];simp
  ·intro hx;obtain ⟨i,hi,rfl⟩:=am.1 hx
   induction i using Nat.strongRecOn with
   | ind i ih =>
    by_cases hk:Lib.keeps l.toArray i=true
    ·exact ⟨i,⟨hi,hk⟩,by rw [getElem!_pos _ i (by simpa using hi)];simp⟩
    ·have u:0<i:=by
      rcases Nat.eq_zero_or_pos i with e|h
      ·exact absurd (Lib.keeps_lt_one _ i (by omega)) hk
      ·exact h
     have o:l.toArray[i]! = l.toArray[i-1]!:=aD fun c=>hk (Lib.keeps_pos c);obtain ⟨j,a,e⟩:=ih (i-1) (by omega) (by omega) (List.getElem_mem _);refine ⟨j,a,e.trans ?_⟩;rw [getElem!_pos _ i (by simpa using hi),getElem!_pos _ (i-1) (by simp;omega)] at o;simpa using o.symm
theorem jjg {l:List (List UInt8)} {m:List (List UInt8)} (i:m.Pairwise (· < ·)) (h:∀ x,x∈l ↔ x∈m):ac (l.mergeSort (fun x y=>decide (x<=y)))=m:=by
 have hs:(l.mergeSort (fun x y=>decide (x<=y))).Pairwise (·<=·):=by
  have:=List.pairwise_mergeSort (le:=fun x y:List UInt8=>decide (x<=y)) (fun a b c e d=>by simp only [decide_eq_true_eq] at *;exact aq e d) (fun a b=>by simp only [Bool.or_eq_true,decide_eq_true_eq];exact List.le_total a b) l;exact this.imp (fun h=>by simpa using h)
 obtain ⟨e,d⟩:=j94 hs;exact j93 (f:=id) e i fun x=>by rw [d,List.mem_mergeSort,h]
end Df
end
section
open Go.ChangeShapes Go.WideShapes Go.ChangeAt Go.RowKit Go.Joins Sm Cf
structure Ac where
 what:Int
 good:Bool
 v:Int
 kind:Int
 nn:Int
 y:Chg×Value×Value×Value
 raw:Bool
 c:Cgf
 u:Value
def aC (x:Ac):List Value:=.int .i64 x.what::.bool x.good::.int .u64 x.v::.int .u16 x.kind::.int .u8 x.nn::(hc x.y.1 x.y.2.1 x.y.2.2.1 x.y.2.2.2++(.bool x.raw::cc x.c x.u))
structure AcW (w:World) (x:Ac):Prop where
 what:-9223372036854775808<=x.what/\x.what<=9223372036854775807
 v:0<=x.v/\x.v<=18446744073709551615
 kind:0<=x.kind/\x.kind<=65535
 nn:0<=x.nn/\x.nn<=255
 len:TLen x.y.1.t
 rws:Rws w (x.y.1.t,x.y.2)
 tby:TBy x.y.1.t
 trg:TRg x.y.1.t
 tsv:TSV w x.u x.c.ten
 cin:CIn x.c
 crg:CRg x.c
 ten:∀ t∈x.c.ten,TBy t/\TRg t
section
variable {H:Type} {enc:TypeId×Value->H} {W:World} {base:Nat} {held:Bool}
theorem j7a {t:TypeId} {q o l k j i e d:Field} {c:Nat} {cs:List Value} {x:DataW H×List MemPlace} (s:prog.underlying t=some (.struct #[q,o,l,k,j,i,e,d])) (h:aG enc prog W base (fun _=>true) held c t cs=some x) :
 ∃ n,cs.length=prog.cellsOf t/\(∃ y,aG enc prog W base (fun _=>true) held n q.type ((cs.drop q.offset).take (prog.cellsOf q.type))=some y)/\(∃ y,aG enc prog W base (fun _=>true) held n o.type ((cs.drop o.offset).take (prog.cellsOf o.type))=some y)/\(∃ y,aG enc prog W base (fun _=>true) held n l.type ((cs.drop l.offset).take (prog.cellsOf l.type))=some y)/\(∃ y,aG enc prog W base (fun _=>true) held n k.type ((cs.drop k.offset).take (prog.cellsOf k.type))=some y)/\(∃ y,aG enc prog W base (fun _=>true) held n j.type ((cs.drop j.offset).take (prog.cellsOf j.type))=some y)/\(∃ y,aG enc prog W base (fun _=>true) held n i.type ((cs.drop i.offset).take (prog.cellsOf i.type))=some y)/\(∃ y,aG enc prog W base (fun _=>true) held n e.type ((cs.drop e.offset).take (prog.cellsOf e.type))=some y)/\(∃ y,aG enc prog W base (fun _=>true) held n d.type ((cs.drop d.offset).take (prog.cellsOf d.type))=some y):=by
 obtain ⟨xs,n,_,_,u,b,a⟩:=DataW.trod_struct s h;have r:xs.length=8:=b;exact ⟨n,u,⟨_,(a 0 q rfl).trans (ar (by omega))⟩,⟨_,(a 1 o rfl).trans (ar (by omega))⟩,⟨_,(a 2 l rfl).trans (ar (by omega))⟩,⟨_,(a 3 k rfl).trans (ar (by omega))⟩,⟨_,(a 4 j rfl).trans (ar (by omega))⟩,⟨_,(a 5 i rfl).trans (ar (by omega))⟩,⟨_,(a 6 e rfl).trans (ar (by omega))⟩,⟨_,(a 7 d rfl).trans (ar (by omega))⟩⟩
theorem j2c {d:Nat} {cs:List Value} {x:DataW H×List MemPlace} (q:aG enc prog W base (fun _=>true) held d 39 cs=some x) :
 ∃ (c:Cgf) (u:Value),cs=cc c u/\TSV W u c.ten/\CIn c/\CRg c/\∀ t∈c.ten,TBy t/\TRg t:=by
 obtain ⟨n,R,⟨y0,g0⟩,⟨y1,A⟩,⟨y2,z⟩,⟨y3,y⟩,⟨y4,v⟩,⟨y5,s⟩,⟨y6,r⟩⟩:=j7b underlying39 q;rw [show prog.cellsOf 39=29 by kernel_rfl] at R;have c2:prog.cellsOf 33=1:=by kernel_rfl
 have C:prog.cellsOf 36=8:=by kernel_rfl
 have i:prog.cellsOf 35=6:=by kernel_rfl
 have c5:prog.cellsOf 37=1:=by kernel_rfl
 simp only [c2,C,i,c5] at g0 A z y v s r;obtain ⟨Q,Z,-,G⟩:=aH underlying33 g0;obtain ⟨k,Y,P,b1⟩:=open_arr underlying35 i A;obtain ⟨J,X,O,b2⟩:=open_arr underlying35 i z;obtain ⟨a,V,M,b3⟩:=open_arr underlying35 i y;obtain ⟨key,U,K,b4⟩:=open_arr underlying36 C v;obtain ⟨dr,T,-,F⟩:=aH underlying33 s;obtain ⟨u,ts,S,I,E⟩:=jfr r;have step:∀ o n j,o+n=j->cs.drop o=(cs.drop o).take n++cs.drop j:=by
  intro o n j e;subst e;rw [<-au,ak]
 have b:cs.drop 29=[]:=by rw [aw];omega
 refine ⟨⟨Q,k,J,a,key,dr,ts⟩,u,?_,I,⟨⟨P,O,M,K⟩,b1,b2,b3,b4⟩,⟨bounds_u32 G,bounds_u32 F⟩,E⟩;refine (ax (l:=cs)).symm.trans ?_;rw [step 0 1 1 rfl,Z,step 1 6 7 rfl,Y,step 7 6 13 rfl,X,step 13 6 19 rfl,V,step 19 8 27 rfl,U,step 27 1 28 rfl,T,step 28 1 29 rfl,S,b];simp only [cc,ay,az,aA]
theorem j2e {c:Nat} {cs:List Value} {x:DataW H×List MemPlace} (i:aG enc prog W base (fun _=>true) held c 48 cs=some x) :
 ∃ y:Chg×Value×Value×Value,cs=hc y.1 y.2.1 y.2.2.1 y.2.2.2/\TLen y.1.t/\Rws W (y.1.t,y.2)/\TBy y.1.t/\TRg y.1.t:=by
 obtain ⟨n,E,⟨Q,g0⟩,⟨P,k⟩,⟨O,j⟩⟩:=trod_struct3 underlying48 i;rw [show prog.cellsOf 48=35 by kernel_rfl] at E;have M:prog.cellsOf 4=1:=by kernel_rfl
 have K:prog.cellsOf 9=1:=by kernel_rfl
 have J:prog.cellsOf 46=33:=by kernel_rfl
 simp only [M,K,J] at g0 k j;obtain ⟨put,I,-⟩:=aI underlying4 g0;obtain ⟨a,G,-⟩:=DataW.trod_string underlying9 k;obtain ⟨t,p',s,q,F,C,A,z,v,u,r⟩:=j42 j;have step:∀ o n d,o+n=d->cs.drop o=(cs.drop o).take n++cs.drop d:=by
  intro o n d e;subst e;rw [<-au,ak]
 have b:cs.drop 35=[]:=by rw [aw];omega
 refine ⟨(⟨put,a,t⟩,p',s,q),?_,C,⟨A,z,v⟩,u,r⟩;refine (ax (l:=cs)).symm.trans ?_;rw [step 0 1 1 rfl,I,step 1 1 2 rfl,G,step 2 33 35 rfl,F,b];simp only [hc,ay,az,aA]
theorem j4x {j:Nat} {cs:List Value} {x:DataW H×List MemPlace} (r:aG enc prog W base (fun _=>true) held j 50 cs=some x) :
 ∃ x:Ac,cs=aC x/\cs.length=70/\AcW W x:=by
 obtain ⟨n,s,⟨y0,g0⟩,⟨y1,G⟩,⟨y2,F⟩,⟨y3,E⟩,⟨y4,C⟩,⟨y5,A⟩,⟨y6,z⟩,⟨y7,t⟩⟩:=j7a underlying50 r;rw [show prog.cellsOf 50=70 by kernel_rfl] at s;have c0:prog.cellsOf 3=1:=by kernel_rfl
 have c1:prog.cellsOf 4=1:=by kernel_rfl
 have c2:prog.cellsOf 32=1:=by kernel_rfl
 have c3:prog.cellsOf 42=1:=by kernel_rfl
 have c4:prog.cellsOf 5=1:=by kernel_rfl
 have c5:prog.cellsOf 48=35:=by kernel_rfl
 have c7:prog.cellsOf 39=29:=by kernel_rfl
 simp only [c0,c1,c2,c3,c4,c5,c7] at g0 G F E C A z t;obtain ⟨a,e0,-,M⟩:=aH underlying3 g0;obtain ⟨i,e1,-⟩:=aI underlying4 G;obtain ⟨v,e2,-,K⟩:=aH underlying32 F;obtain ⟨b,e3,-,J⟩:=aH underlying42 E;obtain ⟨O,e4,-,I⟩:=aH underlying5 C;obtain ⟨y,e5,X,V,U,T⟩:=j2e A;obtain ⟨k,Z,-⟩:=aI underlying4 z;obtain ⟨c,u,Y,S,R,Q,P⟩:=j2c t;have step:∀ o n q,o+n=q->cs.drop o=(cs.drop o).take n++cs.drop q:=by
  intro o n q e;subst e;rw [<-au,ak]
 have d:cs.drop 70=[]:=by rw [aw];omega
 refine ⟨⟨a,i,v,b,O,y,k,c,u⟩,?_,s,⟨bounds_i64 M,bounds_u64 K,bounds_u16 J,bounds_u8 I,X,V,U,T,S,R,Q,P⟩⟩;refine (ax (l:=cs)).symm.trans ?_;rw [step 0 1 1 rfl,e0,step 1 1 2 rfl,e1,step 2 1 3 rfl,e2,step 3 1 4 rfl,e3,step 4 1 5 rfl,e4,step 5 35 40 rfl,e5,step 40 1 41 rfl,Z,step 41 29 70 rfl,Y,d];simp only [aC,ay,az,aA]
open Classical in
theorem open_acts16 {a:Option Addr} {len cap:Nat} {d:DataW H} {p:List MemPlace} (h:DataW.Trod enc prog W base (fun _=>true) held 22 (.slice a len cap) d p) :
 ∃ X:Nat->Ac,∀ i,i<len->∃ b l,a=some ⟨b,l,none⟩/\W.rangeAt b (l+i*70) (aC (X i))/\(aC (X i)).length=70/\AcW W (X i):=by
 obtain ⟨A,G⟩:=h;rcases Go.Deep.open_slice underlying22 G with ⟨hcs,_⟩|⟨a,len',cap',m,n,D,Pl,hcs,_,hl,hm,hmm,_,hx⟩
 ·simp [Value.cells] at hcs;obtain ⟨rfl,rfl,rfl⟩:=hcs;exact ⟨fun _=>⟨0,false,0,0,0,(⟨false,ByteArray.empty,ten0⟩,.bool false,.bool false,.bool false),false,⟨0,[],[],[],[],0,[]⟩,.bool false⟩,fun i hi=>by omega⟩
 ·simp [Value.cells] at hcs;obtain ⟨rfl,rfl,rfl⟩:=hcs;have E:len<=m:=by simp at hmm;omega
  rw [show prog.cellsOf 50=70 by kernel_rfl] at hx;obtain ⟨b,l,o⟩:=a;have s:∀ i,∃ k:Ac,i<len->∃ C q,(some ⟨b,l,o⟩:Option Addr)=some ⟨C,q,none⟩/\W.rangeAt C (q+i*70) (aC k)/\(aC k).length=70/\AcW W k:=by
   intro i;by_cases hi:i<len
   ·have r:o=none:=by
     obtain ⟨y,s,z⟩:=hx 0 (by omega);obtain ⟨_,t,c⟩:=World.cells?_some s;have hc:=c 0 (by omega);rw [ar (by omega)] at hc;simpa [Addr.add] using World.cell?_spot hc
    subst r;obtain ⟨y,s,z⟩:=hx i (by omega);obtain ⟨_,t,c⟩:=World.cells?_some s;obtain ⟨k,e,F,hw⟩:=j4x z;refine ⟨k,fun _=>⟨b,l,rfl,fun j u x=>?_,by rw [<-e];exact F,hw⟩⟩;rw [<-e] at x;have v:j<70:=by
     have:=(List.getElem?_eq_some_iff.1 x).1;omega
    have hc:=c j v;rw [x,Go.Deep.add_add,addr_add] at hc;simpa [Nat.add_assoc] using hc
   ·exact ⟨⟨0,false,0,0,0,(⟨false,ByteArray.empty,ten0⟩,.bool false,.bool false,.bool false),false,⟨0,[],[],[],[],0,[]⟩,.bool false⟩,fun h=>absurd h hi⟩
  exact ⟨fun i=>(s i).choose,fun i=>(s i).choose_spec⟩
end
end
section
open Go.ChangeShapes Go.WideShapes Go.ChangeAt Go.RowKit
end
section
open Go.RowKit Sm
section
variable {w W:World} {p h m N:Nat} {D:Dk} {pl:Nat} {B:Int} {all:List (List Int)} {L:List (Nat×Obj)}
theorem je0 {g cap:Nat} {a:Array Value} {r:List Int} (hx:(g,Obj.cells a 5)∈L) (hc:a.toList.take r.length=r.map (Value.int .u8)) (hb:j6 r) (c:r.length<=140737488351232):j16 w p h m L (some ⟨g,0,none⟩) r:=by
 intro k q d b o H j;have hg:=H.has (j _ hx);refine ⟨hb,c,aF ⟨g,0,rfl,fun i hi=>?_⟩⟩;rw [Nat.zero_add,cell_of hg];have e:=congrArg (fun l=>l[i]?) hc;simp only [List.getElem?_take,if_pos hi,List.getElem?_map,Array.getElem?_toList] at e;rw [e,ar hi];simp [List.getD,hi]
theorem jio (H:Sd w W p h m N D B all L) {z:Addr} (x:Gl w z) (hd:D.dead=false) (C:4<=N) (t:256<=m) (o:B<=1000000) (d:0<=B) :
  Calls prog 40 #[.pointer (some ⟨p,0,none⟩)] W fun e k=>∃ pl c,e=.returned (.tuple #[.pointer (some ⟨pl,0,none⟩),c,.int .i64 0])/\∃ b Y,RS c b Y/\Ends b all/\Sy w k p h m N D pl B all (Y++L)/\Below W.heap.size W k:=by
 obtain ⟨hc,s,K,j,y,i⟩:=H.at_;refine (jfs j (x.on j.st.mem) hd (by omega) t).mono ?_;rintro e k ⟨pl,c,rfl,r,X,v,Y,u,a,l⟩;refine ⟨pl,c,rfl,_,Y,u,jpy i o,⟨hc,s,r,X,a++K,?_,y,i,?_⟩,l.below⟩
 ·have q:=j.join l;refine q.on (q.st.perm ?_);have A:∀ (P:Nat×Obj) (X Y a L K:List (Nat×Obj)),((P::(X++(Y++a)))++(L++K)).Perm (P::(X++((Y++L)++(a++K)))):=by
   intro P X Y a L K;rw [ay];refine aJ P ?_;simp only [List.append_assoc];refine aK X (aK Y ?_);exact jv a L K
  exact A _ _ _ _ _ _
 ·have:=(jeu i o d).2.1;rw [<-this];exact v
theorem jmw (H:Sy w W p h m N D pl B all L) {ga:Addr} (hG:Gl w ga) (hd:D.dead=false) (U:4<=N) (V:256<=m) (R:B<=900000) (y:0<=B) (x:all.length<=900000) {g k cap:Nat} {r:List Int} (hr:r.length=k) (F:k<=cap) (Y:k<=room N m) (G:j16 w p h m L (some ⟨g,0,none⟩) r) (hb:j6 r) :
 Calls prog 60 #[.pointer (some ⟨pl,0,none⟩),.slice (some ⟨g,0,none⟩) k cap] W fun T A=>∃ s,T=.returned (.int .i64 s)/\∃ u,
  ((s=0/\u.dead=false/\(D.set=false->u=D)/\Sy w A p h m N u pl (B+1) (all++[r]) L) \/
   (s=42/\u=gone/\D.set=true/\So w A p h m N u pl L/\(Sd w A p h m N u (B+1) all L\/Sd w A p h m N u (B+1) (all++[r]) L))):=by
 obtain ⟨hc,i,v,X,K,M,h2,S,h4⟩:=H.at_;subst h2;have a0:=room_le i.length m;obtain ⟨av,cv,T,-⟩:=h4.shape;have C:=j91 S R y x rfl rfl r;have Q:j16 w p h m (X++(L++K)) (some ⟨g,0,none⟩) r:=G.mono (fun q hq=>by simp [hq]);have E:=jlo (t:=(nw (fd (i.map Bk.b))).t) (c:=(nw (fd (i.map Bk.b))).c) (bl:=i.map Bk.b) U M.top V M.mhi (by rw [hr];exact Y) hb (by rw [C.2.2.1];omega);refine (jal M hG hd U V hr Y F (aF ⟨_,_,rfl⟩) Q hb (by rw [C.2.2.1];omega) T).mono ?_;rintro a7 A ⟨s,rfl,u,j,c',O,d,a,Z⟩;refine ⟨s,rfl,u,?_⟩;have e:=Z.at_;rcases Z.ok with ⟨rfl,a1,a2,a3,a4,a5⟩|⟨rfl,a1,a2,a3,a4,a5,a6⟩
 ·left;obtain ⟨s1,s2⟩:=jpx S R y x rfl rfl E (by rw [aB]);refine ⟨rfl,a1,a2,hc,j,O,d,a++(X++K),?_,?_,by rw [a3];exact s1,?_⟩
  ·rw [a3,s2];rw [a4] at e;refine e.on (e.st.perm (aJ _ (aK d ?_)));have I:∀ (a X L K:List (Nat×Obj)),(a++(X++(L++K))).Perm (L++(a++(X++K))):=by
    intro a X L K;have J:a++(X++(L++K))=(a++X)++(L++K):=by simp
    have z:L++(a++(X++K))=L++((a++X)++K):=by simp
    rw [J,z];exact jv _ _ _
   exact I _ _ _ _
  ·have:=congrArg List.length a3;rw [jm,aB,aB] at this;exact this
  ·have:(all++[r]).getLastD []=r:=by rw [List.getLastD_eq_getLast?,List.getLast?_concat];rfl
   rw [this];have z:(lnxt (nw (fd (i.map Bk.b))).t (nw (fd (i.map Bk.b))).c (nw (fd (i.map Bk.b))) r).r=r:=rfl;rw [z] at a5;exact a5
 ·right;have o:j.length=i.length:=by have:=a3.length;rw [aB,aB] at this;exact this
  refine ⟨rfl,a1,a2,⟨hc,j,(lnxt (nw (fd (i.map Bk.b))).t (nw (fd (i.map Bk.b))).c (nw (fd (i.map Bk.b))) r).t,c',O,d++(a++(X++K)),?_,o⟩,?_⟩
  ·refine e.on (e.st.perm (aJ _ ?_));have I:∀ (d a X L K:List (Nat×Obj)),(d++(a++(X++(L++K)))).Perm (L++(d++(a++(X++K)))):=by
    intro d a X L K;have J:d++(a++(X++(L++K)))=(d++(a++X))++(L++K):=by simp
    have z:L++(d++(a++(X++K)))=L++((d++(a++X))++K):=by simp
    rw [J,z];exact jv _ _ _
   exact I _ _ _ _ _
  ·have l:DkAt w A p h m u hc j (L++((pl,.cells (lgA p (lnxt (nw (fd (i.map Bk.b))).t (nw (fd (i.map Bk.b))).c (nw (fd (i.map Bk.b))) r).t c' O) lgT (0,0))::(d++(a++(X++K))))):=by
    refine e.on (e.st.perm ?_);have I:∀ (P:Nat×Obj) (d a X L K:List (Nat×Obj)),(P::(d++(a++(X++(L++K))))).Perm (L++(P::(d++(a++(X++K))))):=by
     intro P d a X L K;have J:P::(d++(a++(X++(L++K))))=(P::(d++(a++X)))++(L++K):=by simp
     have z:L++(P::(d++(a++(X++K))))=L++((P::(d++(a++X)))++K):=by simp
     rw [J,z];exact jv _ _ _
    exact I _ _ _ _ _ _
   rcases jid S R y x rfl rfl E (by rw [aB]) (fun b hb2=>(M.rows b hb2).1) a3 with q|q
   ·left;exact ⟨hc,j,_,l,o,jib q (by omega)⟩
   ·right;exact ⟨hc,j,_,l,o,q⟩
end
end
end Go.Proofs.YtdigofgjhaakmaaGreatDoor
