/-
  The library's contracts that this program uses, at its own numbers.
  Plain mathematics of addresses as text, with no program in it: decimal and hexadecimal numbers, texts cut at a sign, and that each address has its one text.
  Plain mathematics of the Internet's checksum, with no program in it: folding is the residue by 65535 (with the two noughts told apart), and a sum with end-around carry folds to what the plain sum folds to.
-/
import Derived.Shelf.Unicode.ValidAny
import Derived.Shelf.Strings.Builder1
import Derived.Shelf.Strings.Builder2
import Derived.Shelf.Strings.OnBuilder
import Derived.Shelf.Strings.BuilderF
import Derived.Shelf.Strings.BuilderK
import Derived.Shelf.Strconv.Itoa0
import Derived.Shelf.Strconv.Itoa1
import Derived.Shelf.LaysM
import Derived.Shelf.Strconv.Itoa2
import Derived.Shelf.Strconv.Itoa3
import Derived.Shelf.Strconv.Itoa4
import Derived.Shelf.Strconv.Clone
import Derived.Shelf.Strings.Search1
import Derived.Shelf.Strings.Search2
import Derived.Shelf.Strings.Search3
import Derived.Shelf.Strings.Count
import Derived.Shelf.Strings.Shaped
import Derived.Shelf.Strings.Split
import Derived.Shelf.Strings.SplitShaped
import Derived.Shelf.Unicode.DecodeSlow
import Derived.Shelf.Unicode.DecodeAny
import Derived.Test.YtneciccdiledfaaGreatDoorProg
import Derived.Lib.Split
import Derived.Laws.BitsLemmas
import Derived.Laws.BitsAllLaws
set_option linter.unusedVariables false
namespace Go.Proofs
open Go.Shelf
def Tryz.lays156_ren : Go.Shelf.Ren := ⟨fun | 156 => 93 | 165 => 111 | 166 => 92 | 169 => 35 | 240 => 110 | 241 => 120 | 276 => 119 | 277 => 132 | n => n, fun | 31 => 54 | 9 => 9 | 3 => 3 | 4 => 4 | 0 => 0 | 20 => 20 | 72 => 84 | 76 => 174 | 70 => 82 | 37 => 49 | 75 => 31 | 127 => 134 | 164 => 107 | 5 => 5 | 80 => 89 | n => n, fun | n => n⟩
theorem Tryz.lays156 : Go.Proofs.Lays.n156 Tryz.prog Tryz.lays156_ren := {
 mixed := by kernel_rfl
 f156 := Tryz.func93.trans (congrArg some (by kernel_rfl))
 f165 := Tryz.func111.trans (congrArg some (by kernel_rfl))
 f166 := Tryz.func92.trans (congrArg some (by kernel_rfl))
 f169 := Tryz.func35.trans (congrArg some (by kernel_rfl))
 f240 := Tryz.func110.trans (congrArg some (by kernel_rfl))
 f241 := Tryz.func120.trans (congrArg some (by kernel_rfl))
 f276 := Tryz.func119.trans (congrArg some (by kernel_rfl))
 f277 := Tryz.func132.trans (congrArg some (by kernel_rfl))
 t0 := Tryz.underlying0
 a0 := Tryz.isAgg0
 z0 := Tryz.sizeOf0
 v0 := Tryz.zeroValue0
 t3 := Tryz.underlying3
 a3 := Tryz.isAgg3
 z3 := Tryz.sizeOf3
 v3 := Tryz.zeroValue3
 t4 := Tryz.underlying4
 a4 := Tryz.isAgg4
 z4 := Tryz.sizeOf4
 v4 := Tryz.zeroValue4
 t9 := Tryz.underlying9
 a9 := Tryz.isAgg9
 z9 := Tryz.sizeOf9
 v9 := Tryz.zeroValue9
 t20 := Tryz.underlying20
 a20 := Tryz.isAgg20
 z20 := Tryz.sizeOf20
 v20 := Tryz.zeroValue20
 t31 := Tryz.underlying54
 a31 := Tryz.isAgg54
 z31 := Tryz.sizeOf54
 v31 := Tryz.zeroValue54
 t37 := Tryz.underlying49
 a37 := Tryz.isAgg49
 z37 := Tryz.sizeOf49
 v37 := Tryz.zeroValue49
 t70 := Tryz.underlying82
 a70 := Tryz.isAgg82
 z70 := Tryz.sizeOf82
 v70 := Tryz.zeroValue82
 t72 := Tryz.underlying84
 a72 := Tryz.isAgg84
 z72 := Tryz.sizeOf84
 v72 := Tryz.zeroValue84
 t75 := Tryz.underlying31
 a75 := Tryz.isAgg31
 z75 := Tryz.sizeOf31
 v75 := Tryz.zeroValue31
 t76 := Tryz.underlying174
 a76 := Tryz.isAgg174
 z76 := Tryz.sizeOf174
 v76 := Tryz.zeroValue174
 t127 := Tryz.underlying134
 a127 := Tryz.isAgg134
 z127 := Tryz.sizeOf134
 v127 := Tryz.zeroValue134
 t164 := Tryz.underlying107
 a164 := Tryz.isAgg107
 z164 := Tryz.sizeOf107
 v164 := Tryz.zeroValue107 }
theorem Tryz.Builder_Extra_156 : Builder.Extra Tryz.prog Tryz.lays156_ren := {
 sizeBuilder := by kernel_rfl
 liesBuilder := by kernel_rfl
 t5 := Tryz.underlying5
 a5 := Tryz.isAgg5
 z5 := Tryz.sizeOf5
 v5 := Tryz.zeroValue5
 infoByte := by kernel_rfl
 cellsByte := by kernel_rfl
 sizeByte := by kernel_rfl
 neB5 := by decide }
open Go.RowKit in
theorem Tryz.strings_Join (bk o c : Nat) (xs : List ByteArray) (sep : ByteArray) (w : World) (hcells : ∀ (j : Nat) x, xs[j]? = some x → w.cell? ⟨bk, o + j, none⟩ = some (.string x)) (hbk : bk < w.heap.size) (hN : xs.length ≤ 140737488355328) (hcap : xs.length ≤ c) (hlen : (Lib.join (xs.map (·.data.toList)) sep.data.toList).length ≤ 140737488355328) :
  Calls Tryz.prog 93 #[.slice (some ⟨bk, o, none⟩) xs.length c, .string sep] w fun e w' => e = .returned (.string ⟨(Lib.join (xs.map (·.data.toList)) sep.data.toList).toArray⟩) ∧ Below w.heap.size w w' := Any.strings_Join Tryz.lays156 Tryz.Builder_Extra_156 bk o c xs sep w hcells hbk hN hcap hlen
def Tryz.laysM171_ren : Go.Shelf.Ren := ⟨fun | 171 => 95 | 243 => 112 | 246 => 113 | 283 => 121 | 284 => 122 | 285 => 123 | 286 => 124 | 129 => 134 | 317 => 133 | 318 => 135 | 319 => 136 | 320 => 137 | 337 => 142 | 338 => 143 | n => n, fun | 3 => 3 | 9 => 9 | 2 => 2 | 4 => 4 | 171 => 205 | 0 => 0 | 53 => 94 | 37 => 49 | 5 => 5 | 173 => 208 | 212 => 215 | 51 => 23 | 20 => 20 | 213 => 216 | 46 => 135 | 232 => 222 | 233 => 223 | n => n, fun | 17 => 4 | 18 => 6 | 19 => 7 | n => n⟩
theorem Tryz.laysM171 : Go.Proofs.LaysM.n171 Tryz.prog Tryz.laysM171_ren := {
 mixed := by kernel_rfl
 f129 := Tryz.func134.trans (congrArg some (by kernel_rfl))
 f171 := Tryz.func95.trans (congrArg some (by kernel_rfl))
 f243 := Tryz.func112.trans (congrArg some (by kernel_rfl))
 f246 := Tryz.func113.trans (congrArg some (by kernel_rfl))
 f283 := Tryz.func121.trans (congrArg some (by kernel_rfl))
 f284 := Tryz.func122.trans (congrArg some (by kernel_rfl))
 f285 := Tryz.func123.trans (congrArg some (by kernel_rfl))
 f286 := Tryz.func124.trans (congrArg some (by kernel_rfl))
 f317 := Tryz.func133.trans (congrArg some (by kernel_rfl))
 f318 := Tryz.func135.trans (congrArg some (by kernel_rfl))
 f319 := Tryz.func136.trans (congrArg some (by kernel_rfl))
 f320 := Tryz.func137.trans (congrArg some (by kernel_rfl))
 f337 := Tryz.func142.trans (congrArg some (by kernel_rfl))
 f338 := Tryz.func143.trans (congrArg some (by kernel_rfl))
 t0 := Tryz.underlying0
 a0 := Tryz.isAgg0
 z0 := Tryz.sizeOf0
 v0 := Tryz.zeroValue0
 t2 := Tryz.underlying2
 a2 := Tryz.isAgg2
 z2 := Tryz.sizeOf2
 v2 := Tryz.zeroValue2
 t3 := Tryz.underlying3
 a3 := Tryz.isAgg3
 z3 := Tryz.sizeOf3
 v3 := Tryz.zeroValue3
 t4 := Tryz.underlying4
 a4 := Tryz.isAgg4
 z4 := Tryz.sizeOf4
 v4 := Tryz.zeroValue4
 t5 := Tryz.underlying5
 a5 := Tryz.isAgg5
 z5 := Tryz.sizeOf5
 v5 := Tryz.zeroValue5
 t9 := Tryz.underlying9
 a9 := Tryz.isAgg9
 z9 := Tryz.sizeOf9
 v9 := Tryz.zeroValue9
 t20 := Tryz.underlying20
 a20 := Tryz.isAgg20
 z20 := Tryz.sizeOf20
 v20 := Tryz.zeroValue20
 t37 := Tryz.underlying49
 a37 := Tryz.isAgg49
 z37 := Tryz.sizeOf49
 v37 := Tryz.zeroValue49
 t46 := Tryz.underlying135
 a46 := Tryz.isAgg135
 z46 := Tryz.sizeOf135
 v46 := Tryz.zeroValue135
 t51 := Tryz.underlying23
 a51 := Tryz.isAgg23
 z51 := Tryz.sizeOf23
 v51 := Tryz.zeroValue23
 t53 := Tryz.underlying94
 a53 := Tryz.isAgg94
 z53 := Tryz.sizeOf94
 v53 := Tryz.zeroValue94
 t171 := Tryz.underlying205
 a171 := Tryz.isAgg205
 z171 := Tryz.sizeOf205
 v171 := Tryz.zeroValue205
 t173 := Tryz.underlying208
 a173 := Tryz.isAgg208
 z173 := Tryz.sizeOf208
 v173 := Tryz.zeroValue208
 t212 := Tryz.underlying215
 a212 := Tryz.isAgg215
 z212 := Tryz.sizeOf215
 v212 := Tryz.zeroValue215
 t213 := Tryz.underlying216
 a213 := Tryz.isAgg216
 z213 := Tryz.sizeOf216
 t232 := Tryz.underlying222
 a232 := Tryz.isAgg222
 z232 := Tryz.sizeOf222
 v232 := Tryz.zeroValue222
 t233 := Tryz.underlying223
 a233 := Tryz.isAgg223
 z233 := Tryz.sizeOf223
 v233 := Tryz.zeroValue223
 g17 := by kernel_rfl
 g18 := by kernel_rfl
 g19 := by kernel_rfl
 i0 := by kernel_rfl
 i2 := by kernel_rfl
 i3 := by kernel_rfl
 i4 := by kernel_rfl
 i5 := by kernel_rfl
 i9 := by kernel_rfl
 i20 := by kernel_rfl
 i37 := by kernel_rfl
 i46 := by kernel_rfl
 i51 := by kernel_rfl
 i53 := by kernel_rfl
 i171 := by kernel_rfl
 i173 := by kernel_rfl
 i212 := by kernel_rfl
 i232 := by kernel_rfl
 i233 := by kernel_rfl
 m17 := by kernel_rfl
 m18 := by kernel_rfl
 m19 := by kernel_rfl }
open Go.RowKit Go.Sort Go.Lib in
theorem Tryz.strconv_Itoa (n : Int) (h0 : -9223372036854775808 ≤ n) (h1 : n ≤ 9223372036854775807) (w : World) (htab : Lib.TabIs Tryz.prog w "internal/strconv.uint64pow10" .u64 Lib.pow10Tab) :
  Calls Tryz.prog 95 #[.int .i64 n] w fun e w' => e = .returned (.string ⟨(Lib.itoa n).toArray⟩) ∧ ∃ k os, w' = grow (w.drewN k) os := Any.strconv_Itoa Tryz.laysM171 n h0 h1 w htab
def Tryz.laysM173_ren : Go.Shelf.Ren := ⟨fun | 173 => 97 | 246 => 113 | 283 => 121 | 284 => 122 | 285 => 123 | 286 => 124 | 129 => 134 | 317 => 133 | 318 => 135 | 319 => 136 | 320 => 137 | 337 => 142 | 338 => 143 | n => n, fun | 2 => 2 | 3 => 3 | 9 => 9 | 4 => 4 | 171 => 205 | 0 => 0 | 53 => 94 | 37 => 49 | 5 => 5 | 173 => 208 | 212 => 215 | 51 => 23 | 20 => 20 | 213 => 216 | 46 => 135 | 232 => 222 | 233 => 223 | n => n, fun | 17 => 4 | 18 => 6 | 19 => 7 | n => n⟩
theorem Tryz.laysM173 : Go.Proofs.LaysM.n173 Tryz.prog Tryz.laysM173_ren := {
 mixed := by kernel_rfl
 f129 := Tryz.func134.trans (congrArg some (by kernel_rfl))
 f173 := Tryz.func97.trans (congrArg some (by kernel_rfl))
 f246 := Tryz.func113.trans (congrArg some (by kernel_rfl))
 f283 := Tryz.func121.trans (congrArg some (by kernel_rfl))
 f284 := Tryz.func122.trans (congrArg some (by kernel_rfl))
 f285 := Tryz.func123.trans (congrArg some (by kernel_rfl))
 f286 := Tryz.func124.trans (congrArg some (by kernel_rfl))
 f317 := Tryz.func133.trans (congrArg some (by kernel_rfl))
 f318 := Tryz.func135.trans (congrArg some (by kernel_rfl))
 f319 := Tryz.func136.trans (congrArg some (by kernel_rfl))
 f320 := Tryz.func137.trans (congrArg some (by kernel_rfl))
 f337 := Tryz.func142.trans (congrArg some (by kernel_rfl))
 f338 := Tryz.func143.trans (congrArg some (by kernel_rfl))
 t0 := Tryz.underlying0
 a0 := Tryz.isAgg0
 z0 := Tryz.sizeOf0
 v0 := Tryz.zeroValue0
 t2 := Tryz.underlying2
 a2 := Tryz.isAgg2
 z2 := Tryz.sizeOf2
 v2 := Tryz.zeroValue2
 t3 := Tryz.underlying3
 a3 := Tryz.isAgg3
 z3 := Tryz.sizeOf3
 v3 := Tryz.zeroValue3
 t4 := Tryz.underlying4
 a4 := Tryz.isAgg4
 z4 := Tryz.sizeOf4
 v4 := Tryz.zeroValue4
 t5 := Tryz.underlying5
 a5 := Tryz.isAgg5
 z5 := Tryz.sizeOf5
 v5 := Tryz.zeroValue5
 t9 := Tryz.underlying9
 a9 := Tryz.isAgg9
 z9 := Tryz.sizeOf9
 v9 := Tryz.zeroValue9
 t20 := Tryz.underlying20
 a20 := Tryz.isAgg20
 z20 := Tryz.sizeOf20
 v20 := Tryz.zeroValue20
 t37 := Tryz.underlying49
 a37 := Tryz.isAgg49
 z37 := Tryz.sizeOf49
 v37 := Tryz.zeroValue49
 t46 := Tryz.underlying135
 a46 := Tryz.isAgg135
 z46 := Tryz.sizeOf135
 v46 := Tryz.zeroValue135
 t51 := Tryz.underlying23
 a51 := Tryz.isAgg23
 z51 := Tryz.sizeOf23
 v51 := Tryz.zeroValue23
 t53 := Tryz.underlying94
 a53 := Tryz.isAgg94
 z53 := Tryz.sizeOf94
 v53 := Tryz.zeroValue94
 t171 := Tryz.underlying205
 a171 := Tryz.isAgg205
 z171 := Tryz.sizeOf205
 v171 := Tryz.zeroValue205
 t173 := Tryz.underlying208
 a173 := Tryz.isAgg208
 z173 := Tryz.sizeOf208
 v173 := Tryz.zeroValue208
 t212 := Tryz.underlying215
 a212 := Tryz.isAgg215
 z212 := Tryz.sizeOf215
 v212 := Tryz.zeroValue215
 t213 := Tryz.underlying216
 a213 := Tryz.isAgg216
 z213 := Tryz.sizeOf216
 t232 := Tryz.underlying222
 a232 := Tryz.isAgg222
 z232 := Tryz.sizeOf222
 v232 := Tryz.zeroValue222
 t233 := Tryz.underlying223
 a233 := Tryz.isAgg223
 z233 := Tryz.sizeOf223
 v233 := Tryz.zeroValue223
 g17 := by kernel_rfl
 g18 := by kernel_rfl
 g19 := by kernel_rfl
 i0 := by kernel_rfl
 i2 := by kernel_rfl
 i3 := by kernel_rfl
 i4 := by kernel_rfl
 i5 := by kernel_rfl
 i9 := by kernel_rfl
 i20 := by kernel_rfl
 i37 := by kernel_rfl
 i46 := by kernel_rfl
 i51 := by kernel_rfl
 i53 := by kernel_rfl
 i171 := by kernel_rfl
 i173 := by kernel_rfl
 i212 := by kernel_rfl
 i232 := by kernel_rfl
 i233 := by kernel_rfl
 m17 := by kernel_rfl
 m18 := by kernel_rfl
 m19 := by kernel_rfl }
open Go.RowKit Go.Sort Go.Lib in
theorem Tryz.strconv_FormatInt_10 (n : Int) (h0 : -9223372036854775808 ≤ n) (h1 : n ≤ 9223372036854775807) (w : World) (htab : Lib.TabIs Tryz.prog w "internal/strconv.uint64pow10" .u64 Lib.pow10Tab) :
  Calls Tryz.prog 97 #[.int .i64 n, .int .i64 10] w fun e w' => e = .returned (.string ⟨(Lib.itoa n).toArray⟩) ∧ ∃ k os, w' = grow (w.drewN k) os := Any.strconv_FormatInt_10 Tryz.laysM173 n h0 h1 w htab
def Tryz.laysM316_ren : Go.Shelf.Ren := ⟨fun | 316 => 131 | n => n, fun | 9 => 9 | 3 => 3 | 4 => 4 | 37 => 49 | 0 => 0 | 127 => 134 | 5 => 5 | n => n, fun | n => n⟩
theorem Tryz.laysM316 : Go.Proofs.LaysM.n316 Tryz.prog Tryz.laysM316_ren := {
 mixed := by kernel_rfl
 f316 := Tryz.func131.trans (congrArg some (by kernel_rfl))
 t0 := Tryz.underlying0
 a0 := Tryz.isAgg0
 z0 := Tryz.sizeOf0
 v0 := Tryz.zeroValue0
 t3 := Tryz.underlying3
 a3 := Tryz.isAgg3
 z3 := Tryz.sizeOf3
 v3 := Tryz.zeroValue3
 t4 := Tryz.underlying4
 a4 := Tryz.isAgg4
 z4 := Tryz.sizeOf4
 v4 := Tryz.zeroValue4
 t9 := Tryz.underlying9
 a9 := Tryz.isAgg9
 z9 := Tryz.sizeOf9
 v9 := Tryz.zeroValue9
 t37 := Tryz.underlying49
 a37 := Tryz.isAgg49
 z37 := Tryz.sizeOf49
 v37 := Tryz.zeroValue49
 t127 := Tryz.underlying134
 a127 := Tryz.isAgg134
 z127 := Tryz.sizeOf134
 v127 := Tryz.zeroValue134
 t5 := Tryz.underlying5
 a5 := Tryz.isAgg5
 z5 := Tryz.sizeOf5
 v5 := Tryz.zeroValue5
 i0 := by kernel_rfl
 i3 := by kernel_rfl
 i4 := by kernel_rfl
 i5 := by kernel_rfl
 i9 := by kernel_rfl
 i37 := by kernel_rfl
 i127 := by kernel_rfl }
open Go.RowKit in
theorem Tryz.stringslite_Clone (s : ByteArray) (w : World) (hlim : s.size ≤ 281474976710656) :
  Calls Tryz.prog 131 #[.string s] w fun e w' => e = .returned (.string s) ∧ Below w.heap.size w w' := Any.stringslite_Clone Tryz.laysM316 s w hlim
def Tryz.lays147_ren : Go.Shelf.Ren := ⟨fun | 147 => 99 | 221 => 114 | 268 => 125 | 138 => 126 | 143 => 127 | 195 => 138 | 197 => 89 | 218 => 139 | 219 => 140 | 260 => 109 | 217 => 144 | 225 => 145 | 224 => 146 | 267 => 147 | 266 => 148 | 314 => 149 | n => n, fun | 9 => 9 | 3 => 3 | 31 => 54 | 4 => 4 | 0 => 0 | 105 => 170 | 21 => 21 | 5 => 5 | 46 => 135 | 119 => 200 | 139 => 203 | 138 => 202 | 146 => 224 | 51 => 23 | n => n, fun | 1 => 5 | 3 => 2 | 4 => 3 | n => n⟩
theorem Tryz.lays147 : Go.Proofs.Lays.n147 Tryz.prog Tryz.lays147_ren := {
 mixed := by kernel_rfl
 f138 := Tryz.func126.trans (congrArg some (by kernel_rfl))
 f143 := Tryz.func127.trans (congrArg some (by kernel_rfl))
 f147 := Tryz.func99.trans (congrArg some (by kernel_rfl))
 f195 := Tryz.func138.trans (congrArg some (by kernel_rfl))
 f197 := Tryz.func89.trans (congrArg some (by kernel_rfl))
 f217 := Tryz.func144.trans (congrArg some (by kernel_rfl))
 f218 := Tryz.func139.trans (congrArg some (by kernel_rfl))
 f219 := Tryz.func140.trans (congrArg some (by kernel_rfl))
 f221 := Tryz.func114.trans (congrArg some (by kernel_rfl))
 f224 := Tryz.func146.trans (congrArg some (by kernel_rfl))
 f225 := Tryz.func145.trans (congrArg some (by kernel_rfl))
 f260 := Tryz.func109.trans (congrArg some (by kernel_rfl))
 f266 := Tryz.func148.trans (congrArg some (by kernel_rfl))
 f267 := Tryz.func147.trans (congrArg some (by kernel_rfl))
 f268 := Tryz.func125.trans (congrArg some (by kernel_rfl))
 f314 := Tryz.func149.trans (congrArg some (by kernel_rfl))
 t0 := Tryz.underlying0
 a0 := Tryz.isAgg0
 z0 := Tryz.sizeOf0
 v0 := Tryz.zeroValue0
 t3 := Tryz.underlying3
 a3 := Tryz.isAgg3
 z3 := Tryz.sizeOf3
 v3 := Tryz.zeroValue3
 t4 := Tryz.underlying4
 a4 := Tryz.isAgg4
 z4 := Tryz.sizeOf4
 v4 := Tryz.zeroValue4
 t5 := Tryz.underlying5
 a5 := Tryz.isAgg5
 z5 := Tryz.sizeOf5
 v5 := Tryz.zeroValue5
 t9 := Tryz.underlying9
 a9 := Tryz.isAgg9
 z9 := Tryz.sizeOf9
 v9 := Tryz.zeroValue9
 t21 := Tryz.underlying21
 a21 := Tryz.isAgg21
 z21 := Tryz.sizeOf21
 v21 := Tryz.zeroValue21
 t31 := Tryz.underlying54
 a31 := Tryz.isAgg54
 z31 := Tryz.sizeOf54
 v31 := Tryz.zeroValue54
 t46 := Tryz.underlying135
 a46 := Tryz.isAgg135
 z46 := Tryz.sizeOf135
 v46 := Tryz.zeroValue135
 t51 := Tryz.underlying23
 a51 := Tryz.isAgg23
 z51 := Tryz.sizeOf23
 v51 := Tryz.zeroValue23
 t105 := Tryz.underlying170
 a105 := Tryz.isAgg170
 z105 := Tryz.sizeOf170
 v105 := Tryz.zeroValue170
 t119 := Tryz.underlying200
 a119 := Tryz.isAgg200
 z119 := Tryz.sizeOf200
 t138 := Tryz.underlying202
 a138 := Tryz.isAgg202
 z138 := Tryz.sizeOf202
 v138 := Tryz.zeroValue202
 t139 := Tryz.underlying203
 a139 := Tryz.isAgg203
 z139 := Tryz.sizeOf203
 v139 := Tryz.zeroValue203
 t146 := Tryz.underlying224
 a146 := Tryz.isAgg224
 z146 := Tryz.sizeOf224
 v146 := Tryz.zeroValue224
 g1 := by kernel_rfl
 g3 := by kernel_rfl
 g4 := by kernel_rfl }
open Go.RowKit Go.Lib in
theorem Tryz.strings_SplitN (s sep : ByteArray) (n : Nat) (m : Int) (w : World) (hs : s.size < 4294967281) (hm : w.cell? ⟨5, 0, none⟩ = some (.int .i64 m)) (h1 : 1 ≤ sep.size) (hn : 1 ≤ n) (hn63 : n ≤ 9223372036854775807) :
  Calls Tryz.prog 99 #[.string s, .string sep, .int .i64 n] w fun e w' =>
   e = .returned (.slice (some ⟨w.heap.size, 0, none⟩) (Lib.splitB sep 0 (min n (s.size + 1) - 1) s).length (min n (s.size + 1))) ∧ w' = w.alloc (.cells (Lib.cellsOf (Lib.splitB sep 0 (min n (s.size + 1) - 1) s) (min n (s.size + 1))) 9) := Any.strings_SplitN Tryz.lays147 (by kernel_rfl) s sep n m w hs hm h1 hn hn63
def Tryz.lays197_ren : Go.Shelf.Ren := ⟨fun | 197 => 89 | 260 => 109 | n => n, fun | 9 => 9 | 21 => 21 | 3 => 3 | 4 => 4 | 5 => 5 | 105 => 170 | 119 => 200 | 0 => 0 | 46 => 135 | 139 => 203 | 138 => 202 | n => n, fun | 3 => 2 | 4 => 3 | n => n⟩
theorem Tryz.lays197 : Go.Proofs.Lays.n197 Tryz.prog Tryz.lays197_ren := {
 mixed := by kernel_rfl
 f197 := Tryz.func89.trans (congrArg some (by kernel_rfl))
 f260 := Tryz.func109.trans (congrArg some (by kernel_rfl))
 t0 := Tryz.underlying0
 a0 := Tryz.isAgg0
 z0 := Tryz.sizeOf0
 v0 := Tryz.zeroValue0
 t3 := Tryz.underlying3
 a3 := Tryz.isAgg3
 z3 := Tryz.sizeOf3
 v3 := Tryz.zeroValue3
 t4 := Tryz.underlying4
 a4 := Tryz.isAgg4
 z4 := Tryz.sizeOf4
 v4 := Tryz.zeroValue4
 t5 := Tryz.underlying5
 a5 := Tryz.isAgg5
 z5 := Tryz.sizeOf5
 v5 := Tryz.zeroValue5
 t9 := Tryz.underlying9
 a9 := Tryz.isAgg9
 z9 := Tryz.sizeOf9
 v9 := Tryz.zeroValue9
 t21 := Tryz.underlying21
 a21 := Tryz.isAgg21
 z21 := Tryz.sizeOf21
 v21 := Tryz.zeroValue21
 t46 := Tryz.underlying135
 a46 := Tryz.isAgg135
 z46 := Tryz.sizeOf135
 v46 := Tryz.zeroValue135
 t105 := Tryz.underlying170
 a105 := Tryz.isAgg170
 z105 := Tryz.sizeOf170
 v105 := Tryz.zeroValue170
 t119 := Tryz.underlying200
 a119 := Tryz.isAgg200
 z119 := Tryz.sizeOf200
 t138 := Tryz.underlying202
 a138 := Tryz.isAgg202
 z138 := Tryz.sizeOf202
 v138 := Tryz.zeroValue202
 t139 := Tryz.underlying203
 a139 := Tryz.isAgg203
 z139 := Tryz.sizeOf203
 v139 := Tryz.zeroValue203
 g3 := by kernel_rfl
 g4 := by kernel_rfl }
open Go.RowKit Go.Lib in
theorem Tryz.utf8_DecodeRuneInString (s : ByteArray) (w : World) (hT : Lib.Utf8Tabs 2 3 w) :
  Calls Tryz.prog 89 #[.string s] w fun e w' => e = .returned (.tuple #[.int .i32 (Lib.decodeGo s).1, .int .i64 (Lib.decodeGo s).2]) ∧ Below w.heap.size w w' := Any.utf8_DecodeRuneInString Tryz.lays197 s w hT
def Tryz.lays196_ren : Go.Shelf.Ren := ⟨fun | 196 => 128 | 259 => 141 | n => n, fun | 9 => 9 | 4 => 4 | 3 => 3 | 5 => 5 | 12 => 12 | 119 => 200 | 0 => 0 | 46 => 135 | 139 => 203 | 138 => 202 | 53 => 94 | n => n, fun | 3 => 2 | 4 => 3 | n => n⟩
theorem Tryz.lays196 : Go.Proofs.Lays.n196 Tryz.prog Tryz.lays196_ren := {
 mixed := by kernel_rfl
 f196 := Tryz.func128.trans (congrArg some (by kernel_rfl))
 f259 := Tryz.func141.trans (congrArg some (by kernel_rfl))
 t0 := Tryz.underlying0
 a0 := Tryz.isAgg0
 z0 := Tryz.sizeOf0
 v0 := Tryz.zeroValue0
 t3 := Tryz.underlying3
 a3 := Tryz.isAgg3
 z3 := Tryz.sizeOf3
 v3 := Tryz.zeroValue3
 t4 := Tryz.underlying4
 a4 := Tryz.isAgg4
 z4 := Tryz.sizeOf4
 v4 := Tryz.zeroValue4
 t5 := Tryz.underlying5
 a5 := Tryz.isAgg5
 z5 := Tryz.sizeOf5
 v5 := Tryz.zeroValue5
 t9 := Tryz.underlying9
 a9 := Tryz.isAgg9
 z9 := Tryz.sizeOf9
 v9 := Tryz.zeroValue9
 t12 := Tryz.underlying12
 a12 := Tryz.isAgg12
 z12 := Tryz.sizeOf12
 v12 := Tryz.zeroValue12
 t46 := Tryz.underlying135
 a46 := Tryz.isAgg135
 z46 := Tryz.sizeOf135
 v46 := Tryz.zeroValue135
 t53 := Tryz.underlying94
 a53 := Tryz.isAgg94
 z53 := Tryz.sizeOf94
 v53 := Tryz.zeroValue94
 t119 := Tryz.underlying200
 a119 := Tryz.isAgg200
 z119 := Tryz.sizeOf200
 t138 := Tryz.underlying202
 a138 := Tryz.isAgg202
 z138 := Tryz.sizeOf202
 v138 := Tryz.zeroValue202
 t139 := Tryz.underlying203
 a139 := Tryz.isAgg203
 z139 := Tryz.sizeOf203
 v139 := Tryz.zeroValue203
 g3 := by kernel_rfl
 g4 := by kernel_rfl }
end Go.Proofs
namespace Go.Proofs.YtneciccdiledfaaGreatDoor
namespace Ad
def numGo (most : Nat) : Nat → List UInt8 → Option Nat
 | n, [] => some n
 | n, b :: l => if 48 ≤ b.toNat ∧ b.toNat ≤ 57 then (if most < 10 * n + (b.toNat - 48) then none else numGo most (10 * n + (b.toNat - 48)) l) else none
def num (l : List UInt8) (most : Nat) : Option Nat := if l = [] ∨ (1 < l.length ∧ l.head? = some 48) then none else numGo most 0 l
def nv (o : Option Nat) : Int := ((o.getD 0 : Nat) : Int)
def ne (o : Option Nat) : Int := if o.isSome then 0 else 60
theorem nv_none : nv none = 0 := rfl
theorem ne_none : ne none = 60 := rfl
theorem nv_some (n : Nat) : nv (some n) = n := rfl
theorem ne_some (n : Nat) : ne (some n) = 0 := rfl
theorem numGo_le {most : Nat} : ∀ {l : List UInt8} {n r : Nat}, n ≤ most → numGo most n l = some r → r ≤ most
 | [], n, r, h, e => by simp only [numGo, Option.some.injEq] at e; omega
 | b :: l, n, r, h, e => by
  unfold numGo at e
  split at e
  ·split at e
   ·cases e
   ·exact numGo_le (by omega) e
  ·cases e
theorem num_le {most : Nat} {l : List UInt8} {r : Nat} (e : num l most = some r) : r ≤ most := by
 unfold num at e
 split at e
 ·cases e
 ·exact numGo_le (Nat.zero_le _) e
theorem nv_bounds (l : List UInt8) (most : Nat) : 0 ≤ nv (num l most) ∧ nv (num l most) ≤ most := by
 cases h : num l most with
 | none => simp [nv]
 | some r => have := num_le h; simp only [nv, Option.getD_some]; omega
theorem numGo_stop {most n : Nat} {b : UInt8} {l : List UInt8} (h : ¬ (48 ≤ b.toNat ∧ b.toNat ≤ 57)) : numGo most n (b :: l) = none := by
 rw [numGo, if_neg h]
theorem numGo_over {most n : Nat} {b : UInt8} {l : List UInt8} (h : 48 ≤ b.toNat ∧ b.toNat ≤ 57) (h2 : most < 10 * n + (b.toNat - 48)) : numGo most n (b :: l) = none := by
 rw [numGo, if_pos h, if_pos h2]
theorem numGo_on {most n : Nat} {b : UInt8} {l : List UInt8} (h : 48 ≤ b.toNat ∧ b.toNat ≤ 57) (h2 : ¬ most < 10 * n + (b.toNat - 48)) : numGo most n (b :: l) = numGo most (10 * n + (b.toNat - 48)) l := by
 rw [numGo, if_pos h, if_neg h2]
theorem drop_cons (s : ByteArray) (i : Nat) (h : i < s.size) : s.data.toList.drop i = s[i]'h :: s.data.toList.drop (i + 1) := by
 have hl : i < s.data.toList.length := by rw [Array.length_toList]; exact h
 rw [List.drop_eq_getElem_cons hl]
 congr 1
theorem drop_end (s : ByteArray) (i : Nat) (h : ¬ i < s.size) : s.data.toList.drop i = [] := by
 apply List.drop_eq_nil_of_le
 rw [Array.length_toList]; show s.size ≤ i; omega
def hx (n : Nat) : Option Nat := if 48 ≤ n ∧ n ≤ 57 then some (n - 48) else if 97 ≤ n ∧ n ≤ 102 then some (n - 87) else none
def hdg (n : Nat) : Nat := if n < 10 then 48 + n else 87 + n
theorem hx_hdg {n : Nat} (h : n < 16) : hx (hdg n) = some n := by
 unfold hx hdg
 by_cases h1 : n < 10
 ·rw [if_pos h1, if_pos (by omega)]; congr 1; omega
 ·rw [if_neg h1, if_neg (by omega), if_pos (by omega)]; congr 1; omega
theorem hx_some {n v : Nat} (h : hx n = some v) : v < 16 ∧ n = hdg v := by
 unfold hx at h
 unfold hdg
 split at h
 ·have := Option.some.inj h; split <;> omega
 ·split at h
  ·have := Option.some.inj h; split <;> omega
  ·cases h
theorem hx_none {n : Nat} (h : ∀ j, j < 16 → n ≠ hdg j) : hx n = none := by
 cases e : hx n with
 | none => rfl
 | some v => obtain ⟨a, b⟩ := hx_some e; exact absurd b (h v a)
theorem hx_high {n : Nat} (h : 128 ≤ n) : hx n = none := by
 unfold hx; rw [if_neg (by omega), if_neg (by omega)]
def two : List UInt8 → Option Nat
 | [a, b] => match hx a.toNat, hx b.toNat with
  | some x, some y => some (16 * x + y)
  | _, _ => none
 | _ => none
theorem two_len {l : List UInt8} (h : l.length ≠ 2) : two l = none := by
 match l, h with
 | [], _ => rfl
 | [_], _ => rfl
 | [_, _], h => exact absurd rfl h
 | _ :: _ :: _ :: _, _ => rfl
theorem two_lt {l : List UInt8} {v : Nat} (h : two l = some v) : v < 256 := by
 unfold two at h
 split at h
 ·split at h
  ·rename_i x y e1 e2
   have a := (hx_some e1).1
   have b := (hx_some e2).1
   have := Option.some.inj h
   omega
  ·cases h
 ·cases h
def twov : List UInt8 → Nat
 | [a, b] => 16 * (hx a.toNat).getD 0 + (hx b.toNat).getD 0
 | _ => 0
theorem twov_of {l : List UInt8} {v : Nat} (h : two l = some v) : twov l = v := by
 unfold two at h
 split at h
 ·split at h
  ·rename_i x y e1 e2
   have := Option.some.inj h
   simp [twov, e1, e2, this]
  ·cases h
 ·cases h
theorem two_some (a b : UInt8) : (two [a, b]).isSome = ((hx a.toNat).isSome && (hx b.toNat).isSome) := by
 cases h1 : hx a.toNat <;> cases h2 : hx b.toNat <;> simp [two, h1, h2]
theorem sub_text (s : ByteArray) (i j : Nat) : (s.extract i j).data.toList = (s.data.toList.drop i).take (j - i) := Lib.extract_data s i j
theorem text_len (s : ByteArray) : s.data.toList.length = s.size := by rw [Array.length_toList]; rfl
def rhGo (off : Nat) : Nat → List UInt8 → List Int → Bool × List Int
 | _, [], l => (true, l)
 | k, b :: t, l => match hx b.toNat with
  | none => (false, l)
  | some d => rhGo off (k + 1) t (l.set (off + k / 2) (l.getD (off + k / 2) 0 * 16 % 256 + d))
def rh (s : List UInt8) (off m : Nat) (l : List Int) : Bool × List Int := if s.length = 2 * m then rhGo off 0 s l else (false, l)
theorem rhGo_nil (off k : Nat) (l : List Int) : rhGo off k [] l = (true, l) := rfl
theorem rhGo_stop {off k : Nat} {b : UInt8} {t : List UInt8} {l : List Int} (h : hx b.toNat = none) : rhGo off k (b :: t) l = (false, l) := by rw [rhGo, h]
theorem rhGo_on {off k d : Nat} {b : UInt8} {t : List UInt8} {l : List Int} (h : hx b.toNat = some d) : rhGo off k (b :: t) l = rhGo off (k + 1) t (l.set (off + k / 2) (l.getD (off + k / 2) 0 * 16 % 256 + d)) := by rw [rhGo, h]
def twos : List UInt8 → Option (List Int)
 | [] => some []
 | [_] => none
 | a :: b :: t => match two [a, b], twos t with
  | some x, some r => some ((x : Int) :: r)
  | _, _ => none
def key (s : List UInt8) : Option (List Int) := if s.length = 16 then twos s else none
theorem twos_len : ∀ {t : List UInt8} {r : List Int}, twos t = some r → 2 * r.length = t.length
 | [], r, h => by simp only [twos, Option.some.injEq] at h; subst h; rfl
 | [_], r, h => by simp [twos] at h
 | a :: b :: t, r, h => by
  unfold twos at h
  split at h
  ·rename_i x r' e1 e2
   have := twos_len e2
   obtain rfl := Option.some.inj h
   simp only [List.length_cons]; omega
  ·cases h
theorem set_parts {l : List Int} {i : Nat} (h : i < l.length) (x : Int) (r : List Int) : (l.set i x).take (i + 1) ++ r ++ (l.set i x).drop (i + 1 + r.length) = l.take i ++ (x :: r) ++ l.drop (i + (x :: r).length) := by
 have e1 : (l.set i x).take (i + 1) = l.take i ++ [x] := by
  rw [List.take_add_one, List.take_set_of_le (Nat.le_refl _)]
  simp [h]
 have e2 : (l.set i x).drop (i + 1 + r.length) = l.drop (i + (x :: r).length) := by
  rw [List.drop_set_of_lt (by omega), List.length_cons]; congr 1; omega
 rw [e1, e2]; simp
theorem rhGo_two {off k : Nat} {a b : UInt8} {t : List UInt8} {l : List Int} (h0 : l.getD (off + k) 0 = 0) (hl : off + k < l.length) :
  (∃ x, two [a, b] = some x ∧ rhGo off (2 * k) (a :: b :: t) l = rhGo off (2 * (k + 1)) t (l.set (off + k) (x : Int))) ∨ (two [a, b] = none ∧ (rhGo off (2 * k) (a :: b :: t) l).1 = false) := by
 have k1 : 2 * k / 2 = k := by omega
 have k2 : (2 * k + 1) / 2 = k := by omega
 cases h1 : hx a.toNat with
 | none => exact Or.inr ⟨by simp [two, h1], by rw [rhGo_stop h1]⟩
 | some x =>
  have x16 := (hx_some h1).1
  rw [rhGo_on h1, k1, h0]
  cases h2 : hx b.toNat with
  | none => exact Or.inr ⟨by simp [two, h2], by rw [rhGo_stop h2]⟩
  | some y =>
   refine Or.inl ⟨16 * x + y, by simp [two, h1, h2], ?_⟩
   rw [rhGo_on h2, k2, List.set_set]
   have e : (l.set (off + k) (0 * 16 % 256 + (x : Int))).getD (off + k) 0 = x := by simp [List.getD, hl]
   rw [e, show 2 * k + 1 + 1 = 2 * (k + 1) by omega, show ((x : Int) * 16 % 256 + (y : Int)) = ((16 * x + y : Nat) : Int) by omega]
theorem rhGo_twos (off : Nat) : ∀ (t : List UInt8) (k : Nat) (l : List Int), (∀ j, k ≤ j → l.getD (off + j) 0 = 0) → 2 * (l.length - (off + k)) ≥ t.length → off + k ≤ l.length →
  (∀ r, twos t = some r → rhGo off (2 * k) t l = (true, l.take (off + k) ++ r ++ l.drop (off + k + r.length))) ∧ (twos t = none → t.length % 2 = 0 → (rhGo off (2 * k) t l).1 = false)
 | [], k, l, hz, hlen, hk => by
  refine ⟨fun r h => ?_, fun h => by simp [twos] at h⟩
  simp only [twos, Option.some.injEq] at h
  subst h
  simp [rhGo_nil]
 | [_], k, l, hz, hlen, hk => ⟨fun r h => by simp [twos] at h, fun _ h => by simp at h⟩
 | a :: b :: t, k, l, hz, hlen, hk => by
  simp only [List.length_cons] at hlen
  have hkl : off + k < l.length := by omega
  rcases rhGo_two (a := a) (b := b) (t := t) (hz k (Nat.le_refl _)) hkl with ⟨x, e1, e2⟩ | ⟨e1, e2⟩
  ·have hz' : ∀ j, k + 1 ≤ j → (l.set (off + k) (x : Int)).getD (off + j) 0 = 0 := by
    intro j hj
    have := hz j (by omega)
    simpa [List.getD, List.getElem?_set_ne (show off + k ≠ off + j by omega)] using this
   obtain ⟨ih1, ih2⟩ := rhGo_twos off t (k + 1) (l.set (off + k) (x : Int)) hz' (by rw [List.length_set]; omega) (by rw [List.length_set]; omega)
   refine ⟨fun r h => ?_, fun h hm => ?_⟩
   ·unfold twos at h
    rw [e1] at h
    cases e3 : twos t with
    | none => rw [e3] at h; cases h
    | some r' =>
     rw [e3] at h
     obtain rfl := Option.some.inj h
     rw [e2, ih1 r' e3, ← Nat.add_assoc, set_parts hkl]
   ·rw [e2]
    apply ih2
    ·unfold twos at h
     rw [e1] at h
     cases e3 : twos t with
     | none => rfl
     | some r' => rw [e3] at h; cases h
    ·simp only [List.length_cons] at hm; omega
  ·refine ⟨fun r h => ?_, fun _ _ => e2⟩
   unfold twos at h
   rw [e1] at h
   cases h
theorem twos_cons {a b : UInt8} {t : List UInt8} : twos (a :: b :: t) = (match two [a, b], twos t with | some x, some r => some ((x : Int) :: r) | _, _ => none) := by rw [twos]
theorem twos_none {a b : UInt8} {t : List UInt8} (h : two [a, b] = none) : twos (a :: b :: t) = none := by rw [twos_cons, h]
theorem twos_some {a b : UInt8} {t : List UInt8} {x : Nat} (h : two [a, b] = some x) : twos (a :: b :: t) = (twos t).map ((x : Int) :: ·) := by
 rw [twos_cons, h]
 cases twos t <;> rfl
theorem rh_key (s : List UInt8) : (∀ r, key s = some r → rh s 0 8 [0, 0, 0, 0, 0, 0, 0, 0] = (true, r) ∧ r.length = 8) ∧ (key s = none → (rh s 0 8 [0, 0, 0, 0, 0, 0, 0, 0]).1 = false) := by
 unfold key rh
 by_cases h : s.length = 16
 ·rw [if_pos h, if_pos (by omega)]
  have hz : ∀ j, 0 ≤ j → ([0, 0, 0, 0, 0, 0, 0, 0] : List Int).getD (0 + j) 0 = 0 := by
   intro j _
   match j with
   | 0 | 1 | 2 | 3 | 4 | 5 | 6 | 7 => rfl
   | j + 8 => simp
  obtain ⟨h1, h2⟩ := rhGo_twos 0 s 0 [0, 0, 0, 0, 0, 0, 0, 0] hz (by simp [h]) (by simp)
  refine ⟨fun r e => ?_, fun e => h2 e (by omega)⟩
  have hl := twos_len e
  have h8 : r.length = 8 := by omega
  refine ⟨?_, h8⟩
  have := h1 r e
  rw [this, h8]
  simp
 ·rw [if_neg h, if_neg (by omega)]
  exact ⟨fun r e => (by cases e), fun _ => rfl⟩
theorem eight {r : List Int} (h : r.length = 8) : ∃ a b c d e f g i, r = [a, b, c, d, e, f, g, i] := by
 match r, h with
 | [a, b, c, d, e, f, g, i], _ => exact ⟨a, b, c, d, e, f, g, i, rfl⟩
theorem six {r : List Int} (h : r.length = 6) : ∃ a b c d e f, r = [a, b, c, d, e, f] := by
 match r, h with
 | [a, b, c, d, e, f], _ => exact ⟨a, b, c, d, e, f, rfl⟩
end Ad
end Go.Proofs.YtneciccdiledfaaGreatDoor
namespace Go.Proofs.YtneciccdiledfaaGreatDoor
namespace Sm
theorem wraps_u32 (n : Int) (h0 : 0 ≤ n) (h1 : n < 2 ^ 32) : IntKind.u32.wrap n = n := by rw [IntKind.wrap_u32]; omega
def foldv (s : Int) : Int := if s = 0 then 0 else (s - 1) % 65535 + 1
theorem foldv_range (s : Int) : 0 ≤ foldv s ∧ foldv s ≤ 65535 := by unfold foldv; split <;> omega
theorem foldv_eq (s t : Int) (h : (s - t) % 65535 = 0) (hz : s = 0 ↔ t = 0) : foldv s = foldv t := by
 unfold foldv
 by_cases e : s = 0
 ·rw [if_pos e, if_pos (hz.1 e)]
 ·rw [if_neg e, if_neg (fun c => e (hz.2 c))]; omega
def wd (l : List Int) (i : Nat) : Int := l.getD (2 * i) 0 * 256 + l.getD (2 * i + 1) 0
def IsBytes (l : List Int) : Prop := ∀ i : Nat, 0 ≤ l.getD i 0 ∧ l.getD i 0 ≤ 255
theorem wd_range {l : List Int} (h : IsBytes l) (i : Nat) : 0 ≤ wd l i ∧ wd l i ≤ 65535 := by
 have a := h (2 * i); have b := h (2 * i + 1); unfold wd; omega
def addc (s w : Int) : Int := if s + w ≤ 4294967295 then s + w else s + w - 4294967295
theorem addc_range (s w : Int) (h0 : 0 ≤ s) (h1 : s ≤ 4294967295) (h2 : 0 ≤ w) (h3 : w ≤ 65535) : 0 ≤ addc s w ∧ addc s w ≤ 4294967295 := by
 unfold addc; split <;> omega
def acc (l : List Int) (s : Int) : Nat → Int
 | 0 => s
 | k + 1 => addc (acc l s k) (wd l k)
theorem acc_range {l : List Int} (hl : IsBytes l) (s : Int) (h0 : 0 ≤ s) (h1 : s ≤ 4294967295) (k : Nat) : 0 ≤ acc l s k ∧ acc l s k ≤ 4294967295 := by
 induction k with
 | zero => exact ⟨h0, h1⟩
 | succ k ih => have := wd_range hl k; exact addc_range _ _ ih.1 ih.2 this.1 this.2
def tot (l : List Int) : Nat → Int
 | 0 => 0
 | k + 1 => tot l k + wd l k
theorem tot_succ (l : List Int) (k : Nat) : tot l (k + 1) = tot l k + wd l k := rfl
theorem tot_nonneg {l : List Int} (hl : IsBytes l) (k : Nat) : 0 ≤ tot l k := by
 induction k with
 | zero => simp [tot]
 | succ k ih => have := wd_range hl k; simp only [tot]; omega
theorem acc_tot {l : List Int} (hl : IsBytes l) (s : Int) (h0 : 0 ≤ s) (h1 : s ≤ 4294967295) (k : Nat) :
  (acc l s k - (s + tot l k)) % 65535 = 0 ∧ (acc l s k = 0 ↔ s + tot l k = 0) := by
 induction k with
 | zero => simp [acc, tot]
 | succ k ih =>
  have a := wd_range hl k; have b := acc_range hl s h0 h1 k; have c := tot_nonneg hl k
  simp only [acc, tot, addc]
  split <;> omega
theorem foldv_acc {l : List Int} (hl : IsBytes l) (s : Int) (h0 : 0 ≤ s) (h1 : s ≤ 4294967295) (k : Nat) : foldv (acc l s k) = foldv (s + tot l k) :=
 foldv_eq _ _ (acc_tot hl s h0 h1 k).1 (acc_tot hl s h0 h1 k).2
def cnt (n : Nat) : Nat := n / 2 + n % 2
def ofv (l : List Int) : Int := 65535 - foldv (tot l (cnt l.length))
theorem ofv_range (l : List Int) : 0 ≤ ofv l ∧ ofv l ≤ 65535 := by have := foldv_range (tot l (cnt l.length)); unfold ofv; omega
end Sm
end Go.Proofs.YtneciccdiledfaaGreatDoor
