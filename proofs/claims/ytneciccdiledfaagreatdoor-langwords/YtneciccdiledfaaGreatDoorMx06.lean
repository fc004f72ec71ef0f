/-
  Hexadecimal digits: the program's hexValue and readHex, and the document's own hex and two.
  The document's own parts of a text, between a sign.
  Of no one layer: words of two and four bytes, a block of bytes into which numbers are written, a struct's box and a row of bytes behind it that grows, and what integers and bytes that come in are.
-/
import Derived.Test.YtneciccdiledfaaGreatDoorMx02
import Derived.Test.YtneciccdiledfaaGreatDoorMx05
import Derived.Lib.OthersKept
import Derived.ProofKit
import Derived.OpenShut
import Derived.Lib.SmallJoins
set_option linter.unusedVariables false
namespace Go.Proofs.YtneciccdiledfaaGreatDoor
open Go.RowKit
open Ad
abbrev hexS : ByteArray := ⟨#[48, 49, 50, 51, 52, 53, 54, 55, 56, 57, 97, 98, 99, 100, 101, 102]⟩
theorem hexS_fin : ∀ p : Fin 16, (hexS.data[p.val]'p.isLt).toNat = hdg p.val := by decide
theorem hexS_at (pos : Nat) (h : pos < hexS.size) : (hexS[pos]'h).toNat = hdg pos := hexS_fin ⟨pos, h⟩
theorem hdg_lt {n : Nat} (h : n < 16) : hdg n < 128 := by unfold hdg; split <;> omega
set_option maxHeartbeats 4000000 in
set_option maxRecDepth 20000 in
theorem hexValue_any (r : Nat) (w : World) :
  Calls Tryz.prog 116 #[.int .i32 (r : Int)] w fun e w' => e = .returned (.tuple #[.int .u8 (((hx r).getD 0 : Nat) : Int), .bool (hx r).isSome]) ∧ Below w.heap.size w w' := by
 obtain ⟨R, hR⟩ : ∃ R, hx r = R := ⟨_, rfl⟩
 rw [hR]
 go_enter Tryz.func116, Tryz.ntmps116
 go_wp2_with fail
 go_loopw [] (fun w' => ∃ (pos : Nat), w' = w.iter hexS pos ∧ pos ≤ 16 ∧ ∀ j, j < pos → r ≠ hdg j) (fun w' => 16 - w'.iterPos w.heap.size)
 case atStart => exact ⟨0, rfl, by omega, fun j hj => by omega⟩
 case round =>
  obtain ⟨pos, rfl, hp16, hno⟩ := hrel
  by_cases hp : pos < 16
  ·have hp' : pos < hexS.size := hp
   have hat := hexS_at pos hp'
   have hlt := hdg_lt hp
   have hnx : ∀ ty, (Instr.next (.pointer (some ⟨w.heap.size, 0, none⟩)) true ty).run Tryz.prog (w.iter hexS pos) = .ok (.tuple #[.bool true, .int .i64 pos, .int .i32 (hdg pos : Nat)]) (w.iter hexS (pos + 1)) := fun ty => by
    rw [run_next_ascii w hexS pos ty hp' (by omega), hat]
   by_cases he : r = hdg pos
   ·have hbe : ((r : Int) == ((hdg pos : Nat) : Int)) = true := by simp [he]
    have hRv : R = some pos := by rw [← hR, he, hx_hdg hp]
    subst hRv
    have e1 : IntKind.u8.wrap (pos : Int) = pos := wrap8u (by omega) (by omega)
    clear hR he hat
    generalize hdg pos = D at hnx hbe hlt
    go_wp2_with fail
    exact bodyPost_ret (v := .tuple #[.int .u8 pos, .bool true]) (by simp [results, Tryz.results116, go_sem]) rfl ⟨rfl, iter_below _ _ _⟩
   ·have hbe : ((r : Int) == ((hdg pos : Nat) : Int)) = false := by simp; omega
    have hno' : ∀ j, j < pos + 1 → r ≠ hdg j := fun j hj => by
     by_cases e : j = pos
     ·rw [e]; exact he
     ·exact hno j (by omega)
    clear he hat hno
    generalize hdg pos = D at hnx hbe hlt
    go_wp2_with fail
    go_roundw
    case rel => exact ⟨pos + 1, rfl, by omega, hno'⟩
    case measure => simp; omega
  ·have hp' : ¬ pos < hexS.size := hp
   have hnx : ∀ ty, (Instr.next (.pointer (some ⟨w.heap.size, 0, none⟩)) true ty).run Tryz.prog (w.iter hexS pos) = _ := fun ty => run_next_end w hexS pos ty hp'
   have hRv : R = none := by rw [← hR]; exact hx_none (fun j hj => hno j (by omega))
   subst hRv
   clear hR hno
   go_wp2_with fail
   exact bodyPost_ret (v := .tuple #[.int .u8 0, .bool false]) (by simp [results, Tryz.results116, go_sem]) rfl ⟨rfl, iter_below _ _ _⟩
theorem rhex_any (c : Nat) (hc : c < 256) (w : World) :
  Calls Tryz.prog 108 #[.int .u8 (c : Int)] w fun e w' => e = .returned (.tuple #[.int .u8 (((hx c).getD 0 : Nat) : Int), .bool (hx c).isSome]) ∧ w = w' := by
 unfold hx
 by_cases h1 : 48 ≤ c ∧ c ≤ 57
 ·rw [if_pos h1]
  have d1 : (48 : Int) ≤ c := by omega
  have d2 : (c : Int) ≤ 57 := by omega
  have e1 : IntKind.u8.wrap ((c : Int) - 48) = (c : Int) - 48 := wrap8u (by omega) (by omega)
  go_enter Tryz.func108, Tryz.ntmps108
  go_wp2_with fail
  exact bodyPost_ret (v := .tuple #[.int .u8 ((c : Int) - 48), .bool true]) (by simp [results, Tryz.results108, go_sem]) rfl ⟨by rw [Option.getD_some, show (((c - 48 : Nat)) : Int) = (c : Int) - 48 by omega]; rfl, rfl⟩
 ·rw [if_neg h1]
  by_cases h2 : 97 ≤ c ∧ c ≤ 102
  ·rw [if_pos h2]
   have d1 : (48 : Int) ≤ c := by omega
   have d2 : ¬ (c : Int) ≤ 57 := by omega
   have d3 : (97 : Int) ≤ c := by omega
   have d4 : (c : Int) ≤ 102 := by omega
   have e1 : IntKind.u8.wrap ((c : Int) - 97) = (c : Int) - 97 := wrap8u (by omega) (by omega)
   have e2 : IntKind.u8.wrap ((c : Int) - 97 + 10) = (c : Int) - 97 + 10 := wrap8u (by omega) (by omega)
   go_enter Tryz.func108, Tryz.ntmps108
   go_wp2_with fail
   exact bodyPost_ret (v := .tuple #[.int .u8 ((c : Int) - 97 + 10), .bool true]) (by simp [results, Tryz.results108, go_sem]) rfl ⟨by rw [show (((c - 87 : Nat)) : Int) = (c : Int) - 97 + 10 by omega], rfl⟩
  ·rw [if_neg h2]
   have hno : (¬ (48 : Int) ≤ c) ∨ ((48 : Int) ≤ c ∧ ¬ (c : Int) ≤ 57 ∧ ¬ (97 : Int) ≤ c) ∨ ((48 : Int) ≤ c ∧ ¬ (c : Int) ≤ 57 ∧ (97 : Int) ≤ c ∧ ¬ (c : Int) ≤ 102) := by omega
   rcases hno with d1 | ⟨d1, d2, d3⟩ | ⟨d1, d2, d3, d4⟩
   ·have d3 : ¬ (97 : Int) ≤ c := by omega
    go_enter Tryz.func108, Tryz.ntmps108
    go_wp2_with fail
    exact bodyPost_ret (v := .tuple #[.int .u8 0, .bool false]) (by simp [results, Tryz.results108, go_sem]) rfl ⟨rfl, rfl⟩
   ·go_enter Tryz.func108, Tryz.ntmps108
    go_wp2_with fail
    exact bodyPost_ret (v := .tuple #[.int .u8 0, .bool false]) (by simp [results, Tryz.results108, go_sem]) rfl ⟨rfl, rfl⟩
   ·go_enter Tryz.func108, Tryz.ntmps108
    go_wp2_with fail
    exact bodyPost_ret (v := .tuple #[.int .u8 0, .bool false]) (by simp [results, Tryz.results108, go_sem]) rfl ⟨rfl, rfl⟩
end Go.Proofs.YtneciccdiledfaaGreatDoor
namespace Go.Proofs.YtneciccdiledfaaGreatDoor
open Go.RowKit
open Ad
theorem info_str : (Tryz.prog.info? 9).map (fun i => (i.zero, i.size, i.bytes)) = some (some (.string ⟨#[]⟩), 1, 16) := by kernel_rfl
theorem wpList_append_str (w : World) {ops : Array Oper} {rest : List Oper} {o : Oper} {a : Act} {Q : Exit → Act → World → Prop} (hgd : o.guard = none)
  (s x : Operand) (ho : o.op = Op.call { callee := Callee.builtin Builtin.append, args := #[s, x], argTypes := #[54, 54] }) (base : Nat)
  (v : Value) (n : Nat) (xs : List Value) (hs : a.eval s = v) (hown : w.ownsRow base 9 1 v n xs) (ad : Addr) (c : Nat) (t : ByteArray)
  (hx : a.eval x = .slice (some ad) 1 c) (hc : w.cell? ad = some (.string t)) (hbd : n ≤ 100000) (hbase : base ≤ w.heap.size)
  (h : ∀ (v' : Value) (w' : World), w'.ownsRow base 9 1 v' (n + 1) (xs ++ [.string t]) → w.grownBy w' v.ownBlock → wpList Tryz.prog ops Q rest (a.put o.dst v') w') :
  wpList Tryz.prog ops Q (o :: rest) a w := by
 obtain ⟨i0, hi, hz0, hz1, hz2⟩ := info_parts info_str
 refine wpList_append_own w hgd s x 54 ho base 9 i0 (.string ⟨#[]⟩) 1 16 Tryz.underlying54 hi hz0 hz1 hz2 rfl (by decide) v n xs hs hown ad 1 c [.string t] hx (by simp) ?_ (by simp [Value.oneCell']) (by unfold maxLen; omega) (by omega) hbase ?_
 ·intro j u hj
  match j, hj with
  | 0, hj =>
   simp at hj
   subst hj
   simpa [Addr.add] using hc
  | j + 1, hj => simp at hj
 ·intro v' w' h1 h2 _
  exact h v' w' h1 h2
def strs (l : List (List UInt8)) : List Value := l.map fun p => .string ⟨p.toArray⟩
theorem own_str {w : World} {B : Nat} {v : Value} {n : Nat} {l : List (List UInt8)} (h : w.ownsRow B 9 1 v n (strs l)) (hn : 0 < n) :
  ∃ g cap, v = .slice (some ⟨g, 0, none⟩) n cap ∧ n ≤ cap ∧ ∀ (j : Nat) x, l[j]? = some x → w.cell? ⟨g, j, none⟩ = some (.string ⟨x.toArray⟩) := by
 have h0 := h
 rcases h.2 with ⟨rfl, e⟩ | ⟨g, cap, cur, rfl, hb, hg, hc, hm, hsz, hx⟩
 ·omega
 ·refine ⟨g, cap, rfl, by omega, fun j x hj => ?_⟩
  have := h0.cells (g := g) rfl j (.string ⟨x.toArray⟩) (by simp [strs, hj])
  by_cases e : j = 0
  ·subst e; simpa [Addr.add] using this
  ·simpa [Addr.add, e] using this
set_option maxHeartbeats 4000000 in
set_option maxRecDepth 20000 in
theorem rparts_any (s : ByteArray) (c : UInt8) (hs : s.size ≤ 40000) (w : World) :
  Calls Tryz.prog 87 #[.string s, .int .u8 (c.toNat : Int)] w fun e w' => ∃ g cap, e = .returned (.slice (some ⟨g, 0, none⟩) (cut c s.data.toList).length cap) ∧ (cut c s.data.toList).length ≤ cap ∧
   (∀ (j : Nat) x, (cut c s.data.toList)[j]? = some x → w'.cell? ⟨g, j, none⟩ = some (.string ⟨x.toArray⟩)) ∧ Below w.heap.size w w' := by
 obtain ⟨A, hA⟩ : ∃ A, cut c s.data.toList = A := ⟨_, rfl⟩
 have hApos : 0 < A.length := hA ▸ cut_pos c _
 have hAle : A.length ≤ s.size + 1 := by have := cut_len_le c s.data.toList; rw [hA, text_len] at this; exact this
 rw [hA]
 go_enter Tryz.func87, Tryz.ntmps87
 go_wp2_with fail
 go_loopw [5, 6, 7] (fun o fr ii w' => ∃ (i from_ : Nat) (done : List (List UInt8)), fr = .int .i64 from_ ∧ ii = .int .i64 i ∧ w'.ownsRow w.heap.size 9 1 o done.length (strs done) ∧ Below w.heap.size w w' ∧
  ((i ≤ s.size ∧ from_ ≤ i ∧ done ++ cut c (s.data.toList.drop from_) = A ∧ (∀ x ∈ (s.data.toList.drop from_).take (i - from_), x ≠ c) ∧ done.length ≤ from_) ∨ (i = s.size + 1 ∧ done = A))) (fun _ _ ii _ => s.size + 1 - (intOf ii).toNat)
 case atStart => exact ⟨0, 0, [], rfl, rfl, World.ownsRow_nil _ _ _ _, Below.refl _ _, Or.inl ⟨Nat.zero_le _, Nat.le_refl _, by simpa using hA, by simp, Nat.le_refl _⟩⟩
 case round =>
  obtain ⟨i, from_, done, rfl, rfl, hown, hbel, hrel⟩ := hrel
  have hbs := hbel.size
  rcases hrel with ⟨his, hfi, hcut, hfree, hdl⟩ | ⟨rfl, rfl⟩
  ·have hle : (i : Int) ≤ s.size := by omega
   have e7 : IntKind.i64.wrap ((i : Int) + 1) = (i : Int) + 1 := wrap64 (by omega) (by omega)
   obtain ⟨P, hP⟩ : ∃ P, (s.data.toList.drop from_).take (i - from_) = P := ⟨_, rfl⟩
   have hsl : ∀ W, (Instr.slice 9 (.string s) (some (.int .i64 from_)) (some (.int .i64 i)) none).run Tryz.prog W = .ok (.string ⟨P.toArray⟩) W := by
    intro W
    rw [run_slice_string W 9 s .i64 .i64 from_ i Tryz.underlying9 (by omega) (by omega) hle]
    simp only [Int.toNat_natCast]
    rw [← hP, ← sub_text, Lib.mk_data]
   rw [hP] at hfree
   have hnext : ∀ (v' : Value) (w' : World), w'.ownsRow w.heap.size 9 1 v' (done.length + 1) (strs done ++ [.string ⟨P.toArray⟩]) → w'.ownsRow w.heap.size 9 1 v' (done ++ [P]).length (strs (done ++ [P])) := by
    intro v' w' h
    rw [List.length_append, strs, List.map_append]
    exact h
   have hg2 : ∀ w', (wr.alloc (.cells #[.string ⟨P.toArray⟩] 9)).grownBy w' u5.ownBlock → Below w.heap.size w w' := by
    intro w' h
    refine (hbel.alloc hbs _).grown h (by simp; omega) (fun k hk => (hown.lt k hk).1)
   by_cases hin : i < s.size
   ·have hne : ((i : Int) == (s.size : Int)) = false := by simp; omega
    have hiz : (i : Int) < s.size := by omega
    have hdr := drop_cons s i hin
    have hix : ∀ W, (Instr.index 9 (.string s) (.int .i64 i)).run Tryz.prog W = .ok (.int .u8 ((s[i]'hin).toNat : Int)) W := by
     intro W
     rw [run_index_string W 9 s .i64 i Tryz.underlying9, dif_pos ⟨by omega, hiz⟩]
     simp
    have hpd : s.data.toList.drop from_ = P ++ (s[i]'hin) :: s.data.toList.drop (i + 1) := by
     rw [← hdr, ← hP]
     have := (List.take_append_drop (i - from_) (s.data.toList.drop from_)).symm
     rw [List.drop_drop, show from_ + (i - from_) = i by omega] at this
     exact this
    have hP1 : (s.data.toList.drop from_).take (i + 1 - from_) = P ++ [s[i]'hin] := by
     have hPl : P.length = i - from_ := by rw [← hP, List.length_take, List.length_drop, text_len]; omega
     rw [hpd, show i + 1 - from_ = (P ++ [s[i]'hin]).length by simp [hPl]; omega, show P ++ (s[i]'hin) :: s.data.toList.drop (i + 1) = (P ++ [s[i]'hin]) ++ s.data.toList.drop (i + 1) by simp, List.take_left]
    generalize s[i]'hin = b at hix hpd hP1
    by_cases hbc : b = c
    ·have hbe : ((b.toNat : Int) == (c.toNat : Int)) = true := by simp [hbc]
     rw [hbc] at hpd
     have hcut2 : (done ++ [P]) ++ cut c (s.data.toList.drop (i + 1)) = A := by
      rw [← hcut, hpd, cut_at c _ hfree]; simp
     clear hbc hdr hpd hcut hP hfree hP1
     go_wp2_with (at_builtin; refine wpList_append_str _ rfl _ _ rfl w.heap.size u5 done.length (strs done) rfl (hown.alloc _) ⟨wr.heap.size, 0, none⟩ 1 ⟨P.toArray⟩ rfl (by simp) (by omega) (by simp; omega) ?_; intro v1 w1 h1 h2)
     go_roundw
     case rel => exact ⟨i + 1, i + 1, done ++ [P], rfl, rfl, hnext _ _ h1, hg2 _ h2, Or.inl ⟨by omega, Nat.le_refl _, hcut2, by simp, by simp; omega⟩⟩
     case measure => simp [intOf]; omega
    ·have hbe : ((b.toNat : Int) == (c.toNat : Int)) = false := by
      simp only [beq_eq_false_iff_ne, ne_eq]
      intro e
      exact hbc (UInt8.toNat_inj.1 (by omega))
     have hfree2 : ∀ x ∈ (s.data.toList.drop from_).take (i + 1 - from_), x ≠ c := by
      rw [hP1]
      intro x hx
      rcases List.mem_append.1 hx with hx | hx
      ·exact hfree x hx
      ·rw [List.mem_singleton.1 hx]; exact hbc
     clear hdr hpd hP hP1 hbc
     go_wp2_with fail
     go_roundw
     case rel => exact ⟨i + 1, from_, done, rfl, rfl, hown, hbel, Or.inl ⟨by omega, by omega, hcut, hfree2, hdl⟩⟩
     case measure => simp [intOf]; omega
   ·have heq : i = s.size := by omega
    have hne : ((i : Int) == (s.size : Int)) = true := by simp [heq]
    have hcut2 : done ++ [P] = A := by
     rw [← hcut]
     have : s.data.toList.drop from_ = P := by
      rw [← hP, List.take_of_length_le]
      rw [List.length_drop, text_len]; omega
     rw [this, cut_free c hfree]
    have hsl2 : ∀ W, (Instr.slice 9 (.string s) (some (.int .i64 from_)) (some (.int .i64 s.size)) none).run Tryz.prog W = .ok (.string ⟨P.toArray⟩) W := by
     intro W; rw [← heq]; exact hsl W
    clear hcut hP hfree
    subst heq
    go_wp2_with (at_builtin; refine wpList_append_str _ rfl _ _ rfl w.heap.size u5 done.length (strs done) rfl (hown.alloc _) ⟨wr.heap.size, 0, none⟩ 1 ⟨P.toArray⟩ rfl (by simp) (by omega) (by simp; omega) ?_; intro v1 w1 h1 h2)
    go_roundw
    case rel => exact ⟨s.size + 1, s.size + 1, done ++ [P], rfl, rfl, hnext _ _ h1, hg2 _ h2, Or.inr ⟨rfl, hcut2⟩⟩
    case measure => simp [intOf]
  ·have hle : ¬ ((s.size : Int) + 1 ≤ s.size) := by omega
   go_wp2_with fail
   go_ret
   obtain ⟨g, cap, rfl, hc, hcells⟩ := own_str hown hApos
   exact ⟨g, cap, rfl, hc, hcells, hbel⟩
end Go.Proofs.YtneciccdiledfaaGreatDoor
namespace Go.Proofs.YtneciccdiledfaaGreatDoor
open Go.RowKit
open Sm
namespace Sm
theorem bytes_cons {x : Int} {l : List Int} (hx : 0 ≤ x ∧ x ≤ 255) (h : IsBytes l) : IsBytes (x :: l) := by
 intro i
 cases i with
 | zero => simpa using hx
 | succ i => simpa using h i
theorem bytes_nil : IsBytes [] := fun i => by simp
end Sm
theorem wrap32_small (x : Int) (h0 : 0 ≤ x) (h1 : x ≤ 4294967295) : IntKind.u32.wrap x = x := wraps_u32 x h0 (by omega)
theorem Mem.push1 {w W : World} {o : Obj} {g : Nat} (h : Mem w W []) (hg : g = W.heap.size) : Mem w (W.alloc o) [(g, o)] := h.push g o hg
theorem Mem.push2 {w W : World} {p : Nat × Obj} {o : Obj} {g : Nat} (h : Mem w W [p]) (hg : g = W.heap.size) : Mem w (W.alloc o) [p, (g, o)] := h.push g o hg
theorem Wrote.trans {w w1 w2 : World} {g : Nat} {x y : Array Value} {t u : TypeId} (h : Wrote w w1 g x t) (k : Wrote w1 w2 g y u) : Wrote w w2 g y u :=
 ⟨k.here, fun j hj => (k.there j hj).trans (h.there j hj), k.size.trans h.size, fun B w0 hB hb => k.below B w0 hB (h.below B w0 hB hb)⟩
theorem Wrote.drewN {w w1 : World} {g : Nat} {x : Array Value} {t : TypeId} (h : Wrote w w1 g x t) (q : Nat) : Wrote w (w1.drewN q) g x t :=
 ⟨h.here, h.there, h.size, fun B w0 hB hb => Go.below_drewN (h.below B w0 hB hb) q⟩
theorem Wrote.cell {w w1 : World} {g : Nat} {x : Array Value} {t : TypeId} (h : Wrote w w1 g x t) {b i : Nat} (hb : g ≠ b) : w1.cell? ⟨b, i, none⟩ = w.cell? ⟨b, i, none⟩ := by
 unfold World.cell?; simp only; rw [h.there b (fun e => hb e.symm)]
theorem Wrote.row {w w1 : World} {g : Nat} {x : Array Value} {t : TypeId} (h : Wrote w w1 g x t) {b off : Nat} (hb : g ≠ b) {l : List Int} (hr : Row w (some ⟨b, off, none⟩) l) : Row w1 (some ⟨b, off, none⟩) l :=
 ⟨hr.bytes, hr.len, Or.inr ⟨b, off, rfl, fun i hi => by rw [h.cell hb]; exact hr.cellAt i hi⟩⟩
theorem Mem.join {w0 w w' : World} {L K : List (Nat × Obj)} (h : Mem w0 w L) (k : Mem w w' K) : Mem w0 w' (L ++ K) := by
 have hs := h.below.size
 refine ⟨h.below.trans (k.below.mono hs), fun p hp => ?_, fun p hp => ?_, ?_⟩
 ·rcases List.mem_append.mp hp with hp | hp
  ·exact h.low p hp
  ·exact Nat.le_trans hs (k.low p hp)
 ·rcases List.mem_append.mp hp with hp | hp
  ·rw [k.below.block p.1 (h.lt hp)]; exact h.at_ p hp
  ·exact k.at_ p hp
 ·rw [List.map_append, List.nodup_append]
  refine ⟨h.apart, k.apart, fun a ha b hb => ?_⟩
  obtain ⟨p, hp, rfl⟩ := List.mem_map.mp ha
  obtain ⟨q, hq, rfl⟩ := List.mem_map.mp hb
  have h1 := h.lt hp
  have h2 := k.low q hq
  omega
abbrev bs (l : List Int) : Array Value := (l.map (Value.int .u8)).toArray
theorem bs_set (l : List Int) (i : Nat) (x : Int) : (bs l).setIfInBounds i (.int .u8 x) = bs (l.set i x) := by
 simp [bs, List.map_set]
def blz (n : Nat) (xs : List (Nat × Int)) : List Int := xs.foldl (fun l q => l.set q.1 q.2) (List.replicate n 0)
theorem blz_snoc (n : Nat) (xs : List (Nat × Int)) (i : Nat) (x : Int) : (blz n xs).set i x = blz n (xs ++ [(i, x)]) := by simp [blz]
theorem Mem.put {w W : World} {L : List (Nat × Obj)} (hM : Mem w W L) (i : Nat) {g n : Nat} {xs : List (Nat × Int)} (hi : L[i]? = some (g, .cells (bs (blz n xs)) 5)) (j : Nat) (x : Int) :
  Mem w (W.setCell ⟨g, j, none⟩ (.int .u8 x)) (L.set i (g, .cells (bs (blz n (xs ++ [(j, x)]))) 5)) := by
 have := hM.set i hi j (.int .u8 x)
 rwa [bs_set, blz_snoc] at this
structure Inv (T : TypeId) (w W : World) (pA : Array Value) (v : Value) (n : Nat) (L : List Int) : Prop where
 own : W.ownsRow (w.heap.size + 1) 5 1 v n (L.map (Value.int .u8))
 mem : Mem w W [(w.heap.size, .cells pA T (0, 0))]
 size : w.heap.size + 1 ≤ W.heap.size
section
variable {T : TypeId} {w W W' : World} {pA : Array Value} {v v' : Value} {n m : Nat} {L K : List Int}
theorem Inv.next (h : Inv T w W pA v n L) (ho : W'.ownsRow (w.heap.size + 1) 5 1 v' m (K.map (Value.int .u8))) (hb : Below (w.heap.size + 1) W W') : Inv T w W' pA v' m K :=
 ⟨ho, h.mem.over hb (Nat.le_succ _) (fun p hp => by simp at hp; subst hp; exact Nat.lt_succ_self _), Nat.le_trans h.size hb.size⟩
theorem Inv.drew (h : Inv T w W pA v n L) : Inv T w W.drew pA v n L :=
 h.next (own_after h.own ((Below.refl _ _).drew) (Nat.le_refl _)) ((Below.refl _ _).drew)
theorem Inv.cell (h : Inv T w W pA v n L) (i : Nat) : W.cell? ⟨w.heap.size, i, none⟩ = pA[i]? := h.mem.cell 0 rfl i
end
section
open Go.ChangeShapes Go.WideShapes Go.ChangeAt Go.Joins
variable {H : Type} {enc : TypeId × Value → H} {W : World} {base : Nat} {held : Bool}
end
end Go.Proofs.YtneciccdiledfaaGreatDoor
