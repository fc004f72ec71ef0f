/-
  Settings as text: a builder of Go's library that the program's writer holds: its four functions, and a line of words.
  Settings as text: a text with more blanks, comments and empty lines in it says the same; a comment at its end; a line with one word more.
  Settings as bytes: the program's Config and OpenConfig, at all settings and all bytes.
  P12.3 at every two tenants that are light.
  Settings as bytes: the document's own OpenTenant.
  Settings as bytes: the document's tenants, one behind the other: numbers.
-/
import Derived.Test.YtneciccdiledfaaGreatDoorMx30
import Derived.Test.YtneciccdiledfaaGreatDoorMx22
import Derived.Test.YtneciccdiledfaaGreatDoorMx03
import Derived.Lib.Builder
import Derived.Lib.UnsafeStr
import Derived.Lib.FrozenHead
import Derived.Laws.Externs
import Derived.Test.YtneciccdiledfaaGreatDoorMx15
import Derived.Test.YtneciccdiledfaaGreatDoorMx27
import Derived.Test.YtneciccdiledfaaGreatDoorMx21
import Derived.Test.YtneciccdiledfaaGreatDoorMx29
import Derived.Deep.MidRow
set_option linter.unusedVariables false
set_option linter.unusedSimpArgs false
set_option maxRecDepth 20000
namespace Go.Proofs.YtneciccdiledfaaGreatDoor
open Go.RowKit
open La
open Ad
def nb (l : List UInt8) : List Int := l.map (fun b => (b.toNat : Int))
theorem nb_len (l : List UInt8) : (nb l).length = l.length := by simp [nb]
theorem nb_app (a b : List UInt8) : nb (a ++ b) = nb a ++ nb b := by simp [nb]
theorem Out.set0 {w V : World} {v : Value} {l : List Int} {g : Nat} {A : Array Value} {t : TypeId} {K : List (Nat × Obj)} (h : Out w V v l ((g, .cells A t (0, 0)) :: K)) (j : Nat) (x : Value) : Out w (V.setCell ⟨g, j, Option.none⟩ x) v l ((g, .cells (A.setIfInBounds j x) t (0, 0)) :: K) := by
 refine ⟨h.1, h.2.1, ?_⟩
 rcases h.2.2 with ⟨rfl, e, hm⟩ | ⟨k, cap, cur, rfl, hm, r⟩
 ·exact Or.inl ⟨rfl, e, hm.set 0 rfl j x⟩
 ·exact Or.inr ⟨k, cap, cur, rfl, hm.set 1 rfl j x, r⟩
def Bp (w V : World) (g : Nat) (p : Value) (l : List UInt8) (K : List (Nat × Obj)) : Prop := ∃ v, Out w V v (nb l) ((g, .cells #[p, v] 86) :: K)
def Bu (w V : World) (g : Nat) (l : List UInt8) (K : List (Nat × Obj)) : Prop := Bp w V g (.pointer none) l K ∨ Bp w V g (.pointer (some ⟨g, 0, none⟩)) l K
section
variable {w V V' : World} {g : Nat} {p : Value} {l : List UInt8} {K : List (Nat × Obj)}
theorem Bp.mem (h : Bp w V g p l K) : Mem w V K := by obtain ⟨v, h⟩ := h; exact h.mem.sub
theorem Bu.mem (h : Bu w V g l K) : Mem w V K := by rcases h with h | h <;> exact h.mem
theorem Bp.after (h : Bp w V g p l K) (hb : Below V.heap.size V V') : Bp w V' g p l K := by obtain ⟨v, h⟩ := h; exact ⟨v, h.after hb⟩
theorem Bu.after (h : Bu w V g l K) (hb : Below V.heap.size V V') : Bu w V' g l K := by
 rcases h with h | h
 ·exact Or.inl (h.after hb)
 ·exact Or.inr (h.after hb)
theorem Bp.push (h : Bp w V g p l K) (o : Obj) {n : Nat} (hn : n = V.heap.size) : Bp w (V.alloc o) g p l ((n, o) :: K) := by
 obtain ⟨v, h⟩ := h
 exact ⟨v, (h.add (o := o) hn).perm (List.Perm.swap _ _ _)⟩
theorem Bu.push (h : Bu w V g l K) (o : Obj) {n : Nat} (hn : n = V.heap.size) : Bu w (V.alloc o) g l ((n, o) :: K) := by
 rcases h with h | h
 ·exact Or.inl (h.push o hn)
 ·exact Or.inr (h.push o hn)
theorem Bp.drop1 {q : Nat × Obj} (h : Bp w V g p l (q :: K)) : Bp w V g p l K := by
 obtain ⟨v, h⟩ := h
 exact ⟨v, (h.perm (List.Perm.swap _ _ _)).drop⟩
theorem Bu.drop1 {q : Nat × Obj} (h : Bu w V g l (q :: K)) : Bu w V g l K := by
 rcases h with h | h
 ·exact Or.inl h.drop1
 ·exact Or.inr h.drop1
theorem Bp.perm {K' : List (Nat × Obj)} (h : Bp w V g p l K) (hp : K.Perm K') : Bp w V g p l K' := by
 obtain ⟨v, h⟩ := h
 exact ⟨v, h.perm (hp.cons _)⟩
theorem Bu.perm {K' : List (Nat × Obj)} (h : Bu w V g l K) (hp : K.Perm K') : Bu w V g l K' := by
 rcases h with h | h
 ·exact Or.inl (h.perm hp)
 ·exact Or.inr (h.perm hp)
end
theorem bsize : ∃ j, Tryz.prog.info? 84 = some j ∧ j.size = 2 := Option.map_eq_some_iff.1 (show (Tryz.prog.info? 84).map (·.size) = some 2 by kernel_rfl)
set_option maxHeartbeats 1000000 in
theorem bcheck_used {V : World} {g : Nat} (h0 : V.cell? ⟨g, 0, none⟩ = some (.pointer (some ⟨g, 0, none⟩))) :
  Calls Tryz.prog 110 #[.pointer (some ⟨g, 0, none⟩)] V fun e V' => e = .returned (.tuple #[]) ∧ V' = V := by
 obtain ⟨j, hj, _⟩ := bsize
 go_enter Tryz.func110, Tryz.ntmps110
 go_wp2
 rw [Lib.run_neq_ptr_same V _ Tryz.underlying82 hj]
 go_wp2
 go_end0
 exact ⟨rfl, rfl⟩
set_option maxHeartbeats 1000000 in
theorem bcheck_fresh {V : World} {g : Nat} (h0 : V.cell? ⟨g, 0, none⟩ = some (.pointer none)) (hsh : V.shape? g = some (86, 2)) (hfz : V.frozen? ⟨g, 0, none⟩ = false) :
  Calls Tryz.prog 110 #[.pointer (some ⟨g, 0, none⟩)] V fun e V' => e = .returned (.tuple #[]) ∧ V' = V.setCell ⟨g, 0, none⟩ (.pointer (some ⟨g, 0, none⟩)) := by
 obtain ⟨j, hj, hjs⟩ := bsize
 have hl : liesAt Tryz.prog Tryz.prog.depth 86 (2 / Tryz.prog.cellsOf 86) 0 84 1 = true := by kernel_rfl
 go_enter Tryz.func110, Tryz.ntmps110
 go_wp2
 rw [Lib.run_to_unsafe V ⟨g, 0, none⟩ Tryz.underlying82 Tryz.underlying107 hj (by rw [hjs]; decide) hsh (Nat.zero_lt_succ 1)]
 simp only [Result.andThen]
 rw [Oper.upon_value]
 go_wp2
 rw [run_callFunc_extern Tryz.func119 (by kernel_rfl) (by kernel_rfl) (by kernel_rfl) (e := Extern.AbiNoEscape.same) (by kernel_rfl)]
 rw [Lib.run_noEscape]
 simp only [Result.andThen]
 rw [Oper.upon_value]
 go_wp2
 rw [Lib.run_from_unsafe V ⟨g, 0, none⟩ Tryz.underlying107 Tryz.underlying82 hj hsh hl]
 simp only [Result.andThen]
 rw [Oper.upon_value]
 go_wp2
 go_end0
 exact ⟨rfl, rfl⟩
theorem bcheck_any {w V : World} {g : Nat} {l : List UInt8} {K : List (Nat × Obj)} (h : Bu w V g l K) :
  Calls Tryz.prog 110 #[.pointer (some ⟨g, 0, none⟩)] V fun e V' => e = .returned (.tuple #[]) ∧ Bp w V' g (.pointer (some ⟨g, 0, none⟩)) l K := by
 rcases h with ⟨v, h⟩ | ⟨v, h⟩
 ·have hM := h.mem
  have hh := hM.get 0 rfl
  refine (bcheck_fresh (g := g) (hM.cell 0 rfl 0) (by simp [World.shape?, hh]) (hM.free 0 rfl 0)).mono ?_
  rintro e V' ⟨rfl, rfl⟩
  exact ⟨rfl, v, h.set0 0 _⟩
 ·refine (bcheck_used (g := g) (h.mem.cell 0 rfl 0)).mono ?_
  rintro e V' ⟨rfl, rfl⟩
  exact ⟨rfl, v, h⟩
theorem out_sl {w V : World} {v : Value} {l : List Int} {K : List (Nat × Obj)} (h : Out w V v l K) : ∃ a n c, v = .slice a n c := by
 rcases h.2.2 with ⟨rfl, _⟩ | ⟨g, cap, cur, rfl, _⟩
 ·exact ⟨_, _, _, rfl⟩
 ·exact ⟨_, _, _, rfl⟩
set_option maxHeartbeats 2000000 in
theorem bstr_any {w V : World} {g : Nat} {l : List UInt8} {K : List (Nat × Obj)} (h : Bu w V g l K) (s : ByteArray) (hb : l.length + s.size ≤ 1000000000) :
  Calls Tryz.prog 92 #[.pointer (some ⟨g, 0, none⟩), .string s] V fun e V' => (∃ v, e = .returned v) ∧ Bu w V' g (l ++ s.data.toList) K := by
 have C := bcheck_any h
 clear h
 go_enter Tryz.func92, Tryz.ntmps92
 go_wp2_with fail
 refine C.mono ?_
 rintro e V1 ⟨rfl, v, hO⟩
 obtain ⟨v2, V2, hr, hO2⟩ := out_str hO s (by rw [nb_len]; exact hb) 49
 have c1 : V1.cell? ⟨g, 1, none⟩ = some v := hO.mem.cell 0 rfl 1
 have d1 : V2.cell? ⟨g, 1, none⟩ = some v := hO2.mem.cell 0 rfl 1
 have f1 : V2.frozen? ⟨g, 1, none⟩ = false := hO2.mem.free 0 rfl 1
 have HB : Hid (Bu w (V2.setCell ⟨g, 1, none⟩ v2) g (l ++ s.data.toList) K) := Or.inr ⟨v2, by rw [nb_app]; exact hO2.set0 1 v2⟩
 obtain ⟨a, n, c, rfl⟩ := out_sl hO2
 clear hO hO2 C
 go_wp2_with (at_builtin; refine wpList_append_run (.tmp 12) (.tmp 13) 49 9 (by with_reducible rfl) hr rfl rfl (by simp [Act.eval]) (by simp [Act.eval]) ?_)
 go_ret2
 exact ⟨⟨_, rfl⟩, HB.out⟩
set_option maxHeartbeats 2000000 in
theorem bbyte_any {w V : World} {g : Nat} {l : List UInt8} {K : List (Nat × Obj)} (h : Bu w V g l K) (b : UInt8) (hb : l.length + 1 ≤ 1000000000) :
  Calls Tryz.prog 94 #[.pointer (some ⟨g, 0, none⟩), .int .u8 (b.toNat : Int)] V fun e V' => (∃ v, e = .returned v) ∧ Bu w V' g (l ++ [b]) K := by
 have C := bcheck_any h
 have hbb : (b.toNat : Int) ≤ 255 := by have := b.toNat_lt; omega
 clear h
 go_enter Tryz.func94, Tryz.ntmps94
 go_wp2_with fail
 refine C.mono ?_
 rintro e V1 ⟨rfl, v, hO⟩
 obtain ⟨v2, V2, hr, hO2⟩ := out_one hO (b.toNat : Int) ⟨by omega, hbb⟩ (by rw [nb_len]; exact hb) 49
 have c1 : V1.cell? ⟨g, 1, none⟩ = some v := hO.mem.cell 0 rfl 1
 have d1 : V2.cell? ⟨g, 1, none⟩ = some v := hO2.mem.cell 0 rfl 1
 have f1 : V2.frozen? ⟨g, 1, none⟩ = false := hO2.mem.free 0 rfl 1
 have HB : Hid (Bu w (V2.setCell ⟨g, 1, none⟩ v2) g (l ++ [b]) K) := Or.inr ⟨v2, by rw [nb_app]; exact hO2.set0 1 v2⟩
 obtain ⟨a, n, c, rfl⟩ := out_sl hO2
 clear hO hO2 C
 go_wp2_with (at_builtin; refine wpList_append_run (.tmp 11) (.tmp 13) 49 49 (by with_reducible rfl) hr rfl rfl (by simp [Act.eval]) (by simp [Act.eval]) ?_)
 go_ret
 exact ⟨⟨_, rfl⟩, HB.out⟩
end Go.Proofs.YtneciccdiledfaaGreatDoor
namespace Go.Proofs.YtneciccdiledfaaGreatDoor
open Go.RowKit
open Ad
open Sm (IsBytes)
namespace La
def cmt : List UInt8 := [32, 35, 32, 112, 111, 111, 108, 32, 49, 46, 50, 46, 51, 46, 52, 10, 10, 32, 32, 10]
def pc (b : UInt8) (x : Int) : List UInt8 := if x = 1 then (if b = 32 then [32, 32, 32] else cmt) else if x = 2 ∧ b = 10 then [35, 120, 10] else [b]
theorem join_no {p : UInt8 → Prop} (hc : p 32) : ∀ {l : List (List UInt8)}, (∀ x ∈ l, ∀ b ∈ x, p b) → ∀ b ∈ Lib.join l [32], p b
 | [], _ => by simp [Lib.join_nil]
 | [x], h => by rw [Lib.join_one]; exact h x (by simp)
 | x :: y :: r, h => by
  have e : Lib.join (x :: y :: r) [32] = x ++ (32 :: Lib.join (y :: r) [32]) := by
   rw [Lib.join_cons, Lib.join_cons]; simp [Lib.joinTail]
  rw [e]
  intro b hb
  rcases List.mem_append.1 hb with hb | hb
  ·exact h x (by simp) b hb
  ·rcases List.mem_cons.1 hb with rfl | hb
   ·exact hc
   ·exact join_no hc (fun z hz => h z (by simp only [List.mem_cons] at hz ⊢; exact Or.inr hz)) b hb
theorem join_no10 {l : List (List UInt8)} (h : ∀ y ∈ l, Free y) : ∀ b ∈ Lib.join l [32], b ≠ 10 := join_no (p := fun b => b ≠ 10) (by decide) (fun x hx b hb => ((h x hx).2 b hb).1)
theorem join_no35 {l : List (List UInt8)} (h : ∀ y ∈ l, Free y) : ∀ b ∈ Lib.join l [32], b ≠ 35 := join_no (p := fun b => b ≠ 35) (by decide) (fun x hx b hb => ((h x hx).2 b hb).2.2)
theorem Reads.split {o q : Option Cgf} {A B : List (List (List UInt8))} {l : List (List UInt8)} (h : Reads o (A ++ l :: B) q) : ∃ o' c, Reads o A o' ∧ Takes o' l c := by
 induction A generalizing o with
 | nil =>
  cases h with
  | cons h1 h2 => exact ⟨o, _, .nil _, h1⟩
 | cons a A ih =>
  cases h with
  | cons h1 h2 =>
   obtain ⟨o', c, k1, k2⟩ := ih h2
   exact ⟨o', c, .cons h1 k1, k2⟩
theorem tk_app (t : List UInt8) : ∀ (l : List UInt8) (ws : List (List UInt8)) (cur : List UInt8) (m : Bool), tk (l ++ 10 :: t) ws cur m = tk l ws cur m ++ tk t [] [] false
 | [], ws, cur, m => by rw [List.nil_append, tk_feed, tk_nil]
 | b :: r, ws, cur, m => by
  rw [List.cons_append, tk, tk]
  split
  ·rw [tk_app t r, List.append_assoc]
  ·split
   ·exact tk_app t r _ _ _
   ·split
    ·exact tk_app t r _ _ _
    ·split
     ·exact tk_app t r _ _ _
     ·exact tk_app t r _ _ _
theorem scan_app (s : ByteArray) (t : List UInt8) : ∀ (l : List UInt8) (p : Nat) (ws : List Wd) (cur : Option Nat) (m : Bool), scan s (l ++ 10 :: t) p ws cur m = scan s l p ws cur m ++ scan s t (p + l.length + 1) [] none false
 | [], p, ws, cur, m => by rw [List.nil_append, scan_feed, scan_nil]; rfl
 | b :: r, p, ws, cur, m => by
  have e : p + (b :: r).length + 1 = p + 1 + r.length + 1 := by simp; omega
  rw [List.cons_append, scan, scan, e]
  split
  ·rw [scan_app s t r, List.append_assoc]
  ·split
   ·exact scan_app s t r _ _ _ _
   ·split
    ·exact scan_app s t r _ _ _ _
    ·split
     ·exact scan_app s t r _ _ _ _
     ·exact scan_app s t r _ _ _ _
theorem scan_tk2 (s : ByteArray) (t : List UInt8) : ∀ (l : List UInt8) (p : Nat) (ws : List Wd) (cur : Option Nat) (cu : List UInt8) (m : Bool), l ++ t = s.data.toList.drop p → (m = true → cur = none) →
  ((cur = none ∧ cu = []) ∨ ∃ b, cur = some b ∧ b < p ∧ p ≤ s.data.toList.length ∧ cu = (s.data.toList.drop b).take (p - b)) → ltx (scan s l p ws cur m) = tk l (wtx ws) cu m
 | [], p, ws, cur, cu, m, hl, hm, hc => by
  have he : wtx (ended s ws cur p) = tend (wtx ws) cu := by
   rcases hc with ⟨rfl, rfl⟩ | ⟨b, rfl, h1, h2, rfl⟩
   ·simp [ended, tend]
   ·have hne : (s.data.toList.drop b).take (p - b) ≠ [] := by
     intro e
     have := congrArg List.length e
     simp only [List.length_take, List.length_drop, List.length_nil] at this
     omega
    rw [wtx_ended, tend, if_neg hne]
  rw [scan_nil, tk_nil, ltx_lined, he]
 | b :: r, p, ws, cur, cu, m, hl, hm, hc => by
  have hp : p < s.data.toList.length := by
   rcases Nat.lt_or_ge p s.data.toList.length with h | h
   ·exact h
   ·rw [List.drop_eq_nil_of_le h] at hl; simp at hl
  have hr : r ++ t = s.data.toList.drop (p + 1) := by
   have := congrArg List.tail hl
   simpa using this
  have hb : s.data.toList[p]? = some b := by
   have := congrArg List.head? hl
   simpa [List.head?_drop] using this.symm
  have he : wtx (ended s ws cur p) = tend (wtx ws) cu := by
   rcases hc with ⟨rfl, rfl⟩ | ⟨b, rfl, h1, h2, rfl⟩
   ·simp [ended, tend]
   ·have hne : (s.data.toList.drop b).take (p - b) ≠ [] := by
     intro e
     have := congrArg List.length e
     simp only [List.length_take, List.length_drop, List.length_nil] at this
     omega
    rw [wtx_ended, tend, if_neg hne]
  by_cases h1 : b = 10
  ·subst h1
   rw [scan_feed, tk_feed]
   have := scan_tk2 s t r (p + 1) [] none [] false hr (fun h => by cases h) (Or.inl ⟨rfl, rfl⟩)
   rw [show wtx [] = [] from rfl] at this
   rw [← this, ← he, ← ltx_lined (ended s ws cur p) p]
   simp [ltx]
  ·cases m with
   | true =>
    obtain rfl := hm rfl
    rw [scan_mute _ _ _ _ _ h1, tk_mute _ _ _ h1]
    refine scan_tk2 s t r (p + 1) ws none cu true hr (fun _ => rfl) ?_
    rcases hc with h | ⟨b, h, _⟩
    ·exact Or.inl h
    ·cases h
   | false =>
    by_cases h2 : b = 32
    ·subst h2
     rw [scan_blank, tk_blank, ← he]
     exact scan_tk2 s t r (p + 1) _ none [] false hr (fun h => by cases h) (Or.inl ⟨rfl, rfl⟩)
    ·by_cases h3 : b = 35
     ·subst h3
      rw [scan_hash, tk_hash, ← he]
      exact scan_tk2 s t r (p + 1) _ none [] true hr (fun _ => rfl) (Or.inl ⟨rfl, rfl⟩)
     ·rw [scan_word _ _ _ _ _ h1 h2 h3, tk_word _ _ _ h1 h2 h3]
      refine scan_tk2 s t r (p + 1) ws _ _ false hr (fun h => by cases h) (Or.inr ⟨cur.getD p, rfl, ?_, by omega, ?_⟩)
      ·rcases hc with ⟨rfl, rfl⟩ | ⟨b', rfl, h1, h2, rfl⟩
       ·simp
       ·simp; omega
      ·rcases hc with ⟨rfl, rfl⟩ | ⟨b', rfl, q1, q2, rfl⟩
       ·simp only [Option.getD_none, List.nil_append]
        rw [← hl, show p + 1 - p = 1 by omega]
        simp
       ·simp only [Option.getD_some]
        rw [show p + 1 - b' = (p - b') + 1 by omega, List.take_add_one, List.getElem?_drop, show b' + (p - b') = p by omega, hb]
        rfl
theorem lw_zz (s : ByteArray) : ∀ (l : List UInt8) (p : Nat) (cur : Option Nat), (∀ b ∈ l, b ≠ 35) → lw s (l ++ [32, 122, 122]) p cur = lw s l p cur ++ [(s.extract (p + l.length + 1) (p + l.length + 3), p + l.length + 1)]
 | [], p, cur, _ => by
  rw [List.nil_append, lw_blank, lw_word _ _ _ _ (by decide) (by decide), lw_word _ _ _ _ (by decide) (by decide), lw_nil, lw_nil]
  rfl
 | b :: r, p, cur, h => by
  have hr : ∀ b ∈ r, b ≠ 35 := fun b hb => h b (by simp [hb])
  have e : p + (b :: r).length = p + 1 + r.length := by simp; omega
  rw [List.cons_append, e]
  by_cases h32 : b = 32
  ·subst h32
   rw [lw_blank, lw_blank, lw_zz s r _ _ hr, List.append_assoc]
  ·rw [lw_word _ _ _ _ (h b (by simp)) h32, lw_word _ _ _ _ (h b (by simp)) h32, lw_zz s r _ _ hr]
theorem tk_join {ws : List (List UInt8)} (h : LFree ws) : tk (Lib.join ws [32]) [] [] false = [ws] := by
 have h1 := tk_spc [] ws h.1 h.2
 rw [List.append_nil, spc, tk_app, tk_nil] at h1
 simpa [tend, tln] using h1
theorem tk_lines0 {A : List (List (List UInt8))} (h : ∀ l ∈ A, LFree l) {l0 : List UInt8} (e : A.flatMap spc = l0 ++ [10]) : tk l0 [] [] false = A := by
 have h1 := tk_lines [] A h
 rw [List.append_nil, e, tk_app, tk_nil] at h1
 simpa [tend, tln] using h1
theorem lines_end : ∀ (A : List (List (List UInt8))), A = [] ∨ ∃ l0, A.flatMap spc = l0 ++ [10]
 | [] => Or.inl rfl
 | [a] => Or.inr ⟨Lib.join a [32], by simp [spc]⟩
 | a :: b :: A => by
  right
  rcases lines_end (b :: A) with h | ⟨l0, h⟩
  ·cases h
  ·exact ⟨spc a ++ l0, by rw [List.flatMap_cons, h, List.append_assoc]⟩
theorem zz_ip : ip [122, 122] = none := by decide
theorem scan_zz {s : ByteArray} {ws : List (List UInt8)} {t : List UInt8} (h : LFree ws) (p : Nat) (hs : s.data.toList.drop p = Lib.join ws [32] ++ ([32, 122, 122] ++ 10 :: t)) : ∃ wd fin, wtx wd = ws ∧ scan s (s.data.toList.drop p) p [] none false = [(wd ++ [(⟨#[122, 122]⟩, p + (Lib.join ws [32]).length + 1)], fin)] ++ scan s t (p + (Lib.join ws [32]).length + 4) [] none false := by
 have h1 := scan_tk2 s ([32, 122, 122] ++ 10 :: t) (Lib.join ws [32]) p [] none [] false hs.symm (fun h => by cases h) (Or.inl ⟨rfl, rfl⟩)
 rw [show wtx [] = [] from rfl, tk_join h] at h1
 have h2 := scan_line s [] (Or.inl rfl) (Lib.join ws [32]) p [] none (join_no10 h.2)
 rw [List.append_nil] at h2
 rw [h2, List.append_nil, List.nil_append, ltx_lined] at h1
 have hw : wtx (lw s (Lib.join ws [32]) p none) = ws := by
  unfold tln at h1
  split at h1
  ·cases h1
  ·simpa using h1
 have h3 := scan_line s (10 :: t) (Or.inr ⟨t, rfl⟩) (Lib.join ws [32] ++ [32, 122, 122]) p [] none (by
  intro b hb
  rcases List.mem_append.1 hb with hb | hb
  ·exact join_no10 h.2 b hb
  ·simp only [List.mem_cons, List.not_mem_nil, or_false] at hb
   rcases hb with rfl | rfl | rfl <;> decide)
 rw [lw_zz s _ _ _ (join_no35 h.2)] at h3
 have hz : s.extract (p + (Lib.join ws [32]).length + 1) (p + (Lib.join ws [32]).length + 3) = ⟨#[122, 122]⟩ := by
  have e1 : (s.extract (p + (Lib.join ws [32]).length + 1) (p + (Lib.join ws [32]).length + 3)).data.toList = [122, 122] := by
   rw [sub_text, show p + (Lib.join ws [32]).length + 3 - (p + (Lib.join ws [32]).length + 1) = 2 by omega, show p + (Lib.join ws [32]).length + 1 = p + ((Lib.join ws [32]).length + 1) by omega, ← List.drop_drop, hs, ← List.drop_drop, List.drop_left]
   rfl
  exact str_of e1
 rw [hz] at h3
 refine ⟨lw s (Lib.join ws [32]) p none, p + (Lib.join ws [32] ++ [32, 122, 122]).length, hw, ?_⟩
 rw [hs, show Lib.join ws [32] ++ ([32, 122, 122] ++ 10 :: t) = (Lib.join ws [32] ++ [32, 122, 122]) ++ 10 :: t by simp, h3]
 have e2 : lined ([] ++ (lw s (Lib.join ws [32]) p none ++ [(⟨#[122, 122]⟩, p + (Lib.join ws [32]).length + 1)])) (p + (Lib.join ws [32] ++ [32, 122, 122]).length) = [(lw s (Lib.join ws [32]) p none ++ [(⟨#[122, 122]⟩, p + (Lib.join ws [32]).length + 1)], p + (Lib.join ws [32] ++ [32, 122, 122]).length)] := by
  unfold lined; rw [if_neg (by simp)]; rfl
 rw [e2]
 have e3 : p + (Lib.join ws [32] ++ [32, 122, 122]).length + 1 = p + (Lib.join ws [32]).length + 4 := by rw [List.length_append]; simp only [List.length_cons, List.length_nil]; omega
 simp only [e3]
theorem parse_zz {c : Cgf} (h : CFit c) {A B : List (List (List UInt8))} {ws : List (List UInt8)} (hs : lnsOf c = A ++ ws :: B) {t : List UInt8} (ht : t = A.flatMap spc ++ (Lib.join ws [32] ++ ([32, 122, 122] ++ 10 :: B.flatMap spc))) (hl : t.length ≤ 32768) : parse ⟨t.toArray⟩ = .error ((A.flatMap spc).length + (Lib.join ws [32]).length + 1) := by
 have hf := lfree_cfg h
 rw [hs] at hf
 have hr := reads_cfg h
 rw [hs] at hr
 obtain ⟨o', c', k1, k2⟩ := hr.split
 obtain ⟨s, hse⟩ : ∃ s : ByteArray, s = ⟨t.toArray⟩ := ⟨_, rfl⟩
 have hd : s.data.toList = t := by rw [hse]
 rw [← hse]
 have hsz : s.size ≤ 32768 := by rw [hse]; show t.toArray.size ≤ _; simpa using hl
 have hwf := hf ws (by simp)
 obtain ⟨wd, fin, hw, hsc⟩ := scan_zz (s := s) hwf (A.flatMap spc).length (t := B.flatMap spc) (by rw [hd, ht, List.drop_left])
 have hA : ∃ A', ltx A' = A ∧ lns s = A' ++ scan s (s.data.toList.drop (A.flatMap spc).length) (A.flatMap spc).length [] none false := by
  unfold lns
  rw [hd, ht, List.drop_left]
  rcases lines_end A with rfl | ⟨l0, e⟩
  ·exact ⟨[], rfl, rfl⟩
  ·have h0 := scan_tk2 s (10 :: (Lib.join ws [32] ++ ([32, 122, 122] ++ 10 :: B.flatMap spc))) l0 0 [] none [] false (by rw [List.drop_zero, hd, ht, e]; simp) (fun h => by cases h) (Or.inl ⟨rfl, rfl⟩)
   rw [show wtx [] = [] from rfl, tk_lines0 (fun l hl => hf l (by simp [hl])) e] at h0
   refine ⟨_, h0, ?_⟩
   rw [e, List.append_assoc, List.singleton_append, scan_app, Nat.zero_add, List.length_append]
   rfl
 obtain ⟨A', e1, e2⟩ := hA
 rw [hsc] at e2
 exact parse_no hsz (A := A') (by rw [e2]; rfl) (by rw [e1]; exact k1) (by rw [hw]; exact k2) zz_ip
end La
end Go.Proofs.YtneciccdiledfaaGreatDoor
namespace Go.Proofs.YtneciccdiledfaaGreatDoor
open Go.RowKit
open Sm
open Cf
def TSV (V : World) (v : Value) (ts : List Ten) : Prop := ∃ zs : List Tv, zs.map Prod.fst = ts ∧ Rw V 33 v (zs.map zc) ∧ ∀ z ∈ zs, TLen z.1 ∧ Rws V z
def CV (V : World) (v : Value) (c : Cgf) : Prop := CLen c ∧ ∃ u, v = .agg (cc c u).toArray ∧ TSV V u c.ten
theorem zc_ne {zs : List Tv} : ∀ x ∈ zs.map zc, x ≠ [] := by
 intro x hx
 obtain ⟨z, -, rfl⟩ := List.mem_map.mp hx
 simp [zc, tc]
theorem Rws.below {V V' : World} {z : Tv} (h : Rws V z) {B : Nat} (hb : Below B V V') (hB : V.heap.size ≤ B) : Rws V' z := ⟨h.1.below ux_ne hb hB, h.2.1.below px_ne hb hB, h.2.2.below px_ne hb hB⟩
theorem TSV.at_ {w V : World} {v : Value} {ts : List Ten} (h : TSV w v ts) {B : Nat} (hb : Below B w V) (hB : w.heap.size ≤ B) : TSV V v ts := by
 obtain ⟨zs, h1, h2, h3⟩ := h
 exact ⟨zs, h1, h2.below zc_ne hb hB, fun z hz => ⟨(h3 z hz).1, (h3 z hz).2.below hb hB⟩⟩
theorem CV.at_ {w V : World} {v : Value} {c : Cgf} (h : CV w v c) {B : Nat} (hb : Below B w V) (hB : w.heap.size ≤ B) : CV V v c := by
 obtain ⟨h1, u, h2, h3⟩ := h
 exact ⟨h1, u, h2, h3.at_ hb hB⟩
theorem TSV.one {w : World} {v : Value} {ts : List Ten} (h : TSV w v ts) : v.oneCell' = true := by
 obtain ⟨zs, -, h, -⟩ := h
 exact rw_slice h
theorem cc_one (c : Cgf) {v : Value} (h : v.oneCell' = true) : (cc c v).toArray.all (·.oneCell') = true := by
 apply all_oneCell_toArray
 intro u hu
 simp only [cc, List.mem_cons, List.mem_append, List.mem_map, List.not_mem_nil, or_false] at hu
 rcases hu with rfl | ⟨x, _, rfl⟩ | ⟨x, _, rfl⟩ | ⟨x, _, rfl⟩ | ⟨x, _, rfl⟩ | rfl | rfl <;> first | rfl | exact h
def CVs (n : Nat) (V : World) (v : Value) (c : Cgf) : Prop := ∀ w1 V' : World, w1.heap.size ≤ n → Below w1.heap.size w1 V' → (∀ b, n ≤ b → b < V.heap.size → V'.heap[b]? = V.heap[b]?) → CV V' v c
theorem CV.row {w : World} {v : Value} {c : Cgf} (h : CV w v c) : ∃ tl : Array Value, v = .agg tl ∧ tl.size = 29 ∧ tl.all (·.oneCell') = true := by
 obtain ⟨h1, u, rfl, h2⟩ := h
 exact ⟨_, rfl, by rw [List.size_toArray]; exact cc_len h1 _, cc_one c h2.one⟩
end Go.Proofs.YtneciccdiledfaaGreatDoor
namespace Go.Proofs.YtneciccdiledfaaGreatDoor
open Go.RowKit
open Sm
open Cf
theorem TV.at_ {w V : World} {v : Value} {t : Ten} (h : TV w v t) {B : Nat} (hb : Below B w V) (hB : w.heap.size ≤ B) : TV V v t := by
 obtain ⟨hl, p, s, q, rfl, h1, h2, h3⟩ := h
 exact ⟨hl, p, s, q, rfl, h1.below ux_ne hb hB, h2.below px_ne hb hB, h3.below px_ne hb hB⟩
theorem TV.row {w : World} {v : Value} {t : Ten} (h : TV w v t) : ∃ tl : List Value, v = .agg tl.toArray ∧ tl.length = 33 ∧ ∀ v ∈ tl, v.oneCell' = true := by
 obtain ⟨hl, p, s, q, rfl, h1, h2, h3⟩ := h
 refine ⟨_, rfl, tc_len hl p s q, fun v hv => ?_⟩
 have := tc_one2 t (rw_one h1) (rw_one h2) (rw_one h3)
 rw [Array.all_eq_true_iff_forall_mem] at this
 exact this v (by simpa using hv)
theorem wpList_load_row_g {ops : Array Oper} {rest : List Oper} {o : Oper} {a : Act} {w : World} {Q : Exit → Act → World → Prop} (hw : Region.wanted o (yielded ops a.tmps) = true) (ty : TypeId) (x : Operand) (ho : o.op = .load ty x)
  (g : Nat) (hx : a.eval x = .pointer (some ⟨g, 0, none⟩)) (t : TypeId) (cs : Array Value) (fr : Nat × Nat) (fs : Array Field) (hg : w.heap[g]? = some (.cells cs t fr))
  (hu : Tryz.prog.underlying ty = some (.struct fs)) (hi : (Tryz.prog.info? ty).map (·.size) = some cs.size)
  (h : wpList Tryz.prog ops Q rest (a.put o.dst (.agg cs)) w) : wpList Tryz.prog ops Q (o :: rest) a w := by
 unfold wpList
 rw [if_pos hw]
 exact Or.inl (wp_load_row ty x ho g hx t cs fr _ hg hu rfl hi h)
end Go.Proofs.YtneciccdiledfaaGreatDoor
namespace Go.Proofs.YtneciccdiledfaaGreatDoor
open Go.RowKit
open Sm
open Cf
theorem flat_at {α : Type} {sz : Nat} : ∀ (xs : List (List α)) (i j : Nat) (u : α), (∀ x ∈ xs, x.length = sz) → (xs.getD i [])[j]? = some u → xs.flatten[i * sz + j]? = some u
 | [], i, j, u, _, h => by simp [List.getD] at h
 | x :: xs, 0, j, u, hx, h => by
  rw [Nat.zero_mul, Nat.zero_add, List.flatten_cons]
  have h' : x[j]? = some u := h
  obtain ⟨hj, -⟩ := List.getElem?_eq_some_iff.mp h'
  rw [List.getElem?_append_left hj]; exact h'
 | x :: xs, i + 1, j, u, hx, h => by
  have h' : (xs.getD i [])[j]? = some u := by simpa [List.getD] using h
  have e := hx x (List.mem_cons_self ..)
  rw [List.flatten_cons, List.getElem?_append_right (by rw [e, Nat.succ_mul]; omega), show (i + 1) * sz + j - x.length = i * sz + j by rw [e, Nat.succ_mul]; omega]
  exact flat_at xs i j u (fun y hy => hx y (List.mem_cons_of_mem _ hy)) h'
end Go.Proofs.YtneciccdiledfaaGreatDoor
namespace Go.Proofs.YtneciccdiledfaaGreatDoor
open Go.RowKit
open Sm
open Cf
end Go.Proofs.YtneciccdiledfaaGreatDoor
