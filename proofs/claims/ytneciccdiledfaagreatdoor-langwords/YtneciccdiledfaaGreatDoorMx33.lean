/-
  Settings held against one another: which lists of tenants the statements speak of.
  Settings as bytes: settings that were written are read back, no part of them is read, and nothing longer; what fits is read back as it was.
  Settings as bytes: the document's own OpenChange: a change that puts a tenant.
  Settings as text: where lines end; one word more, one word fewer.
-/
import Derived.Test.YtneciccdiledfaaGreatDoorMx32
import Derived.Test.YtneciccdiledfaaGreatDoorMx22
import Derived.Test.YtneciccdiledfaaGreatDoorMx25
import Derived.Test.YtneciccdiledfaaGreatDoorMx31
import Derived.Test.YtneciccdiledfaaGreatDoorMx06
set_option linter.unusedVariables false
set_option linter.unusedSimpArgs false
set_option maxRecDepth 20000
namespace Go.Proofs.YtneciccdiledfaaGreatDoor
open Go.RowKit
open Sm
open Cf
theorem TSV.parts {w : World} {v : Value} {ts : List Ten} (h : TSV w v ts) : ∃ sa sc, v = .slice sa ts.length sc ∧ ts.length ≤ sc ∧ sc ≤ 9223372036854775807 ∧ ∀ i, i < ts.length → ∃ b off x, sa = some ⟨b, off, none⟩ ∧ x.length = 33 ∧ x.toArray.all (·.oneCell') = true ∧ ∀ V, Below w.heap.size w V → V.rangeAt b (off + i * 33) x ∧ TV V (.agg x.toArray) (ts.getD i ten0) := by
 obtain ⟨zs, hz, hr, hq⟩ := h
 have hN0 : (zs.map zc).length = ts.length := by rw [List.length_map, ← hz, List.length_map]
 have hrr := hr
 obtain ⟨sa, sc, rfl, hl, hb, -⟩ := hrr
 rw [hN0] at hr hl ⊢
 refine ⟨sa, sc, rfl, hl, hb, fun i hi => ?_⟩
 have hil : i < zs.length := by rw [List.length_map] at hN0; omega
 obtain ⟨b, off, x, e1, e2, e3, e4, e5⟩ := tsv_at hr hq i hil
 rw [hz] at e5
 refine ⟨b, off, x, e1, e3, e4, fun V hV => ⟨fun j u hj => ?_, ?_⟩⟩
 ·have h := e2 j u hj
  rw [hV.cell (p := ⟨b, off + i * 33 + j, none⟩) (cell_lt h)]
  exact h
 ·obtain ⟨hl, p, s, q, e, h1, h2, h3⟩ := e5
  exact ⟨hl, p, s, q, e, h1.below ux_ne hV (Nat.le_refl _), h2.below px_ne hV (Nat.le_refl _), h3.below px_ne hV (Nat.le_refl _)⟩
def Lgts (ts : List Ten) (m : Nat) : Prop := ts.length ≤ m ∧ ∀ i, i < ts.length → Lgt (ts.getD i ten0)
instance (ts : List Ten) (m : Nat) : Decidable (Lgts ts m) := by unfold Lgts; infer_instance
end Go.Proofs.YtneciccdiledfaaGreatDoor
namespace Go.Proofs.YtneciccdiledfaaGreatDoor
open Go.RowKit
open Sm
open Cf
theorem TSame.symm {t z : Ten} (h : TSame t z) : TSame z t := by
 obtain ⟨a, b, c, d, e, f, g, h, i, j, k, l, m, n, o, p⟩ := h
 exact ⟨a.symm, b.symm, c.symm, d.symm, e.symm, f.symm, g.symm, h.symm, i.symm, j.symm, k.symm, l.symm, m.symm, n.symm, o.symm, p.symm⟩
def TSames (a b : List Ten) : Prop := a.length = b.length ∧ ∀ i, i < a.length → TSame (a.getD i ten0) (b.getD i ten0)
def CSame (a b : Cgf) : Prop := a.ip = b.ip ∧ a.mac = b.mac ∧ a.omac = b.omac ∧ a.nmac = b.nmac ∧ a.key = b.key ∧ a.drain = b.drain ∧ TSames a.ten b.ten
end Go.Proofs.YtneciccdiledfaaGreatDoor
namespace Go.Proofs.YtneciccdiledfaaGreatDoor
open Go.RowKit
open Sm
open Cf
theorem owb_rw' {V : World} {T : TypeId} {sz : Nat} {v : Value} {xs : List (List Value)} {B : List (Nat × Obj)} (hx : ∀ x ∈ xs, x.length = sz) (h : OwB T sz v xs.length xs.flatten B) (hB : ∀ p ∈ B, V.heap[p.1]? = some p.2) : Rw V sz v xs := by
 rcases h.2 with ⟨rfl, e, rfl⟩ | ⟨g, cap, cur, rfl, rfl, h1, h2, h3, h4⟩
 ·have : xs = [] := List.eq_nil_of_length_eq_zero e
  subst this
  exact ⟨none, 0, rfl, Nat.le_refl _, by omega, fun _ => rfl, Or.inl rfl⟩
 ·have hg := hB _ (List.mem_cons_self ..)
  refine ⟨some ⟨g, 0, none⟩, cap, rfl, h1, by simpa [maxLen] using h2, nofun, Or.inr ⟨g, 0, rfl, fun i hi j u hj => ?_⟩⟩
  have h5 := flat_at xs i j u hx hj
  rw [← h4] at h5
  have hc : V.cell? ⟨g, 0 + i * sz + j, none⟩ = cur[0 + i * sz + j]? := by
   unfold World.cell?
   simp [hg]
  rw [hc, Nat.zero_add]
  rw [List.getElem?_take] at h5
  split at h5
  ·rw [← Array.getElem?_toList]; exact h5
  ·cases h5
end Go.Proofs.YtneciccdiledfaaGreatDoor
namespace Go.Proofs.YtneciccdiledfaaGreatDoor
open Go.RowKit
open Ad
open Sm (IsBytes)
namespace La
theorem line_at : ∀ (ls : List (List (List UInt8))) (e : Nat), (∀ l ∈ ls, LFree l) → (ls.flatMap spc)[e]? = some 10 → ∃ A ws B, ls = A ++ ws :: B ∧ e = (A.flatMap spc).length + (Lib.join ws [32]).length
 | [], e, _, h => by simp at h
 | l :: ls, e, hf, h => by
  have hl := hf l (by simp)
  have hj := join_no10 hl.2
  rw [List.flatMap_cons] at h
  by_cases h1 : e < (spc l).length
  ·rw [List.getElem?_append_left h1] at h
   have h2 : e = (Lib.join l [32]).length := by
    unfold spc at h h1
    rw [List.length_append] at h1
    simp only [List.length_cons, List.length_nil] at h1
    rcases Nat.lt_or_ge e (Lib.join l [32]).length with h3 | h3
    ·rw [List.getElem?_append_left h3] at h
     exact absurd rfl (hj 10 (List.mem_of_getElem? h))
    ·omega
   exact ⟨[], l, ls, rfl, by simpa using h2⟩
  ·rw [List.getElem?_append_right (by omega)] at h
   obtain ⟨A, ws, B, e1, e2⟩ := line_at ls _ (fun x hx => hf x (by simp [hx])) h
   refine ⟨l :: A, ws, B, by rw [e1]; rfl, ?_⟩
   rw [List.flatMap_cons, List.length_append]; omega
theorem spc_split (A B : List (List (List UInt8))) (ws : List (List UInt8)) : (A ++ ws :: B).flatMap spc = (A.flatMap spc ++ Lib.join ws [32]) ++ 10 :: B.flatMap spc := by
 rw [List.flatMap_append, List.flatMap_cons]
 unfold spc
 simp
theorem txt_end (c : Cgf) : ∃ l0, txt c = l0 ++ [10] := by
 rcases lines_end (lnsOf c) with h | h
 ·simp [lnsOf] at h
 ·exact h
theorem txt_gate (c : Cgf) : ∃ r, txt c = wGateway ++ 32 :: r := by
 unfold txt lnsOf
 rw [List.flatMap_cons]
 have e : spc (txtG c) = wGateway ++ (32 :: (Lib.join [ipx c.ip, mact c.mac, mact c.omac, mact c.nmac, keyt c.key, wDrain, dec c.drain] [32] ++ [10])) := by
  unfold spc txtG
  rw [Lib.join_cons, Lib.join_cons]; simp [Lib.joinTail]
 rw [e]
 exact ⟨_, by rw [List.append_assoc]; rfl⟩
theorem end_late {c : Cgf} {e : Nat} (h : (txt c)[e]? = some 10) : 7 < e := by
 obtain ⟨r, hr⟩ := txt_gate c
 rw [hr] at h
 rcases Nat.lt_or_ge 7 e with h1 | h1
 ·exact h1
 ·exfalso
  have : e = 0 ∨ e = 1 ∨ e = 2 ∨ e = 3 ∨ e = 4 ∨ e = 5 ∨ e = 6 ∨ e = 7 := by omega
  rcases this with rfl | rfl | rfl | rfl | rfl | rfl | rfl | rfl <;> simp [wGateway] at h
theorem gate_blank (c : Cgf) : (txt c)[7]? = some 32 := by
 obtain ⟨r, hr⟩ := txt_gate c
 rw [hr]; rfl
end La
theorem info_int : (Tryz.prog.info? 3).map (fun i => (i.zero, i.size, i.bytes)) = some (some (.int .i64 0), 1, 8) := by kernel_rfl
def ints (l : List Nat) : List Value := l.map fun (x : Nat) => .int .i64 (x : Int)
theorem wpList_append_int (w : World) {ops : Array Oper} {rest : List Oper} {o : Oper} {a : Act} {Q : Exit → Act → World → Prop} (hgd : o.guard = none)
  (s x : Operand) (ho : o.op = Op.call { callee := Callee.builtin Builtin.append, args := #[s, x], argTypes := #[56, 56] }) (base : Nat)
  (v : Value) (n : Nat) (xs : List Value) (hs : a.eval s = v) (hown : w.ownsRow base 3 1 v n xs) (ad : Addr) (c : Nat) (t : Int)
  (hx : a.eval x = .slice (some ad) 1 c) (hc : w.cell? ad = some (.int .i64 t)) (hbd : n ≤ 100000) (hbase : base ≤ w.heap.size)
  (h : ∀ (v' : Value) (w' : World), w'.ownsRow base 3 1 v' (n + 1) (xs ++ [.int .i64 t]) → w.grownBy w' v.ownBlock → wpList Tryz.prog ops Q rest (a.put o.dst v') w') :
  wpList Tryz.prog ops Q (o :: rest) a w := by
 obtain ⟨i0, hi, hz0, hz1, hz2⟩ := info_parts info_int
 refine wpList_append_own w hgd s x 56 ho base 3 i0 (.int .i64 0) 1 8 Tryz.underlying56 hi hz0 hz1 hz2 rfl (by decide) v n xs hs hown ad 1 c [.int .i64 t] hx (by simp) ?_ (by simp [Value.oneCell']) (by unfold maxLen; omega) (by omega) hbase ?_
 ·intro j u hj
  match j, hj with
  | 0, hj =>
   simp at hj
   subst hj
   simpa [Addr.add] using hc
  | j + 1, hj => simp at hj
 ·intro v' w' h1 h2 _
  exact h v' w' h1 h2
theorem own_int {w : World} {B : Nat} {v : Value} {n : Nat} {l : List Nat} (h : w.ownsRow B 3 1 v n (ints l)) (hn : 0 < n) :
  ∃ g cap, v = .slice (some ⟨g, 0, none⟩) n cap ∧ n ≤ cap ∧ ∀ (j x : Nat), l[j]? = some x → w.cell? ⟨g, j, none⟩ = some (.int .i64 (x : Int)) := by
 have h0 := h
 rcases h.2 with ⟨rfl, e⟩ | ⟨g, cap, cur, rfl, hb, hg, hc, hm, hsz, hx⟩
 ·omega
 ·refine ⟨g, cap, rfl, by omega, fun j x hj => ?_⟩
  have := h0.cells (g := g) rfl j (.int .i64 (x : Int)) (by simp [ints, hj])
  by_cases e : j = 0
  ·subst e; simpa [Addr.add] using this
  ·simpa [Addr.add, e] using this
end Go.Proofs.YtneciccdiledfaaGreatDoor
