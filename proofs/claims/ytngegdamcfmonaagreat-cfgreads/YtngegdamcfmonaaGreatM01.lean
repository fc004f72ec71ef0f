/-
  Plain mathematics of the Internet's checksum, with no program in it: folding is the residue by 65535 (with the two noughts told apart), and a sum with end-around carry folds to what the plain sum folds to.
  Rows of bytes in memory: what a slice of bytes reads as, rows that the call itself made, and bytes or noughts appended to them. Of no one program.
  Laws of no one program: bytes copied into a row of the call's own, whatever lies beside it; bytes made; a cell of a block.
  What each function of package sum (and each of the document's own, lychref1) answers, as contracts: whatever the arguments, in whatever memory.
-/
import Derived.Laws.BitsLemmas
import Derived.Laws.BitsAllLaws
import Derived.Test.YtngegdamcfmonaaGreatRows
import Derived.WalkKit
import Derived.WalkSpells
import Derived.WalkLawsBesides
import Derived.Laws.AppendOwnNone
import Derived.Lib.AppendZerosOnto
import Derived.Laws.CopyOwn
import Derived.Deep.OwnRows
import Derived.Deep.RegionHeld3
import Derived.Deep.QuietTactic
import Derived.BigQuiet
import Derived.Deep.DeepCutAuto
namespace Go.Proofs.YtngegdamcfmonaaGreat
namespace Sm

theorem wraps_u16 (n : Int) (h0 : 0 ≤ n) (h1 : n < 2 ^ 16) : IntKind.u16.wrap n = n := by
  simp [IntKind.wrap, IntKind.bits, IntKind.signed]; omega
theorem wraps_u32 (n : Int) (h0 : 0 ≤ n) (h1 : n < 2 ^ 32) : IntKind.u32.wrap n = n := by rw [IntKind.wrap_u32]; omega
theorem wraps_u64 (n : Int) (h0 : 0 ≤ n) (h1 : n < 2 ^ 64) : IntKind.u64.wrap n = n := by
  simp [IntKind.wrap, IntKind.bits, IntKind.signed]; omega

theorem sm_low32 (x : Int) (h0 : 0 ≤ x) (h1 : x ≤ 4294967295) : bits .and .u32 x 65535 = x % 65536 :=
  bits_mask .u32 32 (by decide) wraps_u32 16 (by decide) x h0 (by omega)
theorem sm_low64 (x : Int) (h0 : 0 ≤ x) (h1 : x ≤ 18446744073709551615) : bits .and .u64 x 65535 = x % 65536 :=
  bits_mask .u64 64 (by decide) wraps_u64 16 (by decide) x h0 (by omega)
theorem sm_word (x y : Int) (h0 : 0 ≤ x) (h1 : x ≤ 255) (h2 : 0 ≤ y) (h3 : y ≤ 255) : bits .or .u16 (x * 256) y = x * 256 + y :=
  bits_join .u16 16 (by decide) wraps_u16 8 (x * 256) y (by omega) (by omega) (by omega) h2 (by omega) (by omega)

theorem nat_not16 (b : Nat) (hb : b < 65536) : 65535 ^^^ b = 65535 - b := by
  have h := congrArg BitVec.toNat (BitVec.allOnes_xor (x := BitVec.ofNat 16 b))
  simpa [BitVec.toNat_xor, BitVec.toNat_not, Nat.mod_eq_of_lt hb] using h
theorem sm_not16 (x : Int) (h0 : 0 ≤ x) (h1 : x ≤ 65535) : bits .xor .u16 IntKind.u16.max x = 65535 - x := by
  obtain ⟨a, rfl⟩ := Int.eq_ofNat_of_zero_le h0
  have e : IntKind.u16.max = ((65535 : Nat) : Int) := by decide
  rw [e, u16_xor_nat 65535 a (by omega) (by omega), nat_not16 a (by omega)]
  omega

/-- What a sum folds to. -/
def foldv (s : Int) : Int := if s = 0 then 0 else (s - 1) % 65535 + 1
theorem foldv_range (s : Int) : 0 ≤ foldv s ∧ foldv s ≤ 65535 := by unfold foldv; split <;> omega
theorem foldv_halves (s : Int) (h : 0 ≤ s) : foldv (s / 65536 + s % 65536) = foldv s := by
  unfold foldv; split <;> split <;> omega
theorem foldv_small (s : Int) (h0 : 0 ≤ s) (h1 : s ≤ 65535) : foldv s = s := by unfold foldv; split <;> omega
theorem foldv_eq (s t : Int) (h : (s - t) % 65535 = 0) (hz : s = 0 ↔ t = 0) : foldv s = foldv t := by
  unfold foldv
  by_cases e : s = 0
  · rw [if_pos e, if_pos (hz.1 e)]
  · rw [if_neg e, if_neg (fun c => e (hz.2 c))]; omega

/-- The i-th word of a list of bytes. -/
def wd (l : List Int) (i : Nat) : Int := l.getD (2 * i) 0 * 256 + l.getD (2 * i + 1) 0
def IsBytes (l : List Int) : Prop := ∀ i : Nat, 0 ≤ l.getD i 0 ∧ l.getD i 0 ≤ 255
theorem wd_range {l : List Int} (h : IsBytes l) (i : Nat) : 0 ≤ wd l i ∧ wd l i ≤ 65535 := by
  have a := h (2 * i); have b := h (2 * i + 1); unfold wd; omega
/-- One word put on, with the carry at the end. -/
def addc (s w : Int) : Int := if s + w ≤ 4294967295 then s + w else s + w - 4294967295
theorem addc_range (s w : Int) (h0 : 0 ≤ s) (h1 : s ≤ 4294967295) (h2 : 0 ≤ w) (h3 : w ≤ 65535) : 0 ≤ addc s w ∧ addc s w ≤ 4294967295 := by
  unfold addc; split <;> omega
/-- The first k words put on s. -/
def acc (l : List Int) (s : Int) : Nat → Int
  | 0 => s
  | k + 1 => addc (acc l s k) (wd l k)
theorem acc_succ (l : List Int) (s : Int) (k : Nat) : acc l s (k + 1) = addc (acc l s k) (wd l k) := rfl
theorem acc_range {l : List Int} (hl : IsBytes l) (s : Int) (h0 : 0 ≤ s) (h1 : s ≤ 4294967295) (k : Nat) : 0 ≤ acc l s k ∧ acc l s k ≤ 4294967295 := by
  induction k with
  | zero => exact ⟨h0, h1⟩
  | succ k ih => have := wd_range hl k; exact addc_range _ _ ih.1 ih.2 this.1 this.2
/-- The plain sum of the first k words. -/
def tot (l : List Int) : Nat → Int
  | 0 => 0
  | k + 1 => tot l k + wd l k
theorem tot_succ (l : List Int) (k : Nat) : tot l (k + 1) = tot l k + wd l k := rfl
theorem tot_nonneg {l : List Int} (hl : IsBytes l) (k : Nat) : 0 ≤ tot l k := by
  induction k with
  | zero => simp [tot]
  | succ k ih => have := wd_range hl k; simp only [tot]; omega
theorem acc_tot {l : List Int} (hl : IsBytes l) (s : Int) (h0 : 0 ≤ s) (h1 : s ≤ 4294967295) (k : Nat) :
    (acc l s k - (s + tot l k)) % 65535 = 0 ∧ (acc l s k = 0 ↔ s + tot l k = 0) := by
  induction k with
  | zero => simp [acc, tot]
  | succ k ih =>
    have a := wd_range hl k; have b := acc_range hl s h0 h1 k; have c := tot_nonneg hl k
    simp only [acc, tot, addc]
    split <;> omega
theorem foldv_acc {l : List Int} (hl : IsBytes l) (s : Int) (h0 : 0 ≤ s) (h1 : s ≤ 4294967295) (k : Nat) : foldv (acc l s k) = foldv (s + tot l k) :=
  foldv_eq _ _ (acc_tot hl s h0 h1 k).1 (acc_tot hl s h0 h1 k).2

/-- How many words so many bytes have. -/
def cnt (n : Nat) : Nat := n / 2 + n % 2
theorem cnt_cast (n : Nat) : ((cnt n : Nat) : Int) = (n : Int) / 2 + (n : Int) % 2 := by unfold cnt; omega
/-- The checksum of a list of bytes. -/
def ofv (l : List Int) : Int := 65535 - foldv (tot l (cnt l.length))
theorem ofv_range (l : List Int) : 0 ≤ ofv l ∧ ofv l ≤ 65535 := by have := foldv_range (tot l (cnt l.length)); unfold ofv; omega
/-- The updated checksum. -/
def updv (old was now : Int) : Int := 65535 - foldv ((65535 - old) + (65535 - was) + now)
theorem updv_range (old was now : Int) : 0 ≤ updv old was now ∧ updv old was now ≤ 65535 := by have := foldv_range ((65535 - old) + (65535 - was) + now); unfold updv; omega
/-- The pseudo header's sum. -/
def psv (src dst proto n : Int) : Int := foldv ((src / 65536 + src % 65536) + (dst / 65536 + dst % 65536) + proto + n % 65536)
/-- Of the two noughts either. -/
def sameB (a b : Int) : Bool := a == b || (a == 0 && b == 65535) || (a == 65535 && b == 0)

theorem tot_same {l m : List Int} (k : Nat) (h : ∀ i, i < k → wd l i = wd m i) : tot l k = tot m k := by
  induction k with
  | zero => rfl
  | succ k ih => simp only [tot]; rw [ih (fun i hi => h i (by omega)), h k (by omega)]
theorem acc_same {l m : List Int} (s : Int) (k : Nat) (h : ∀ i, i < k → wd l i = wd m i) : acc l s k = acc m s k := by
  induction k with
  | zero => rfl
  | succ k ih => simp only [acc]; rw [ih (fun i hi => h i (by omega)), h k (by omega)]
theorem tot_beyond (l : List Int) (k j : Nat) (h : l.length ≤ 2 * k) : tot l (k + j) = tot l k := by
  induction j with
  | zero => rfl
  | succ j ih =>
    rw [← Nat.add_assoc, tot_succ, ih]
    simp [wd, List.getD, List.getElem?_eq_none (show l.length ≤ 2 * (k + j) by omega), List.getElem?_eq_none (show l.length ≤ 2 * (k + j) + 1 by omega)]

end Sm
end Go.Proofs.YtngegdamcfmonaaGreat

namespace Go.Proofs.YtngegdamcfmonaaGreat
open Go.RowKit
open Sm
set_option linter.unusedVariables false

theorem ret_int {k : IntKind} {a b : Int} (h : a = b) : Ending.returned (.int k a) = .returned (.int k b) := by rw [h]

/-- A slice whose elements are the bytes l. -/
structure Row (w : World) (a : Option Addr) (l : List Int) : Prop where
  bytes : IsBytes l
  len : l.length ≤ 140737488351232
  cells : l = [] ∨ ∃ b off, a = some ⟨b, off, none⟩ ∧ ∀ i, i < l.length → w.cell? ⟨b, off + i, none⟩ = some (.int .u8 (l.getD i 0))

theorem cell_lt {w : World} {p : Addr} {v : Value} (h : w.cell? p = some v) : p.block < w.heap.size := by
  by_cases hc : p.block < w.heap.size
  · exact hc
  · have : w.heap[p.block]? = none := by simp; omega
    simp [World.cell?, this] at h

theorem Row.below {w w' : World} {a : Option Addr} {l : List Int} (h : Row w a l) {B : Nat} (hb : Below B w w') (hB : w.heap.size ≤ B) : Row w' a l := by
  refine ⟨h.bytes, h.len, ?_⟩
  rcases h.cells with e | ⟨b, off, rfl, hc⟩
  · exact Or.inl e
  · refine Or.inr ⟨b, off, rfl, fun i hi => ?_⟩
    have := cell_lt (hc i hi)
    rw [hb.cell (p := ⟨b, off + i, none⟩) (by simp at this ⊢; omega)]
    exact hc i hi

theorem info5 : (Tryz.prog.info? 5).map (fun i => (i.zero, i.size, i.bytes)) = some (some (.int .u8 0), 1, 1) := by kernel_rfl

theorem row_nil (w : World) : Row w none [] := ⟨fun i => by simp, by simp, Or.inl rfl⟩

theorem take_getD (zs : List Int) (len i : Nat) (h : i < len) : (zs.take len).getD i 0 = zs.getD i 0 := by
  simp [List.getD, h]

theorem bytes_take {zs : List Int} (h : ∀ n ∈ zs, 0 ≤ n ∧ n ≤ 255) (len : Nat) : IsBytes (zs.take len) := by
  intro i
  by_cases hi : i < (zs.take len).length
  · have : (zs.take len).getD i 0 = (zs.take len)[i] := by simp [List.getD, List.getElem?_eq_getElem hi]
    rw [this]
    exact h _ (List.mem_of_mem_take (List.getElem_mem hi))
  · have : (zs.take len).getD i 0 = 0 := by simp [List.getD, List.getElem?_eq_none (Nat.le_of_not_lt hi)]
    rw [this]; omega

theorem row_of {w : World} {x : Addr} {len cap : Nat} {zs : List Int} (hl : len ≤ cap) (hz : zs.length = cap) (hcell : ∀ i, i < zs.length → w.cell? (x.add i) = some (.int .u8 (zs.getD i 0)))
    (hb : ∀ n ∈ zs, 0 ≤ n ∧ n ≤ 255) (hm : len ≤ 140737488351232) : Row w (some x) (zs.take len) ∧ (zs.take len).length = len := by
  have hlen : (zs.take len).length = len := by simp; omega
  refine ⟨⟨bytes_take hb len, by omega, ?_⟩, hlen⟩
  by_cases h0 : len = 0
  · exact Or.inl (by subst h0; simp)
  · obtain ⟨b, off, spot⟩ := x
    have hc := hcell 0 (by omega)
    have hspot : spot = none := by simpa [Addr.add] using World.cell?_spot hc
    subst hspot
    refine Or.inr ⟨b, off, rfl, fun i hi => ?_⟩
    rw [take_getD _ _ _ (by omega)]
    have hci := hcell i (by omega)
    by_cases e : i = 0
    · subst e; simpa [Addr.add] using hci
    · simpa [Addr.add, e] using hci

/-- A slice of the call's own that holds the bytes l. -/
def OwnB (w : World) (B g cap : Nat) (l : List Int) : Prop := w.ownsRow B 5 1 (.slice (some ⟨g, 0, none⟩) l.length cap) l.length (l.map (Value.int .u8))

theorem getD_eq {l : List Int} {i : Nat} (h : i < l.length) : l.getD i 0 = l[i] := by simp [List.getD, List.getElem?_eq_getElem h]

theorem OwnB.cell {w : World} {B g cap : Nat} {l : List Int} (h : OwnB w B g cap l) (i : Nat) (hi : i < l.length) : w.cell? ⟨g, i, none⟩ = some (.int .u8 (l.getD i 0)) := by
  rw [World.ownsRow.cellAt h i (by omega), getD_eq hi]
  simp [hi]

theorem OwnB.row {w : World} {B g cap : Nat} {l : List Int} (h : OwnB w B g cap l) (hb : IsBytes l) (hl : l.length ≤ 140737488351232) : Row w (some ⟨g, 0, none⟩) l :=
  ⟨hb, hl, Or.inr ⟨g, 0, rfl, fun i hi => by rw [Nat.zero_add]; exact h.cell i hi⟩⟩

theorem OwnB.store {w : World} {B g cap : Nat} {l : List Int} (h : OwnB w B g cap l) (j : Nat) (x : Int) : OwnB (w.setCell ⟨g, j, none⟩ (.int .u8 x)) B g cap (l.set j x) := by
  have := (World.ownsRow.stored h j (.int .u8 x)).1
  unfold OwnB
  rw [List.length_set, List.map_set]
  exact this

theorem OwnB.free {w : World} {B g cap : Nat} {l : List Int} (h : OwnB w B g cap l) (j : Nat) : w.frozen? ⟨g, j, none⟩ = false := World.ownsRow.frozenAt h j

/-- What an append onto nothing hands back. -/
theorem own_shape {w : World} {B : Nat} {v : Value} {l : List Int} {n : Nat} (hn : n = l.length) (h : w.ownsRow B 5 1 v (0 + n) ([] ++ l.map (Value.int .u8))) (hl : 0 < l.length) :
    ∃ g cap, v = .slice (some ⟨g, 0, none⟩) l.length cap ∧ B ≤ g ∧ OwnB w B g cap l := by
  subst hn
  rw [Nat.zero_add, List.nil_append] at h
  obtain ⟨h1, h2⟩ := h
  rcases h2 with ⟨rfl, h3⟩ | ⟨g, cap, cur, rfl, hg, r⟩
  · omega
  · exact ⟨g, cap, rfl, hg, h1, Or.inr ⟨g, cap, cur, rfl, hg, r⟩⟩

theorem Row.news {w : World} {b off : Nat} {l : List Int} (h : Row w (some ⟨b, off, none⟩) l) :
    ∀ (j : Nat) (u : Value), (l.map (Value.int .u8))[j]? = some u → w.cell? ((⟨b, off, none⟩ : Addr).add j) = some u := by
  intro j u hj
  have hjl : j < l.length := by
    have := (List.getElem?_eq_some_iff.mp hj).1
    simpa using this
  have e : ((⟨b, off, none⟩ : Addr).add j) = ⟨b, off + j, none⟩ := by
    by_cases e : j = 0
    · subst e; simp [Addr.add]
    · simp [Addr.add, e]
  rcases h.cells with e' | ⟨b', off', e', hc⟩
  · subst e'; simp at hjl
  · simp only [Option.some.injEq, Addr.mk.injEq] at e'
    obtain ⟨rfl, rfl, -⟩ := e'
    rw [e, hc j hjl]
    rw [getD_eq hjl]
    simpa [hjl] using hj

theorem wpList_wanted {P : Program} {ops : Array Oper} {Q : Exit → Act → World → Prop} {a : Act} {w : World} {rest : List Oper} {o : Oper} (hw : Region.wanted o (yielded ops a.tmps) = true)
    (h : ∀ K : Act → World → Prop, (∀ a w, wpList P ops Q rest a w → K a w) → o.wp P a w K Q) : wpList P ops Q (o :: rest) a w :=
  wpList_step fun K hK => by rw [if_pos hw]; exact h K hK

theorem zeroCells_list (m : Nat) : (Builtin.zeroCells (Value.int .u8 0).cells m).toList = List.replicate m (.int .u8 0) := by
  apply List.ext_getElem
  · simp [Builtin.zeroCells, Value.cells]
  · intro i h1 h2
    simp [Builtin.zeroCells, Value.cells, Nat.mod_one]

theorem run_append_zeros_room {P : Program} (w : World) (t tn ty e : TypeId) (i : TypeInfo) (kq kn : IntKind) (ht : P.underlying t = some (.slice e)) (htn : P.underlying tn = some (.int kn)) (hi : P.info? e = some i) (hz : i.zero = some (.int .u8 0)) (hs : i.size = 1) (hby : i.bytes = 1)
    (g sLen sCap : Nat) (cur : Array Value) (hg : w.heap[g]? = some (.cells cur e (0, 0))) (m : Nat) (h0 : 0 < m) (hm : m ≤ 140737488351232)
    (hroom : sLen + m ≤ sCap) (hfit : sLen + m ≤ cur.size) :
    (Builtin.append_ #[t, tn] ty #[.slice (some ⟨g, 0, none⟩) sLen sCap, .int kq m]).run P w =
      .ok (.slice (some ⟨g, 0, none⟩) (sLen + m) sCap) (w.setRow g (cur.toList.take sLen ++ List.replicate m (Value.int .u8 0) ++ cur.toList.drop (sLen + m)).toArray) := by
  have hst := run_storeCells_at P g sLen e (List.replicate m (.int .u8 0)) 0 cur w hg (by simpa using hfit) (by intro u hu; rw [List.mem_replicate] at hu; rw [hu.2]; rfl)
  simp only [Nat.add_zero, List.length_replicate] at hst
  have hm0 : m ≠ 0 := by omega
  have hw : IntKind.i64.wrap (m : Int) = m := by rw [IntKind.wrap_i64]; omega
  have hneg : ¬ ((m : Int) < 0) := by omega
  have h48i : ¬ (281474976710656 < (m : Int)) := by omega
  have hzl := zeroCells_list m
  simp [Builtin.append_, run_underlying ht, run_underlying htn, sizeOf, typeInfo, zeroValue, hi, hz, hs, hby, asInt, asIntOf, hw, hneg, hm0, h48i, hroom, Addr.add_lit, hzl, hst]

theorem run_append_zeros_none {P : Program} (w : World) (t tn ty e : TypeId) (i : TypeInfo) (kq kn : IntKind) (ht : P.underlying t = some (.slice e)) (htn : P.underlying tn = some (.int kn)) (hi : P.info? e = some i)
    (base : Option Addr) (sLen sCap : Nat) (hc : sLen ≤ sCap) :
    (Builtin.append_ #[t, tn] ty #[.slice base sLen sCap, .int kq 0]).run P w = .ok (.slice base sLen sCap) w := by
  have hw : IntKind.i64.wrap 0 = 0 := by decide
  cases base <;> simp [Builtin.append_, run_underlying ht, run_underlying htn, sizeOf, typeInfo, hi, asInt, asIntOf, hw, hc, storeCells]

/-- Noughts behind a row of the call's own. -/
theorem run_append_zeros_own {tn : TypeId} {kn : IntKind} (htn : Tryz.prog.underlying tn = some (.int kn)) (w : World) (base : Nat) (ty : TypeId) (v : Value) (n : Nat) (xs : List Value) (hown : w.ownsRow base 5 1 v n xs) (m : Nat) (hnm : n + m ≤ 140737488351232) (hbase : base ≤ w.heap.size) :
    ∃ v' w', (Builtin.append_ #[40, tn] ty #[v, .int kn m]).run Tryz.prog w = .ok v' w' ∧ w'.ownsRow base 5 1 v' (n + m) (xs ++ List.replicate m (.int .u8 0)) ∧ w.grownBy w' v.ownBlock := by
  obtain ⟨i, hi, hz, hs, hby⟩ := info_parts info5
  have hlen : (xs ++ List.replicate m (Value.int .u8 0)).length = (n + m) * 1 := by rw [List.length_append, hown.1, List.length_replicate]; omega
  by_cases hm0 : m = 0
  · subst hm0
    refine ⟨v, w, ?_, by simpa using hown, ⟨rfl, rfl, rfl, Nat.le_refl _, fun _ _ _ => rfl⟩⟩
    rcases hown.2 with ⟨rfl, rfl⟩ | ⟨g, cap, cur, rfl, hbg, hg, hnc, hcm, hcs, htake⟩
    · exact run_append_zeros_none w 40 tn ty 5 i kn kn Tryz.underlying40 htn hi none 0 0 (Nat.le_refl _)
    · exact run_append_zeros_none w 40 tn ty 5 i kn kn Tryz.underlying40 htn hi _ n cap hnc
  have grown : ∀ (old : Nat), ∀ (row : Option Nat),
      (w.drew.alloc (.cells (xs.toArray ++ Builtin.zeroCells (Value.int .u8 0).cells m ++ Builtin.zeroCells (Value.int .u8 0).cells (grownCap w (n + m) old 5 - (n + m))) 5)).ownsRow base 5 1
        (.slice (some ⟨w.heap.size, 0, none⟩) (n + m) (grownCap w (n + m) old 5)) (n + m) (xs ++ List.replicate m (.int .u8 0)) ∧
      w.grownBy (w.drew.alloc (.cells (xs.toArray ++ Builtin.zeroCells (Value.int .u8 0).cells m ++ Builtin.zeroCells (Value.int .u8 0).cells (grownCap w (n + m) old 5 - (n + m))) 5)) row := by
    intro old row
    have hge := grownCap_ge w (n + m) old 5
    have hcm : grownCap w (n + m) old 5 ≤ maxLen := grownCap_le_maxLen w (n + m) old 5 (by unfold maxLen; omega)
    refine ⟨⟨hlen, .inr ⟨w.heap.size, _, _, rfl, hbase, heap_alloc_new w.drew _, hge, hcm, ?_, ?_⟩⟩, ⟨rfl, rfl, rfl, by simp, fun k hk _ => Below.heap_alloc w.drew _ k hk⟩⟩
    · have e1 : (Value.int .u8 0).cells.size = 1 := rfl
      simp only [Array.size_append, List.size_toArray, size_zeroCells, hown.1, e1]
      omega
    · simp only [Array.toList_append, zeroCells_list]
      rw [← hlen]
      exact List.take_left
  rcases hown.2 with ⟨rfl, rfl⟩ | ⟨g, cap, cur, rfl, hbg, hg, hnc, hcm, hcs, htake⟩
  · have hx : xs = [] := List.eq_nil_of_length_eq_zero (by simpa using hown.1)
    subst hx
    have hr := Lib.run_append_nil_zeros (P := Tryz.prog) w 40 tn ty 5 i (.int .u8 0) kn kn Tryz.underlying40 htn hi hz m (by omega) (by omega) (by omega) (by rw [hby]; omega)
    have hgr := grown 0 (Value.ownBlock (.slice none 0 0))
    simp only [Nat.zero_add, Array.empty_append] at hgr ⊢
    exact ⟨_, _, hr, hgr.1, hgr.2⟩
  · by_cases hroom : n + m ≤ cap
    · have hr := run_append_zeros_room (P := Tryz.prog) w 40 tn ty 5 i kn kn Tryz.underlying40 htn hi hz hs hby g n cap cur hg m (by omega) (by omega) hroom (by omega)
      refine ⟨_, _, hr, ⟨hlen, .inr ⟨g, cap, _, rfl, hbg, setRow_heap w g cur _ 5 _ hg, hroom, hcm, ?_, ?_⟩⟩, ⟨rfl, rfl, rfl, by simp, fun k _ hk => setRow_other w g k _ (fun e => hk (by simp [Value.ownBlock, e]))⟩⟩
      · simp only [List.size_toArray, List.length_append, List.length_take, List.length_drop, Array.length_toList, List.length_replicate]
        omega
      · rw [Nat.mul_one] at htake
        rw [htake, ← hlen]
        exact List.take_left
    · have holds : ∀ j u, xs[j]? = some u → w.drew.cell? ((⟨g, 0, none⟩ : Addr).add j) = some u := hown.cells (g := g) rfl
      have hf := run_firstCells_some (P := Tryz.prog) w.drew i.size n ⟨g, 0, none⟩ n cap xs (by rw [hs]; exact hown.1) holds
      have hfit : Builtin.nextslicecap (n + m) cap * i.bytes ≤ 281474976710656 := growslice_fits (by omega) (by rw [hby]; omega)
      have hr := Lib.run_append_grow_zeros (P := Tryz.prog) w 40 tn ty 5 i (.int .u8 0) kn kn Tryz.underlying40 htn hi hz _ n cap xs hf m (by omega) (by omega) (by omega) (by omega) (by rw [hby]; omega) hfit
      have hgr := grown cap (Value.ownBlock (.slice (some ⟨g, 0, none⟩) n cap))
      exact ⟨_, _, hr, hgr.1, hgr.2⟩

theorem wp_append_out {o : Oper} {a : Act} {w : World} {K : Act → World → Prop} {Q : Exit → Act → World → Prop} (s x : Operand) (t tn : TypeId)
    (ho : o.op = .call { callee := .builtin .append, args := #[s, x], argTypes := #[t, tn] }) {vs vx : Value} (hs : a.eval s = vs) (hx : a.eval x = vx)
    {v' : Value} {w' : World} (hr : (Builtin.append_ #[t, tn] o.type #[vs, vx]).run Tryz.prog w = .ok v' w') (h : K (a.put o.dst v') w') : o.wp Tryz.prog a w K Q :=
  Lib.wp_append_run w s x t tn ho vs vx hs hx v' w' hr h

/-- So many noughts behind a row of the call's own, the guard met. -/
theorem wpList_append_zeros {tn : TypeId} {kn : IntKind} (htn : Tryz.prog.underlying tn = some (.int kn)) (w : World) {ops : Array Oper} {rest : List Oper} {o : Oper} {a : Act} {Q : Exit → Act → World → Prop} (hgd : Region.wanted o (yielded ops a.tmps) = true)
    (s x : Operand) (ho : o.op = Op.call { callee := Callee.builtin Builtin.append, args := #[s, x], argTypes := #[40, tn] }) (base : Nat)
    (v : Value) (n : Nat) (xs : List Value) (hs : a.eval s = v) (hown : w.ownsRow base 5 1 v n xs) (M : Int) (m : Nat) (hx : a.eval x = .int kn M) (hM : M = m) (hbd : n + m ≤ 140737488351232) (hbase : base ≤ w.heap.size)
    (h : ∀ (v' : Value) (w' : World), w'.ownsRow base 5 1 v' (n + m) (xs ++ List.replicate m (.int .u8 0)) → w.grownBy w' v.ownBlock → wpList Tryz.prog ops Q rest (a.put o.dst v') w') :
    wpList Tryz.prog ops Q (o :: rest) a w := by
  subst hM
  obtain ⟨v', w', hr, h1, h2⟩ := run_append_zeros_own htn w base o.type v n xs hown m hbd hbase
  exact wpList_wanted hgd fun K hK => wp_append_out s x 40 tn ho hs hx hr (hK _ _ (h v' w' h1 h2))

/-- Bytes, whatever their slice, behind a row of the call's own, the guard met. -/
theorem wpList_append_bytesG (w : World) {ops : Array Oper} {rest : List Oper} {o : Oper} {a : Act} {Q : Exit → Act → World → Prop} (hgd : Region.wanted o (yielded ops a.tmps) = true)
    (s x : Operand) (ho : o.op = Op.call { callee := Callee.builtin Builtin.append, args := #[s, x], argTypes := #[40, 40] }) (base : Nat)
    (v : Value) (n : Nat) (xs : List Value) (hs : a.eval s = v) (hown : w.ownsRow base 5 1 v n xs) (ao : Option Addr) (c : Nat) (l : List Int)
    (hx : a.eval x = .slice ao l.length c) (hnil : ao = none → c = 0) (hrow : Row w ao l) (hbd : n + l.length ≤ 140737488355328) (hbase : base ≤ w.heap.size)
    (h : ∀ (v' : Value) (w' : World), w'.ownsRow base 5 1 v' (n + l.length) (xs ++ l.map (Value.int .u8)) → w.grownBy w' v.ownBlock → wpList Tryz.prog ops Q rest (a.put o.dst v') w') :
    wpList Tryz.prog ops Q (o :: rest) a w := by
  obtain ⟨i0, hi, hz0, hz1, hz2⟩ := info_parts info5
  cases ao with
  | none =>
    have hl : l = [] := by
      rcases hrow.cells with e | ⟨b, off, e, _⟩
      · exact e
      · cases e
    subst hl
    rw [hnil rfl] at hx
    have hr := run_append_owned_none (P := Tryz.prog) w base 40 o.type 5 i0 1 Tryz.underlying40 hi v n xs hown
    exact wpList_wanted hgd fun K hK => wp_append_out s x 40 40 ho hs hx hr (hK _ _ (h v w (by simpa using hown) ⟨rfl, rfl, rfl, Nat.le_refl _, fun _ _ _ => rfl⟩))
  | some ad =>
    refine wpList_wanted hgd fun K hK => wp_append_own w s x 40 ho base 5 i0 (.int .u8 0) 1 1 Tryz.underlying40 hi hz0 hz1 hz2 rfl (by decide) v n xs hs hown ad l.length c (l.map (Value.int .u8)) hx (by simp) ?_ (ints_oneCell _ _) (by unfold maxLen; omega) (by omega) hbase ?_
    · rcases hrow.cells with e | ⟨b, off, e, _⟩
      · subst e; intro j u hj; simp at hj
      · cases e; exact hrow.news
    · intro v' w' h1 h2 _
      exact hK _ _ (h v' w' h1 h2)
/-- Bytes, whatever their slice, put behind a row of the call's own. -/
theorem wpList_append_bytes (w : World) {ops : Array Oper} {rest : List Oper} {o : Oper} {a : Act} {Q : Exit → Act → World → Prop} (hgd : o.guard = none)
    (s x : Operand) (ho : o.op = Op.call { callee := Callee.builtin Builtin.append, args := #[s, x], argTypes := #[40, 40] }) (base : Nat)
    (v : Value) (n : Nat) (xs : List Value) (hs : a.eval s = v) (hown : w.ownsRow base 5 1 v n xs) (ao : Option Addr) (c : Nat) (l : List Int)
    (hx : a.eval x = .slice ao l.length c) (hnil : ao = none → c = 0) (hrow : Row w ao l) (hbd : n + l.length ≤ 140737488355328) (hbase : base ≤ w.heap.size)
    (h : ∀ (v' : Value) (w' : World), w'.ownsRow base 5 1 v' (n + l.length) (xs ++ l.map (Value.int .u8)) → w.grownBy w' v.ownBlock → wpList Tryz.prog ops Q rest (a.put o.dst v') w') :
    wpList Tryz.prog ops Q (o :: rest) a w := by
  obtain ⟨i0, hi, hz0, hz1, hz2⟩ := info_parts info5
  cases ao with
  | none =>
    have hl : l = [] := by
      rcases hrow.cells with e | ⟨b, off, e, _⟩
      · exact e
      · cases e
    subst hl
    rw [hnil rfl] at hx
    refine wpList_append_own_none hgd s x 40 ho base 5 i0 1 Tryz.underlying40 hi v n xs hs hown hx ?_
    exact h v w (by simpa using hown) ⟨rfl, rfl, rfl, Nat.le_refl _, fun _ _ _ => rfl⟩
  | some ad =>
    refine wpList_append_own w hgd s x 40 ho base 5 i0 (.int .u8 0) 1 1 Tryz.underlying40 hi hz0 hz1 hz2 rfl (by decide) v n xs hs hown ad l.length c (l.map (Value.int .u8)) hx (by simp) ?_ (ints_oneCell _ _) (by unfold maxLen; omega) (by omega) hbase ?_
    · rcases hrow.cells with e | ⟨b, off, e, _⟩
      · subst e; intro j u hj; simp at hj
      · cases e; exact hrow.news
    · intro v' w' h1 h2 _
      exact h v' w' h1 h2

/-- What a row of the call's own is to its readers. -/
theorem own_row {w : World} {B : Nat} {v : Value} {l : List Int} {n : Nat} (hn : n = l.length) (h : w.ownsRow B 5 1 v n (l.map (Value.int .u8))) (hb : IsBytes l) (hl : l.length ≤ 140737488351232) :
    ∃ ao cap, v = .slice ao l.length cap ∧ Row w ao l := by
  subst hn
  obtain ⟨h1, h2⟩ := h
  rcases h2 with ⟨rfl, h3⟩ | ⟨g, cap, cur, rfl, hg, r⟩
  · have e : l = [] := List.length_eq_zero_iff.mp h3
    subst e
    exact ⟨none, 0, rfl, row_nil w⟩
  · have hob : OwnB w B g cap l := ⟨h1, Or.inr ⟨g, cap, cur, rfl, hg, r⟩⟩
    exact ⟨some ⟨g, 0, none⟩, cap, rfl, hob.row hb hl⟩

namespace Sm
theorem getD_append (a b : List Int) (i : Nat) : (a ++ b).getD i 0 = if i < a.length then a.getD i 0 else b.getD (i - a.length) 0 := by
  by_cases h : i < a.length
  · rw [if_pos h]; simp [List.getD, List.getElem?_append_left h]
  · rw [if_neg h]; simp [List.getD, List.getElem?_append_right (Nat.le_of_not_lt h)]
theorem bytes_append {a b : List Int} (ha : IsBytes a) (hb : IsBytes b) : IsBytes (a ++ b) := by
  intro i; rw [getD_append]; split
  · exact ha i
  · exact hb _
end Sm

theorem own_ge {w : World} {B n : Nat} {e : TypeId} {v : Value} {xs : List Value} (h : w.ownsRow B e 1 v n xs) : ∀ k, v.ownBlock = some k → B ≤ k := by
  intro k hk
  obtain ⟨h1, h2⟩ := h
  rcases h2 with ⟨rfl, h3⟩ | ⟨g, cap, cur, rfl, hg, r⟩
  · cases hk
  · cases hk; exact hg

theorem one_cell_int {k : IntKind} (x : Int) : ∀ (u : Value), u ∈ [Value.int k x] → u.oneCell' = true := by
  intro u hu; simp at hu; subst hu; rfl

end Go.Proofs.YtngegdamcfmonaaGreat

namespace Go.Proofs.YtngegdamcfmonaaGreat
open Go.RowKit
open Sm
set_option linter.unusedVariables false

/-- What a write into block g leaves: g itself anew, all else as it was. -/
structure Wrote (w w' : World) (g : Nat) (new : Array Value) (t : TypeId) : Prop where
  here : w'.heap[g]? = some (.cells new t (0, 0))
  there : ∀ k, k ≠ g → w'.heap[k]? = w.heap[k]?
  size : w'.heap.size = w.heap.size
  below : ∀ B w0, B ≤ g → Below B w0 w → Below B w0 w'

theorem wrote_setRow (w : World) (g : Nat) (cur new : Array Value) (t : TypeId) (hg : w.heap[g]? = some (.cells cur t (0, 0))) : Wrote w (w.setRow g new) g new t :=
  ⟨setRow_heap w g cur _ t _ hg, fun k hk => setRow_other w g k _ (fun e => hk e), by simp [World.setRow], fun B w0 h hb => below_setRow hb h _⟩

theorem wrote_same (w : World) (g : Nat) (cur : Array Value) (t : TypeId) (hg : w.heap[g]? = some (.cells cur t (0, 0))) : Wrote w w g cur t :=
  ⟨hg, fun _ _ => rfl, rfl, fun _ _ _ h => h⟩

theorem run_copy_wrote {P : Program} (w : World) (dT sT ty elem : TypeId) (hu : P.underlying dT = some (.slice elem)) (hsz : (P.info? elem).map (·.size) = some 1)
    (dp sp : Option Addr) (dLen dCap sLen sCap g off : Nat) (cur new : Array Value) (t : TypeId) (hg : w.heap[g]? = some (.cells cur t (0, 0))) (l : List Int) (hn : l.length = Nat.min sLen dLen)
    (hpos : 0 < l.length → dp = some ⟨g, off, none⟩ ∧ ∃ ad, sp = some ad ∧ ∀ j v, (l.map (Value.int .u8))[j]? = some v → w.cell? (ad.add j) = some v)
    (hfit : off + l.length ≤ cur.size) (hnew : new.toList = cur.toList.take off ++ (l.map (Value.int .u8) ++ cur.toList.drop (off + l.length))) :
    ∃ w', (Builtin.copy_ #[dT, sT] ty #[.slice dp dLen dCap, .slice sp sLen sCap]).run P w = .ok (goInt l.length) w' ∧ Wrote w w' g new t := by
  by_cases h0 : l.length = 0
  · obtain rfl : l = [] := List.eq_nil_of_length_eq_zero h0
    have e : new = cur := by apply Array.toList_inj.mp; rw [hnew]; simp
    subst e
    exact ⟨w, run_copy_none (P := P) w dT sT ty elem dp sp dLen dCap sLen sCap hu hsz (by simpa using hn.symm), wrote_same w g new t hg⟩
  · obtain ⟨rfl, ad, rfl, hsrc⟩ := hpos (by omega)
    have hr := run_copy_row (P := P) w dT sT ty elem g off dLen dCap ad sLen sCap cur t (l.map (Value.int .u8)) hu hsz hg (by simpa using hn) hsrc (by simpa using hfit) (ints_oneCell _ _)
    have e : (cur.toList.take off ++ l.map (Value.int .u8) ++ cur.toList.drop (off + (l.map (Value.int .u8)).length)).toArray = new := by
      apply Array.toList_inj.mp; rw [hnew]; simp
    rw [e, List.length_map] at hr
    exact ⟨_, hr, wrote_setRow w g cur new t hg⟩

theorem wpList_copy_bytes {w : World} {ops : Array Oper} {rest : List Oper} {o : Oper} {a : Act} {Q : Exit → Act → World → Prop} (hgd : Region.wanted o (yielded ops a.tmps) = true) (d s : Operand) (dT sT : TypeId)
    (ho : o.op = .call { callee := .builtin .copy, args := #[d, s], argTypes := #[dT, sT] }) (hu : Tryz.prog.underlying dT = some (.slice 5))
    (dp sp : Option Addr) (dLen dCap sLen sCap : Nat) (hd : a.eval d = .slice dp dLen dCap) (hs : a.eval s = .slice sp sLen sCap)
    (g off : Nat) (cur new : Array Value) (t : TypeId) (hg : w.heap[g]? = some (.cells cur t (0, 0))) (l : List Int) (hn : l.length = Nat.min sLen dLen)
    (hpos : 0 < l.length → dp = some ⟨g, off, none⟩ ∧ ∃ ad, sp = some ad ∧ ∀ j v, (l.map (Value.int .u8))[j]? = some v → w.cell? (ad.add j) = some v)
    (hfit : off + l.length ≤ cur.size) (hnew : new.toList = cur.toList.take off ++ (l.map (Value.int .u8) ++ cur.toList.drop (off + l.length)))
    (h : ∀ w', Wrote w w' g new t → wpList Tryz.prog ops Q rest (a.put o.dst (goInt l.length)) w') :
    wpList Tryz.prog ops Q (o :: rest) a w := by
  have hsz : (Tryz.prog.info? 5).map (·.size) = some 1 := by kernel_rfl
  obtain ⟨w', hr, hw⟩ := run_copy_wrote (P := Tryz.prog) w dT sT o.type 5 hu hsz dp sp dLen dCap sLen sCap g off cur new t hg l hn hpos hfit hnew
  refine wpList_wanted hgd fun K hK => ?_
  unfold Oper.wp
  simp [execOp, ho, resolve, invoke, builtin, hd, hs, hr, Result.andThen]
  exact hK _ _ (h w' hw)

/-- The same ahead of the walk. -/
theorem copy_bytes (w : World) (ty : TypeId) (dp sp : Option Addr) (dLen dCap sLen sCap g off : Nat) (cur new : Array Value) (t : TypeId) (hg : w.heap[g]? = some (.cells cur t (0, 0))) (l : List Int) (hn : l.length = Nat.min sLen dLen)
    (hpos : 0 < l.length → dp = some ⟨g, off, none⟩ ∧ ∃ ad, sp = some ad ∧ ∀ j v, (l.map (Value.int .u8))[j]? = some v → w.cell? (ad.add j) = some v)
    (hfit : off + l.length ≤ cur.size) (hnew : new.toList = cur.toList.take off ++ (l.map (Value.int .u8) ++ cur.toList.drop (off + l.length))) :
    ∃ w', (Builtin.copy_ #[40, 40] ty #[.slice dp dLen dCap, .slice sp sLen sCap]).run Tryz.prog w = .ok (goInt l.length) w' ∧ Wrote w w' g new t :=
  run_copy_wrote (P := Tryz.prog) w 40 40 ty 5 Tryz.underlying40 (by kernel_rfl) dp sp dLen dCap sLen sCap g off cur new t hg l hn hpos hfit hnew

/-- The same as one step of a region that draws its order. -/
theorem step_copy_bytes {ops : Array Oper} {o : Oper} {a : Act} {w : World} {K : Act → World → Prop} {Q : Exit → Act → World → Prop} {E : Prop} (hgd : o.guard = none) (d s : Operand) (dT sT : TypeId)
    (ho : o.op = .call { callee := .builtin .copy, args := #[d, s], argTypes := #[dT, sT] }) (hu : Tryz.prog.underlying dT = some (.slice 5))
    (dp sp : Option Addr) (dLen dCap sLen sCap : Nat) (hd : a.eval d = .slice dp dLen dCap) (hs : a.eval s = .slice sp sLen sCap)
    (g off : Nat) (cur new : Array Value) (t : TypeId) (hg : w.heap[g]? = some (.cells cur t (0, 0))) (l : List Int) (hn : l.length = Nat.min sLen dLen)
    (hpos : 0 < l.length → dp = some ⟨g, off, none⟩ ∧ ∃ ad, sp = some ad ∧ ∀ j v, (l.map (Value.int .u8))[j]? = some v → w.cell? (ad.add j) = some v)
    (hfit : off + l.length ≤ cur.size) (hnew : new.toList = cur.toList.take off ++ (l.map (Value.int .u8) ++ cur.toList.drop (off + l.length)))
    (h : ∀ w', Wrote w w' g new t → K (a.put o.dst (goInt l.length)) w') :
    if Region.wanted o (yielded ops a.tmps) = true then Oper.wp Tryz.prog o a w K Q else E := by
  have hw : Region.wanted o (yielded ops a.tmps) = true := by simp [Region.wanted, hgd]
  rw [if_pos hw]
  have hsz : (Tryz.prog.info? 5).map (·.size) = some 1 := by kernel_rfl
  obtain ⟨w', hr, hw⟩ := run_copy_wrote (P := Tryz.prog) w dT sT o.type 5 hu hsz dp sp dLen dCap sLen sCap g off cur new t hg l hn hpos hfit hnew
  unfold Oper.wp
  simp [execOp, ho, resolve, invoke, builtin, hd, hs, hr, Result.andThen]
  exact h w' hw

/-- A cell of a block that is known. -/
theorem cell_of {w : World} {g : Nat} {c : Array Value} {t : TypeId} (h : w.heap[g]? = some (.cells c t (0, 0))) (i : Nat) : w.cell? ⟨g, i, none⟩ = c[i]? := by
  simp [World.cell?, h]

/-- Bytes made. -/
theorem make_bytes (n : Nat) (h : n ≤ 140737488351232) (w : World) : (Instr.makeSlice 40 (.int .i64 (n : Int)) (.int .i64 (n : Int))).run Tryz.prog w = .ok (.slice (some ⟨w.heap.size, 0, none⟩) n n) (w.alloc (.cells (madeCells #[.int .u8 0] n) 5)) :=
  run_make_row' 40 5 (.int .u8 0) 1 Tryz.underlying40 info5 rfl .i64 .i64 n (by omega) (by omega) w

theorem wrap16_small (x : Int) (h0 : 0 ≤ x) (h1 : x ≤ 65535) : IntKind.u16.wrap x = x := by
  rw [show IntKind.u16.wrap x = x % 65536 by simp [IntKind.wrap, IntKind.bits, IntKind.signed]]; omega
theorem wrap8_small (x : Int) (h0 : 0 ≤ x) (h1 : x ≤ 255) : IntKind.u8.wrap x = x := by
  rw [show IntKind.u8.wrap x = x % 256 by simp [IntKind.wrap, IntKind.bits, IntKind.signed]]; omega

/-- A part of a row. -/
theorem Row.cellAt {w : World} {b off : Nat} {l : List Int} (h : Row w (some ⟨b, off, none⟩) l) (i : Nat) (hi : i < l.length) : w.cell? ⟨b, off + i, none⟩ = some (.int .u8 (l.getD i 0)) := by
  rcases h.cells with e | ⟨b', off', e, hc⟩
  · subst e; simp at hi
  · simp only [Option.some.injEq, Addr.mk.injEq] at e
    obtain ⟨rfl, rfl, -⟩ := e
    exact hc i hi
theorem Row.part {w : World} {b off : Nat} {l : List Int} (h : Row w (some ⟨b, off, none⟩) l) (i m : Nat) (hi : i + m ≤ l.length) : Row w (some ⟨b, off + i, none⟩) ((l.drop i).take m) := by
  have hl := h.len
  have hlen : ((l.drop i).take m).length = m := by simp; omega
  refine ⟨fun j => ?_, by omega, Or.inr ⟨b, off + i, rfl, fun j hj => ?_⟩⟩
  · by_cases hj : j < m
    · have : ((l.drop i).take m).getD j 0 = l.getD (i + j) 0 := by simp [List.getD, hj]
      rw [this]; exact h.bytes _
    · have : ((l.drop i).take m).getD j 0 = 0 := by simp [List.getD, List.getElem?_eq_none (show ((l.drop i).take m).length ≤ j by omega)]
      rw [this]; omega
  · have e : ((l.drop i).take m).getD j 0 = l.getD (i + j) 0 := by simp [List.getD, show j < m by omega]
    rw [e, Nat.add_assoc]
    exact h.cellAt (i + j) (by omega)

/-- What the call has made so far: the blocks L (number, content) behind all that was there, and nothing that was there turned. -/
structure Mem (w w' : World) (L : List (Nat × Obj)) : Prop where
  below : Below w.heap.size w w'
  low : ∀ p ∈ L, w.heap.size ≤ p.1
  at_ : ∀ p ∈ L, w'.heap[p.1]? = some p.2
  apart : (L.map Prod.fst).Nodup
theorem Mem.nil (w : World) : Mem w w [] := ⟨Below.refl _ _, fun p h => by simp at h, fun p h => by simp at h, by simp⟩
theorem Mem.lt {w w' : World} {L : List (Nat × Obj)} (h : Mem w w' L) {p : Nat × Obj} (hp : p ∈ L) : p.1 < w'.heap.size := by
  have := h.at_ p hp
  exact (Array.getElem?_eq_some_iff.mp this).1
theorem Mem.alloc {w w' : World} {L : List (Nat × Obj)} (h : Mem w w' L) (o : Obj) : Mem w (w'.alloc o) (L ++ [(w'.heap.size, o)]) := by
  have hs := h.below.size
  refine ⟨h.below.alloc hs o, fun p hp => ?_, fun p hp => ?_, ?_⟩
  · rcases List.mem_append.mp hp with hp | hp
    · exact h.low p hp
    · simp at hp; subst hp; exact hs
  · rcases List.mem_append.mp hp with hp | hp
    · rw [Below.heap_alloc _ _ _ (h.lt hp)]; exact h.at_ p hp
    · simp at hp; subst hp; exact heap_alloc_new _ _
  · rw [List.map_append, List.nodup_append]
    refine ⟨h.apart, by simp, fun a ha b hb => ?_⟩
    obtain ⟨p, hp, rfl⟩ := List.mem_map.mp ha
    simp at hb
    have := h.lt hp
    omega
theorem Mem.push {w w' : World} {L : List (Nat × Obj)} (h : Mem w w' L) (g : Nat) (o : Obj) (hg : g = w'.heap.size) : Mem w (w'.alloc o) (L ++ [(g, o)]) := by subst hg; exact h.alloc o
theorem Mem.drew {w w' : World} {L : List (Nat × Obj)} (h : Mem w w' L) : Mem w w'.drew L := ⟨h.below.drew, h.low, h.at_, h.apart⟩
theorem Mem.drewN {w w' : World} {L : List (Nat × Obj)} (h : Mem w w' L) (n : Nat) : Mem w (w'.drewN n) L := ⟨below_drewN h.below n, h.low, h.at_, h.apart⟩
theorem Mem.perm {w w' : World} {L L' : List (Nat × Obj)} (h : Mem w w' L) (hp : L.Perm L') : Mem w w' L' :=
  ⟨h.below, fun p q => h.low p (hp.symm.subset q), fun p q => h.at_ p (hp.symm.subset q), (hp.map Prod.fst).nodup_iff.mp h.apart⟩
theorem Mem.sub {w w' : World} {p : Nat × Obj} {L : List (Nat × Obj)} (h : Mem w w' (p :: L)) : Mem w w' L :=
  ⟨h.below, fun q hq => h.low q (List.mem_cons_of_mem _ hq), fun q hq => h.at_ q (List.mem_cons_of_mem _ hq), (List.nodup_cons.mp h.apart).2⟩
theorem Mem.get {w w' : World} {L : List (Nat × Obj)} (h : Mem w w' L) (i : Nat) {g : Nat} {o : Obj} (hi : L[i]? = some (g, o)) : w'.heap[g]? = some o := h.at_ (g, o) (List.mem_of_getElem? hi)
theorem Mem.ge {w w' : World} {L : List (Nat × Obj)} (h : Mem w w' L) (i : Nat) {g : Nat} {o : Obj} (hi : L[i]? = some (g, o)) : w.heap.size ≤ g := h.low (g, o) (List.mem_of_getElem? hi)
theorem Mem.wrote {w w' w2 : World} {L : List (Nat × Obj)} (h : Mem w w' L) (i : Nat) {g : Nat} {o : Obj} (hi : L[i]? = some (g, o)) {new : Array Value} {t : TypeId} (hw : Wrote w' w2 g new t) : Mem w w2 (L.set i (g, .cells new t (0, 0))) := by
  have hil := (List.getElem?_eq_some_iff.mp hi).1
  have he : L[i] = (g, o) := (List.getElem?_eq_some_iff.mp hi).2
  have hm : (L.set i (g, .cells new t (0, 0))).map Prod.fst = L.map Prod.fst := by
    rw [List.map_set]
    apply List.ext_getElem? ; intro j
    by_cases e : i = j
    · subst e; simp [hil, he]
    · rw [List.getElem?_set_ne e]
  have key : ∀ p ∈ L.set i (g, .cells new t (0, 0)), p = (g, .cells new t (0, 0)) ∨ (p ∈ L ∧ p.1 ≠ g) := by
    intro p hp
    obtain ⟨j, hj, rfl⟩ := List.mem_iff_getElem.mp hp
    by_cases e : i = j
    · subst e; left; simp
    · right
      have hjl : j < L.length := by simpa using hj
      rw [List.getElem_set_ne e]
      refine ⟨List.getElem_mem hjl, fun c => e ?_⟩
      have hpw := List.pairwise_iff_getElem.mp h.apart
      have hil' : i < (L.map Prod.fst).length := by simpa using hil
      have hjl' : j < (L.map Prod.fst).length := by simpa using hjl
      have c' : (L.map Prod.fst)[i] = (L.map Prod.fst)[j] := by simp [he, c]
      rcases Nat.lt_trichotomy i j with q | q | q
      · exact absurd c' (hpw i j hil' hjl' q)
      · exact q
      · exact absurd c'.symm (hpw j i hjl' hil' q)
  refine ⟨hw.below _ _ (h.ge i hi) h.below, fun p hp => ?_, fun p hp => ?_, by rw [hm]; exact h.apart⟩
  · rcases key p hp with rfl | ⟨q, _⟩
    · exact h.ge i hi
    · exact h.low p q
  · rcases key p hp with rfl | ⟨q, c⟩
    · exact hw.here
    · rw [hw.there _ c]; exact h.at_ p q
theorem Mem.after {w w' w2 : World} {L : List (Nat × Obj)} (h : Mem w w' L) (hb : Below w'.heap.size w' w2) : Mem w w2 L :=
  ⟨h.below.trans (hb.mono h.below.size), h.low, fun p hp => by rw [hb.block p.1 (h.lt hp)]; exact h.at_ p hp, h.apart⟩
theorem Mem.old {w w' : World} {L : List (Nat × Obj)} (h : Mem w w' L) {b i : Nat} (hb : b < w.heap.size) : w'.cell? ⟨b, i, none⟩ = w.cell? ⟨b, i, none⟩ := h.below.cell (p := ⟨b, i, none⟩) hb
theorem Mem.row {w w' : World} {L : List (Nat × Obj)} (h : Mem w w' L) {a : Option Addr} {l : List Int} (hr : Row w a l) : Row w' a l := hr.below h.below (Nat.le_refl _)
theorem Mem.cell {w w' : World} {L : List (Nat × Obj)} (h : Mem w w' L) (i : Nat) {g : Nat} {c : Array Value} {t : TypeId} (hi : L[i]? = some (g, .cells c t (0, 0))) (j : Nat) : w'.cell? ⟨g, j, none⟩ = c[j]? := cell_of (h.get i hi) j
theorem Mem.free {w w' : World} {L : List (Nat × Obj)} (h : Mem w w' L) (i : Nat) {g : Nat} {c : Array Value} {t : TypeId} (hi : L[i]? = some (g, .cells c t (0, 0))) (j : Nat) : w'.frozen? ⟨g, j, none⟩ = false := by
  simp [World.frozen?, h.get i hi]
/-- A store into one of these blocks. -/
theorem Mem.set {w w' : World} {L : List (Nat × Obj)} (h : Mem w w' L) (i : Nat) {g : Nat} {c : Array Value} {t : TypeId} (hi : L[i]? = some (g, .cells c t (0, 0))) (j : Nat) (v : Value) : Mem w (w'.setCell ⟨g, j, none⟩ v) (L.set i (g, .cells (c.setIfInBounds j v) t (0, 0))) := by
  have e := setCell_eq_setRow w' g j c t (0, 0) v (h.get i hi)
  rw [e]
  exact h.wrote i hi (wrote_setRow w' g c _ t (h.get i hi))
/-- Bytes of the call's own as a row. -/
theorem Mem.own {w w' : World} {L : List (Nat × Obj)} (h : Mem w w' L) (i : Nat) {g : Nat} {l : List Int} {t : TypeId} (hi : L[i]? = some (g, .cells (l.map (Value.int .u8)).toArray t (0, 0))) (hb : IsBytes l) (hl : l.length ≤ 140737488351232) : Row w' (some ⟨g, 0, none⟩) l :=
  ⟨hb, hl, Or.inr ⟨g, 0, rfl, fun j hj => by rw [h.cell i hi, Nat.zero_add]; simp [hj]⟩⟩

theorem made_new (m : Nat) (l : List Int) (h : l.length = m) : (l.map (Value.int .u8)).toArray.toList = (madeCells #[Value.int .u8 0] m).toList.take 0 ++ (l.map (Value.int .u8) ++ (madeCells #[Value.int .u8 0] m).toList.drop (0 + l.length)) := by
  rw [List.drop_eq_nil_of_le (by rw [toList_madeCells_one]; simp; omega)]
  simp

/-- A store elsewhere. -/
theorem Row.setCell {w : World} {b off : Nat} {l : List Int} (h : Row w (some ⟨b, off, none⟩) l) {p : Addr} (hp : p.block ≠ b) (v : Value) : Row (w.setCell p v) (some ⟨b, off, none⟩) l :=
  ⟨h.bytes, h.len, Or.inr ⟨b, off, rfl, fun i hi => by rw [World.cell?_setCell_other _ _ _ _ (fun e => hp (by rw [e]))]; exact h.cellAt i hi⟩⟩
theorem Row.far {w : World} {ao : Option Addr} {l : List Int} (h : Row w ao l) {g j : Nat} (hp : ∀ x, ao = some x → g ≠ x.block) {v : Value} : Row (w.setCell ⟨g, j, none⟩ v) ao l := by
  refine ⟨h.bytes, h.len, ?_⟩
  rcases h.cells with e | ⟨b, off, rfl, hc⟩
  · exact Or.inl e
  · exact Or.inr ⟨b, off, rfl, fun i hi => by rw [World.cell?_setCell_other _ _ _ _ (fun e => hp _ rfl (by simp only [Addr.mk.injEq] at e; exact e.1))]; exact hc i hi⟩
theorem Mem.ne {w w' : World} {L : List (Nat × Obj)} (h : Mem w w' L) (i j : Nat) {g k : Nat} {o u : Obj} (hi : L[i]? = some (g, o)) (hj : L[j]? = some (k, u)) (hij : i ≠ j) : g ≠ k := by
  obtain ⟨hil, ei⟩ := List.getElem?_eq_some_iff.mp hi
  obtain ⟨hjl, ej⟩ := List.getElem?_eq_some_iff.mp hj
  have hpw := List.pairwise_iff_getElem.mp h.apart
  intro c
  have c' : (L.map Prod.fst)[i]'(by simpa using hil) = (L.map Prod.fst)[j]'(by simpa using hjl) := by simp [ei, ej, c]
  rcases Nat.lt_trichotomy i j with q | q | q
  · exact hpw i j (by simpa using hil) (by simpa using hjl) q c'
  · exact hij q
  · exact hpw j i (by simpa using hjl) (by simpa using hil) q c'.symm

theorem below_set {B : Nat} {a w : World} {g j : Nat} {v : Value} (h : Below B a w) (hg : B ≤ g) : Below B a (w.setCell ⟨g, j, none⟩ v) := h.setCell (p := ⟨g, j, none⟩) hg v

/-- The world under a new letter. -/
theorem wp_letter {P : Program} {c : Code} {Q : Exit → Act → World → Prop} {a : Act} {W : World} (R : World → Prop) (h : R W) (k : ∀ W', R W' → Code.wp P c Q a W') : Code.wp P c Q a W := k W h
end Go.Proofs.YtngegdamcfmonaaGreat

namespace Go.Proofs.YtngegdamcfmonaaGreat
open Go.RowKit
open Sm
set_option linter.unusedVariables false

theorem wrap16 (n : Int) : IntKind.u16.wrap n = n % 65536 := by simp [IntKind.wrap, IntKind.bits, IntKind.signed]

theorem psv_other (src dst proto n : Int) (m : Int) (h : m = n % 65536) : psv src dst proto n = foldv (src / 65536 + src % 65536 + dst / 65536 + dst % 65536 + proto + m) := by
  unfold psv; rw [h]; congr 1; omega
theorem low_wrap (n : Int) : bits .and .u64 (IntKind.u64.wrap n) 65535 = n % 65536 := by
  have e : IntKind.u64.wrap n = n % 18446744073709551616 := by simp [IntKind.wrap, IntKind.bits, IntKind.signed]
  rw [e, sm_low64 _ (by omega) (by omega)]; omega

/-- Where Place falls, among n of them. -/
def plc (at_ n : Int) : Int := if at_.tmod n < 0 then at_.tmod n + n else at_.tmod n
theorem plc_range (a n : Int) (hn : 0 < n) : 0 ≤ plc a n ∧ plc a n < n := by
  have h1 := Int.tmod_lt_of_pos a hn
  have h2 : -n < a.tmod n := by
    have := Int.lt_tmod_of_pos a hn
    omega
  unfold plc; split <;> omega

set_option maxHeartbeats 400000 in
theorem place_any (a n : Int) (w : World) (h0 : -9223372036854775808 ≤ a) (h1 : a ≤ 9223372036854775807) (hn : 0 < n) (hn1 : n ≤ 140737488351232) :
    Calls Tryz.prog 30 #[.int .i64 a, .int .i64 n] w fun e w' => e = .returned (.int .i64 (plc a n)) ∧ w = w' := by
  have b1 := Int.tmod_lt_of_pos a hn
  have b2 := Int.lt_tmod_of_pos a hn
  by_cases hc : a.tmod n < 0
  · go_enter Tryz.func30, Tryz.ntmps30
    go_wp2
    go_ret
    exact ⟨ret_int (by unfold plc; rw [if_pos hc]), rfl⟩
  · go_enter Tryz.func30, Tryz.ntmps30
    go_wp2
    go_ret
    exact ⟨ret_int (by unfold plc; rw [if_neg (by omega)]), rfl⟩
end Go.Proofs.YtngegdamcfmonaaGreat

