/-
  What is written, cut off anywhere, isn't read (P12.1, P12.2), at every tenant that is light.
-/
import Derived.Test.YtngegdamcfmonaaGreatM45
import Derived.Test.YtngegdamcfmonaaGreatM44
import Derived.Test.YtngegdamcfmonaaGreatM37
import Derived.Test.YtngegdamcfmonaaGreatM32
namespace Go.Proofs.YtngegdamcfmonaaGreat
open Go.RowKit
open Sm
open Cf
set_option linter.unusedVariables false
set_option maxRecDepth 20000

/-- The first k bytes. -/
theorem sl_head {a : Option Addr} {l : List Int} {c : Nat} {w : World} (hS : Sl w a l c) (k : Int) (h0 : 0 ≤ k) (h1 : k ≤ l.length) : (∀ V, (Instr.slice 40 (.slice a l.length c) none (some (.int .i64 k)) none).run Tryz.prog V = .ok (.slice a (l.take k.toNat).length c) V) ∧ Sl w a (l.take k.toNat) c := by
  have hc := hS.le
  have hsz : ∀ V, (sizeOf (Tryz.prog.elem 40)).run Tryz.prog V = .ok 1 V := fun V => by kernel_rfl
  have hlen : (l.take k.toNat).length = k.toNat := by rw [List.length_take]; omega
  refine ⟨fun V => ?_, ?_, by omega, hS.big, hS.nil⟩
  · rw [run_slice_h (P := Tryz.prog) V 40 a l.length c (by kernel_rfl) .i64 k h0 (by omega), hsz, hlen]
    cases a with
    | none => simp [Result.andThen, sliced]
    | some p => simp [Result.andThen, sliced, Addr.add]
  · rcases hS.row.cells with e | ⟨b0, off, rfl, hcl⟩
    · subst e
      rw [List.take_nil]
      exact row_empty w _
    · have := hS.row.part 0 k.toNat (by omega)
      simpa using this
theorem cat_len_le (enc : Nat → List Int) (c : Nat) (h : ∀ i, (enc i).length ≤ c) : ∀ n, (cat enc n).length ≤ n * c
  | 0 => by simp [cat]
  | n + 1 => by
    have := cat_len_le enc c h n
    have := h n
    rw [cat, List.length_append, Nat.succ_mul]
    omega
theorem itm_len {α β : Type} [DecidableEq β] (d : β) (se : Sp β) (fl : α → List β) (fs : α → List β → α) (t : α) (h : ∀ y, (se.enc y).length ≤ 8) : ((spItm d se fl fs).enc t).length ≤ 2100 := by
  have := cat_len_le (fun i => se.enc ((fl t).getD i d)) 8 (fun i => h _) (min (fl t).length 255)
  simp only [spItm]
  omega
theorem num_len {α : Type} (sz : Nat) (fg : α → Int) (fs : α → Int → α) (t : α) (h : sz ≤ 2100) : ((spNum sz fg fs).enc t).length ≤ 2100 := by
  simp only [spNum, be_len]; exact h
theorem u_len (y : Int) : (spU.enc y).length ≤ 8 := by simp only [spU, spNum, be_len]; omega
theorem p_len (y : Int × Int) : (spP.enc y).length ≤ 8 := by
  simp only [spP, spAll, List.length_cons, List.length_nil, cat, List.getD_cons_zero, List.getD_cons_succ, spA, spB, spNum, List.length_append, be_len]
  omega
theorem tenc_le (t : Ten) (hl : TLen t) : (tenc t).length ≤ 39900 := by
  have h := cat_len_le (fun i => (tsp.getD i sp0).enc t) 2100 (fun i => by
    match i with
    | 0 => show (nm t.name).length ≤ 2100; simp only [nm, List.length_cons, List.length_take]; omega
    | 1 => exact (num_len 4 _ _ t (by omega) : (spVni.enc t).length ≤ 2100)
    | 2 => exact Nat.le_trans (Nat.le_of_eq hl.key) (by omega)
    | 3 => exact (num_len 4 _ _ t (by omega) : (spVtep.enc t).length ≤ 2100)
    | 4 => exact Nat.le_trans (Nat.le_of_eq hl.vmac) (by omega)
    | 5 => exact Nat.le_trans (Nat.le_of_eq hl.host) (by omega)
    | 6 => exact (num_len 2 _ _ t (by omega) : (spLo.enc t).length ≤ 2100)
    | 7 => exact (num_len 2 _ _ t (by omega) : (spHi.enc t).length ≤ 2100)
    | 8 => exact (num_len 1 _ _ t (by omega) : (spFilter.enc t).length ≤ 2100)
    | 9 => exact (num_len 2 _ _ t (by omega) : (spSess.enc t).length ≤ 2100)
    | 10 => exact (num_len 2 _ _ t (by omega) : (spQueue.enc t).length ≤ 2100)
    | 11 => exact (num_len 4 _ _ t (by omega) : (spRate.enc t).length ≤ 2100)
    | 12 => exact (num_len 4 _ _ t (by omega) : (spBurst.enc t).length ≤ 2100)
    | 13 => exact Nat.le_of_ble_eq_true rfl
    | 14 => exact Nat.le_of_ble_eq_true rfl
    | 15 => exact Nat.le_of_ble_eq_true rfl
    | 16 => exact (itm_len 0 spU _ _ t u_len : (spPoolI.enc t).length ≤ 2100)
    | 17 => exact (itm_len (0, 0) spP _ _ t p_len : (spStaticsI.enc t).length ≤ 2100)
    | 18 => exact (itm_len (0, 0) spP _ _ t p_len : (spTwicesI.enc t).length ≤ 2100)
    | n + 19 => exact Nat.zero_le _) 19
  exact h
theorem tenc_pos (t : Ten) (hl : TLen t) : 0 < (tenc t).length := by
  rcases Nat.eq_zero_or_pos (tenc t).length with h | h
  · have e : tenc t = [] := List.eq_nil_of_length_eq_zero h
    have := tdec_back t hl []
    rw [e] at this
    cases this
  · exact h
theorem hdec_cut (t : Ten) (hl : TLen t) (l : List Int) (h : l <+: 1 :: tenc t) (hs : l.length < (1 :: tenc t).length) : hdec l = none := by
  cases l with
  | nil => rfl
  | cons b r =>
    obtain ⟨rfl, h2⟩ := List.cons_prefix_cons.mp h
    have := tdec_cut t hl r h2 (by simpa using hs)
    simp [hdec, this]
theorem openChange_any {w : World} {a : Option Addr} {l : List Int} {c : Nat} (hS : Sl w a l c) : Calls Tryz.prog 23 #[.slice a l.length c] w (OCP w (hdec l)) := by
  by_cases h : l.head? = some 1
  · cases l with
    | nil => simp at h
    | cons b r =>
      obtain rfl : b = 1 := by simpa using h
      exact openChange_put hS
  · exact openChange_no hS h
theorem build_put2 (t : Ten) (h : TLen t) (p s q : Value) (V : World) : (Instr.build 35 #[(0, .bool true), (2, .agg (tc t p s q).toArray)]).run Tryz.prog V = .ok (.agg (hc ⟨true, ByteArray.empty, t⟩ p s q).toArray) V := by
  obtain ⟨n, vn, key, vt, vm, ho, po, lo, hi, fi, st, tw, se, qu, ra, bu⟩ := t
  obtain ⟨h1, h2, h3⟩ := h
  obtain ⟨a, b, c, d, f, g, x, y, rfl⟩ := eight8 h1
  obtain ⟨a1, b1, c1, d1, f1, g1, rfl⟩ := six6 h2
  obtain ⟨a2, b2, c2, d2, f2, g2, rfl⟩ := six6 h3
  kernel_rfl
end Go.Proofs.YtngegdamcfmonaaGreat

