/-
  Settings as bytes: whether nothing of a tenant is cut off; a place.
  Settings as bytes: the document's own reader: take and n.
  What a tenant that comes in is.
-/
import Derived.Test.YtngegdamcfmonaaGreatM21
import Derived.Test.YtngegdamcfmonaaGreatM03
import Derived.ProofKit
import Derived.OpenShut
import Derived.Deep.Slices
namespace Go.Proofs.YtngegdamcfmonaaGreat
open Go.RowKit
open Sm
open Cf
set_option linter.unusedVariables false
set_option maxRecDepth 20000

/-- Nothing of a tenant is cut off. -/
def Fit (t : Ten) : Prop := t.name.size ≤ 255 ∧ t.pool.length ≤ 255 ∧ t.stat.length ≤ 255 ∧ t.twi.length ≤ 255 ∧ 0 ≤ t.filter ∧ t.filter ≤ 255 ∧ 0 ≤ t.sess ∧ t.sess ≤ 65535 ∧ 0 ≤ t.queue ∧ t.queue ≤ 65535
instance (t : Ten) : Decidable (Fit t) := by unfold Fit; infer_instance
set_option maxHeartbeats 8000000 in
theorem fits_any {w : World} {v : Value} {t : Ten} (h : TV w v t) :
    Calls Tryz.prog 28 #[v] w fun e w' => e = .returned (.bool (decide (Fit t))) ∧ Below w.heap.size w w' := by
  obtain ⟨R, hR⟩ : ∃ R, decide (Fit t) = R := ⟨_, rfl⟩
  rw [hR]
  have hR' : ∀ b : Bool, (b = true ↔ Fit t) → R = b := by
    intro b hb
    rw [← hR]
    cases b with
    | true => exact decide_eq_true (hb.mp rfl)
    | false => exact decide_eq_false (fun e => by cases hb.mpr e)
  clear hR
  obtain ⟨hl, p, s, q, rfl, ⟨pa, pc, rfl, -⟩, ⟨sa, sc, rfl, -⟩, ⟨qa, qc, rfl, -⟩⟩ := h
  obtain ⟨n, vn, key, vt, vm, ho, po, lo, hi, fi, st, tw, se, qu, ra, bu⟩ := t
  obtain ⟨h1, h2, h3⟩ := hl
  obtain ⟨a, b, c, d, f, g, x, y, rfl⟩ := eight8 h1
  obtain ⟨a1, b1, c1, d1, f1, g1, rfl⟩ := six6 h2
  obtain ⟨a2, b2, c2, d2, f2, g2, rfl⟩ := six6 h3
  have k1 : (ux po).length = po.length := by simp [ux]
  have k2 : (px st).length = st.length := by simp [px]
  have k3 : (px tw).length = tw.length := by simp [px]
  simp only [tc, List.map_cons, List.map_nil, List.cons_append, List.nil_append, Fit, k1, k2, k3] at hR' ⊢
  clear k1 k2 k3 h1 h2 h3
  generalize po.length = pn at *
  generalize st.length = sn at *
  generalize tw.length = qn at *
  go_enter Tryz.func28, Tryz.ntmps28
  by_cases e0 : n.size ≤ 255
  rotate_left
  · have d0 : decide ((n.size : Int) ≤ 255) = false := decide_eq_false (by omega)
    obtain rfl := hR' false ⟨(fun e => by cases e), fun e => absurd e.1 e0⟩
    go_wp2_with fail
    go_ret
    exact ⟨rfl, (Below.refl _ _).alloc (Nat.le_refl _) _⟩
  have d0 : decide ((n.size : Int) ≤ 255) = true := decide_eq_true (by omega)
  by_cases e1 : pn ≤ 255
  rotate_left
  · have d1 : decide ((pn : Int) ≤ 255) = false := decide_eq_false (by omega)
    obtain rfl := hR' false ⟨(fun e => by cases e), fun e => absurd e.2.1 e1⟩
    go_wp2_with fail
    go_ret
    exact ⟨rfl, (Below.refl _ _).alloc (Nat.le_refl _) _⟩
  have d1 : decide ((pn : Int) ≤ 255) = true := decide_eq_true (by omega)
  by_cases e2 : sn ≤ 255
  rotate_left
  · have d2 : decide ((sn : Int) ≤ 255) = false := decide_eq_false (by omega)
    obtain rfl := hR' false ⟨(fun e => by cases e), fun e => absurd e.2.2.1 e2⟩
    go_wp2_with fail
    go_ret
    exact ⟨rfl, (Below.refl _ _).alloc (Nat.le_refl _) _⟩
  have d2 : decide ((sn : Int) ≤ 255) = true := decide_eq_true (by omega)
  by_cases e3 : qn ≤ 255
  rotate_left
  · have d3 : decide ((qn : Int) ≤ 255) = false := decide_eq_false (by omega)
    obtain rfl := hR' false ⟨(fun e => by cases e), fun e => absurd e.2.2.2.1 e3⟩
    go_wp2_with fail
    go_ret
    exact ⟨rfl, (Below.refl _ _).alloc (Nat.le_refl _) _⟩
  have d3 : decide ((qn : Int) ≤ 255) = true := decide_eq_true (by omega)
  by_cases e4 : 0 ≤ fi
  rotate_left
  · have d4 : decide (fi ≥ 0) = false := decide_eq_false (by omega)
    obtain rfl := hR' false ⟨(fun e => by cases e), fun e => absurd e.2.2.2.2.1 e4⟩
    go_wp2_with fail
    go_ret
    exact ⟨rfl, (Below.refl _ _).alloc (Nat.le_refl _) _⟩
  have d4 : decide (fi ≥ 0) = true := decide_eq_true (by omega)
  by_cases e5 : fi ≤ 255
  rotate_left
  · have d5 : decide (fi ≤ 255) = false := decide_eq_false (by omega)
    obtain rfl := hR' false ⟨(fun e => by cases e), fun e => absurd e.2.2.2.2.2.1 e5⟩
    go_wp2_with fail
    go_ret
    exact ⟨rfl, (Below.refl _ _).alloc (Nat.le_refl _) _⟩
  have d5 : decide (fi ≤ 255) = true := decide_eq_true (by omega)
  by_cases e6 : 0 ≤ se
  rotate_left
  · have d6 : decide (se ≥ 0) = false := decide_eq_false (by omega)
    obtain rfl := hR' false ⟨(fun e => by cases e), fun e => absurd e.2.2.2.2.2.2.1 e6⟩
    go_wp2_with fail
    go_ret
    exact ⟨rfl, (Below.refl _ _).alloc (Nat.le_refl _) _⟩
  have d6 : decide (se ≥ 0) = true := decide_eq_true (by omega)
  by_cases e7 : se ≤ 65535
  rotate_left
  · have d7 : decide (se ≤ 65535) = false := decide_eq_false (by omega)
    obtain rfl := hR' false ⟨(fun e => by cases e), fun e => absurd e.2.2.2.2.2.2.2.1 e7⟩
    go_wp2_with fail
    go_ret
    exact ⟨rfl, (Below.refl _ _).alloc (Nat.le_refl _) _⟩
  have d7 : decide (se ≤ 65535) = true := decide_eq_true (by omega)
  by_cases e8 : 0 ≤ qu
  rotate_left
  · have d8 : decide (qu ≥ 0) = false := decide_eq_false (by omega)
    obtain rfl := hR' false ⟨(fun e => by cases e), fun e => absurd e.2.2.2.2.2.2.2.2.1 e8⟩
    go_wp2_with fail
    go_ret
    exact ⟨rfl, (Below.refl _ _).alloc (Nat.le_refl _) _⟩
  have d8 : decide (qu ≥ 0) = true := decide_eq_true (by omega)
  by_cases e9 : qu ≤ 65535
  rotate_left
  · have d9 : decide (qu ≤ 65535) = false := decide_eq_false (by omega)
    obtain rfl := hR' false ⟨(fun e => by cases e), fun e => absurd e.2.2.2.2.2.2.2.2.2 e9⟩
    go_wp2_with fail
    go_ret
    exact ⟨rfl, (Below.refl _ _).alloc (Nat.le_refl _) _⟩
  have d9 : decide (qu ≤ 65535) = true := decide_eq_true (by omega)
  obtain rfl := hR' true ⟨fun _ => ⟨e0, e1, e2, e3, e4, e5, e6, e7, e8, e9⟩, fun _ => rfl⟩
  go_wp2_with fail
  go_ret
  exact ⟨rfl, (Below.refl _ _).alloc (Nat.le_refl _) _⟩
end Go.Proofs.YtngegdamcfmonaaGreat

namespace Go.Proofs.YtngegdamcfmonaaGreat
open Go.RowKit
open Sm
open Cf
set_option linter.unusedVariables false
set_option linter.unusedSimpArgs false
set_option maxRecDepth 20000

/-- n bytes off what is left, or noughts. -/
def tk (n : Nat) : Option (List Int) → List Int
  | some r => if n ≤ r.length then r.take n else List.replicate n 0
  | none => List.replicate n 0
/-- What is left behind them. -/
def nx (n : Nat) : Option (List Int) → Option (List Int)
  | some r => if n ≤ r.length then some (r.drop n) else none
  | none => none
theorem tk_len (n : Nat) (σ : Option (List Int)) : (tk n σ).length = n := by
  cases σ with
  | none => simp [tk]
  | some r =>
    simp only [tk]
    split
    · rw [List.length_take]; omega
    · simp
/-- A reader: all bytes, the place, whether they ended; σ: what is left, none if they ended. -/
def Rd (w V : World) (gr : Nat) (a : Option Addr) (l : List Int) (c : Nat) (σ : Option (List Int)) (K : List (Nat × Obj)) : Prop :=
  ∃ i : Nat, i ≤ l.length ∧ Mem w V ((gr, .cells #[.slice a l.length c, .int .i64 i, .bool σ.isNone] 95 (0, 0)) :: K) ∧ ∀ r, σ = some r → r = l.drop i
theorem Rd.mem {w V : World} {gr : Nat} {a : Option Addr} {l : List Int} {c : Nat} {σ : Option (List Int)} {K : List (Nat × Obj)} (h : Rd w V gr a l c σ K) : Mem w V K := by
  obtain ⟨i, -, h, -⟩ := h; exact h.sub
/-- A part of a slice. -/
theorem sl_part {a : Option Addr} {l : List Int} {c : Nat} {w : World} (hS : Sl w a l c) (i n : Nat) (h : i + n ≤ l.length) : ∃ a1 c1, (∀ V, (Instr.slice 40 (.slice a l.length c) (some (.int .i64 i)) (some (.int .i64 ((i + n : Nat) : Int))) none).run Tryz.prog V = .ok (.slice a1 n c1) V) ∧ n ≤ c1 ∧ c1 ≤ 9223372036854775807 ∧ (a1 = none → c1 = 0) ∧ ∀ V, Row V a l → Row V a1 ((l.drop i).take n) := by
  have hc := hS.le
  have hb := hS.big
  have hsz : ∀ V, (sizeOf (Tryz.prog.elem 40)).run Tryz.prog V = .ok 1 V := fun V => by kernel_rfl
  have hrun : ∀ V, (Instr.slice 40 (.slice a l.length c) (some (.int .i64 i)) (some (.int .i64 ((i + n : Nat) : Int))) none).run Tryz.prog V = .ok (sliced a i (i + n) c 1) V := by
    intro V
    rw [run_slice_lh (P := Tryz.prog) V 40 a l.length c (by kernel_rfl) .i64 .i64 i ((i + n : Nat) : Int) (by omega) (by omega) (by omega), hsz]
    rfl
  cases a with
  | none =>
    have h0 : c = 0 := hS.nil rfl
    have hl0 : l.length = 0 := by omega
    have e : l = [] := List.eq_nil_of_length_eq_zero hl0
    subst e
    obtain rfl : i = 0 := by omega
    obtain rfl : n = 0 := by simp at h; exact h
    subst h0
    exact ⟨none, 0, fun V => by rw [hrun]; rfl, Nat.le_refl _, by omega, fun _ => rfl, fun V hV => row_empty V none⟩
  | some ad =>
    obtain ⟨b0, off, sp⟩ := ad
    by_cases hci : c = i
    · obtain rfl : n = 0 := by omega
      exact ⟨some ⟨b0, off, sp⟩, 0, fun V => by rw [hrun]; simp [sliced, hci], Nat.zero_le _, by omega, (fun e => by cases e), fun V hV => by rw [List.take_zero]; exact row_empty V _⟩
    · by_cases hn : n = 0
      · subst hn
        exact ⟨some ((⟨b0, off, sp⟩ : Addr).add i), c - i, fun V => by rw [hrun]; simp [sliced, hci], Nat.zero_le _, by omega, (fun e => by cases e), fun V hV => by rw [List.take_zero]; exact row_empty V _⟩
      · have hsp : sp = none := by
          rcases hS.row.cells with e | ⟨b, o, e, -⟩
          · rw [e] at h; simp at h; omega
          · simp only [Option.some.injEq, Addr.mk.injEq] at e; exact e.2.2
        subst hsp
        refine ⟨some ⟨b0, off + i, none⟩, c - i, fun V => ?_, by omega, by omega, (fun e => by cases e), fun V hV => hV.part i n h⟩
        rw [hrun]
        by_cases hi : i = 0
        · subst hi; simp [sliced, Addr.add, hci]
        · simp [sliced, Addr.add, hci, hi]
set_option maxHeartbeats 8000000 in
theorem rtake_any {w V : World} {gr : Nat} {a : Option Addr} {l : List Int} {c : Nat} {σ : Option (List Int)} {K : List (Nat × Obj)} (h : Rd w V gr a l c σ K) (hS : Sl w a l c) (n : Nat) (hn : n ≤ 255) (hl : l.length ≤ 1000000) :
    Calls Tryz.prog 91 #[.pointer (some ⟨gr, 0, none⟩), .int .i64 n] V fun e V' => ∃ a' c', e = .returned (.slice a' n c') ∧ Row V' a' (tk n σ) ∧ Rd w V' gr a l c (nx n σ) K := by
  obtain ⟨i, hi, hM, hr⟩ := h
  have bad : ∀ (V : World) x, Mem w V ((gr, .cells #[.slice a l.length c, .int .i64 i, .bool x] 95 (0, 0)) :: K) → Row ((V.setCell ⟨gr, 2, none⟩ (.bool true)).alloc (.cells (madeCells #[.int .u8 0] n) 5)) (some ⟨V.heap.size, 0, none⟩) (List.replicate n 0) ∧ Rd w ((V.setCell ⟨gr, 2, none⟩ (.bool true)).alloc (.cells (madeCells #[.int .u8 0] n) 5)) gr a l c none K := by
    intro V x hM
    exact ⟨noughts_at _ n (by omega) _ (by simp), i, hi, (hM.set 0 rfl 2 (.bool true)).after ((Below.refl _ _).alloc (Nat.le_refl _) _), fun r e => by cases e⟩
  have mk := make_bytes n (by omega)
  have d0 : V.cell? ⟨gr, 0, none⟩ = some (.slice a l.length c) := hM.cell 0 rfl 0
  have d1 : V.cell? ⟨gr, 1, none⟩ = some (.int .i64 i) := hM.cell 0 rfl 1
  have d2 : V.cell? ⟨gr, 2, none⟩ = some (.bool σ.isNone) := hM.cell 0 rfl 2
  have fr := hM.free 0 rfl
  cases σ with
  | none =>
    simp only [tk, nx, Option.isNone_none] at d2 ⊢
    have HF : Hid (∀ q, Row (((V.drewN q).setCell ⟨gr, 2, none⟩ (.bool true)).alloc (.cells (madeCells #[.int .u8 0] n) 5)) (some ⟨V.heap.size, 0, none⟩) (List.replicate n 0) ∧ Rd w (((V.drewN q).setCell ⟨gr, 2, none⟩ (.bool true)).alloc (.cells (madeCells #[.int .u8 0] n) 5)) gr a l c none K) := fun q => bad _ _ (hM.drewN q)
    clear bad hM hr
    go_enter Tryz.func91, Tryz.ntmps91
    go_upto_region 1 with fail
    go_quiet (fail)
    go_wp2_with fail
    go_ret
    exact ⟨_, _, rfl, (HF.out _).1, (HF.out _).2⟩
  | some r =>
    obtain rfl := hr r rfl
    simp only [Option.isNone_some] at d2 hM
    have hdl : (l.drop i).length = l.length - i := List.length_drop
    by_cases hle : n ≤ (l.drop i).length
    · simp only [tk, nx, if_pos hle]
      obtain ⟨a1, c1, hrun, -, -, -, hrow⟩ := sl_part hS i n (by omega)
      have e1 : IntKind.i64.wrap ((l.length : Int) - i) = (l.length : Int) - i := wrap64n (by omega) (by omega)
      have e2 : IntKind.i64.wrap ((i : Int) + n) = ((i + n : Nat) : Int) := by rw [wrap64n (by omega) (by omega)]; omega
      have e3 : IntKind.i64.wrap (((i + n : Nat) : Int) - n) = (i : Int) := by rw [wrap64n (by omega) (by omega)]; omega
      have e4 : ¬ ((l.length : Int) - i < n) := by omega
      have e5 : decide ((l.length : Int) - i < n) = false := decide_eq_false e4
      have HF : Hid (∀ q q', Row (((V.drewN q).setCell ⟨gr, 1, none⟩ (.int .i64 ((i + n : Nat) : Int))).drewN q') a1 ((l.drop i).take n) ∧ Rd w (((V.drewN q).setCell ⟨gr, 1, none⟩ (.int .i64 ((i + n : Nat) : Int))).drewN q') gr a l c (some ((l.drop i).drop n)) K) := by
        intro q q'
        have hM2 := ((hM.drewN q).set 0 rfl 1 (.int .i64 ((i + n : Nat) : Int))).drewN q'
        refine ⟨hrow _ (hM2.row hS.row), i + n, by omega, hM2, fun r e => ?_⟩
        simp only [Option.some.injEq] at e
        rw [← e, List.drop_drop]
      obtain ⟨k, hk⟩ : ∃ k : Nat, i + n = k := ⟨_, rfl⟩
      rw [hk] at e2 e3 hrun HF
      generalize (l.drop i).take n = L1 at *
      generalize (l.drop i).drop n = L2 at *
      have hS0 := hS
      clear bad hM hr hrow hS hdl hle
      generalize l.length = nl at *
      go_enter Tryz.func91, Tryz.ntmps91
      go_upto_region 1 with fail
      go_quiet (fail)
      go_upto_region 5 with fail
      go_quiet (fail)
      go_wp2_with fail
      go_ret
      exact ⟨_, ⟨_, rfl⟩, (HF.out _ _).1, (HF.out _ _).2⟩
    · simp only [tk, nx, if_neg hle]
      have e1 : IntKind.i64.wrap ((l.length : Int) - i) = (l.length : Int) - i := wrap64n (by omega) (by omega)
      have e4 : (l.length : Int) - i < n := by omega
      have e5 : decide ((l.length : Int) - i < n) = true := decide_eq_true e4
      have HF : Hid (∀ q, Row (((V.drewN q).setCell ⟨gr, 2, none⟩ (.bool true)).alloc (.cells (madeCells #[.int .u8 0] n) 5)) (some ⟨V.heap.size, 0, none⟩) (List.replicate n 0) ∧ Rd w (((V.drewN q).setCell ⟨gr, 2, none⟩ (.bool true)).alloc (.cells (madeCells #[.int .u8 0] n) 5)) gr a l c none K) := fun q => bad _ _ (hM.drewN q)
      clear bad hM hr hdl hle
      go_enter Tryz.func91, Tryz.ntmps91
      go_upto_region 1 with fail
      go_quiet (fail)
      go_wp2_with fail
      go_ret
      exact ⟨_, _, rfl, (HF.out _).1, (HF.out _).2⟩
theorem tk_bytes (n : Nat) {σ : Option (List Int)} (h : ∀ r, σ = some r → IsBytes r) : IsBytes (tk n σ) := by
  cases σ with
  | none => exact bytes_noughts n
  | some r =>
    simp only [tk]
    split
    · exact bytes_tk (h r rfl) n
    · exact bytes_noughts n
theorem Rd.bytes {w V : World} {gr : Nat} {a : Option Addr} {l : List Int} {c : Nat} {σ : Option (List Int)} {K : List (Nat × Obj)} (h : Rd w V gr a l c σ K) (hS : Sl w a l c) : ∀ r, σ = some r → IsBytes r := by
  obtain ⟨i, -, -, h⟩ := h
  intro r hr
  rw [h r hr]
  exact bytes_dr hS.row.bytes i
theorem Rd.after {w V V' : World} {gr : Nat} {a : Option Addr} {l : List Int} {c : Nat} {σ : Option (List Int)} {K : List (Nat × Obj)} (h : Rd w V gr a l c σ K) (hb : Below V.heap.size V V') : Rd w V' gr a l c σ K := by
  obtain ⟨i, h1, h2, h3⟩ := h
  exact ⟨i, h1, h2.after hb, h3⟩
set_option maxHeartbeats 8000000 in
theorem rn_any {w V : World} {gr : Nat} {a : Option Addr} {l : List Int} {c : Nat} {σ : Option (List Int)} {K : List (Nat × Obj)} (h : Rd w V gr a l c σ K) (hS : Sl w a l c) (n : Nat) (hn : n ≤ 7) (hl : l.length ≤ 1000000) :
    Calls Tryz.prog 39 #[.pointer (some ⟨gr, 0, none⟩), .int .i64 n] V fun e V' => e = .returned (.int .u64 (num (tk n σ))) ∧ Rd w V' gr a l c (nx n σ) K := by
  have CT := rtake_any h hS n (by omega) hl
  have hlen := tk_len n σ
  have hby := tk_bytes n (h.bytes hS)
  generalize tk n σ = L at *
  generalize nx n σ = τ at *
  have HL : Hid (L.length = n ∧ IsBytes L) := ⟨hlen, hby⟩
  clear h hS hlen hby
  go_enter Tryz.func39, Tryz.ntmps39
  go_wp2_with fail
  refine CT.mono ?_
  rintro e V1 ⟨a1, c1, rfl, hrow, hRd⟩
  have HR1 : Hid (Rd w V1 gr a l c τ K) := hRd
  have HRW : Hid (Row V1 a1 L) := hrow
  clear CT hRd hrow
  go_wp2_with fail
  go_loopw [5, 7] (fun u5 u7 w' => ∃ i : Nat, i ≤ n ∧ u7 = .int .i64 i ∧ u5 = .int .u64 (num (L.take i)) ∧ V1 = w') (fun u5 u7 w' => n - (intOf u7).toNat)
  case atStart => exact ⟨0, Nat.zero_le _, rfl, rfl, rfl⟩
  case round =>
    obtain ⟨i, hi, rfl, rfl, rfl⟩ := hrel
    obtain ⟨hlen, hby⟩ := HL.out
    by_cases hlt : i < n
    · have h1 : (i : Int) < n := by omega
      rcases HRW.out.cells with e | ⟨b, off, rfl, hc⟩
      · subst e; simp at hlen; omega
      · have hcell := hc i (by omega)
        have hb := hby i
        have hnt := num_take L i (by omega)
        have hr := num_range (bytes_tk hby i)
        rw [List.length_take, Nat.min_eq_left (by omega)] at hr
        have hp : (256 : Int) ^ i ≤ 256 ^ 6 := by
          have : i ≤ 6 := by omega
          match i, this with
          | 0, _ => decide
          | 1, _ => decide
          | 2, _ => decide
          | 3, _ => decide
          | 4, _ => decide
          | 5, _ => decide
          | 6, _ => decide
        have hrx : num (L.take i) < 281474976710656 := by
          have e6 : (256 : Int) ^ 6 = 281474976710656 := by decide
          omega
        clear hp
        generalize num (L.take i) = x at hnt hr hrx
        generalize L.getD i 0 = y at hcell hb hnt
        clear hc
        have e1 : IntKind.u64.wrap (x * 256) = x * 256 := by rw [wrapu64]; omega
        have e2 : IntKind.u64.wrap y = y := by rw [wrapu64]; omega
        have e3 := join_byte x y (by omega) hb
        have e4 : x * 256 % 18446744073709551616 = x * 256 := by omega
        have e5 : y % 18446744073709551616 = y := by omega
        go_wp2_with fail
        go_roundw
        case rel => exact ⟨i + 1, by omega, by go_num, by rw [hnt], trivial⟩
        case measure => simp [intOf]; omega
    · have h1 : ¬ ((i : Int) < n) := by omega
      obtain rfl : i = n := by omega
      rw [List.take_of_length_le (by omega)]
      go_wp2_with fail
      go_ret
      exact ⟨rfl, HR1.out⟩
end Go.Proofs.YtngegdamcfmonaaGreat

namespace Go.Proofs.YtngegdamcfmonaaGreat
open Go.ChangeShapes Go.WideShapes Go.ChangeAt Go.RowKit Go.Joins
open Sm
open Cf
set_option linter.unusedVariables false
set_option maxRecDepth 100000

theorem map_of {k : IntKind} {P : Int → Prop} : ∀ (cs : List Value), (∀ i, i < cs.length → ∃ a, cs[i]? = some (.int k a) ∧ P a) → ∃ l : List Int, cs = l.map (Value.int k) ∧ ∀ a ∈ l, P a
  | [], _ => ⟨[], rfl, by simp⟩
  | c :: cs, h => by
    obtain ⟨a, e, ha⟩ := h 0 (by simp)
    simp at e
    subst e
    obtain ⟨l, rfl, hl⟩ := map_of cs (fun i hi => by simpa using h (i + 1) (by simpa using hi))
    exact ⟨a :: l, rfl, fun b hb => by
      rcases List.mem_cons.mp hb with rfl | hb
      · exact ha
      · exact hl b hb⟩
theorem bytes_all : ∀ {l : List Int}, (∀ a ∈ l, 0 ≤ a ∧ a ≤ 255) → IsBytes l
  | [], _ => bytes_nil
  | a :: l, h => bytes_cons (h a (by simp)) (bytes_all fun b hb => h b (List.mem_cons_of_mem _ hb))
section
variable {H : Type} {enc : TypeId × Value → H} {W : World} {base : Nat} {held : Bool}
theorem open_arr {t : TypeId} {n : Nat} (ht : Tryz.prog.underlying t = some (.array n 5)) (hc : Tryz.prog.cellsOf t = n) {fuel : Nat} {cs : List Value} {x : DataW H × List MemPlace} (h : DataW.trod enc Tryz.prog W base (fun _ => true) held fuel t cs = some x) :
    ∃ l : List Int, cs = l.map (Value.int .u8) ∧ l.length = n ∧ IsBytes l := by
  obtain ⟨xs, m, -, -, hcl, hlen, hel⟩ := DataW.trod_array ht h
  rw [hc] at hcl
  rw [show Tryz.prog.cellsOf 5 = 1 by kernel_rfl] at hel
  obtain ⟨l, rfl, hl⟩ := map_of (k := .u8) (P := fun a => 0 ≤ a ∧ a ≤ 255) cs (fun i hi => by
    have h1 := hel i (by omega)
    rw [List.getElem?_eq_getElem (by omega)] at h1
    obtain ⟨a, e0, -, wa⟩ := DataW.trod_int Tryz.underlying5 h1
    refine ⟨a, ?_, bounds_u8 wa⟩
    have := congrArg (·[0]?) e0
    simpa [List.getElem?_take, List.getElem?_drop] using this)
  exact ⟨l, rfl, by simpa using hcl, bytes_all hl⟩
theorem addr_add (b off j : Nat) : (Addr.mk b off none).add j = ⟨b, off + j, none⟩ := by
  by_cases e : j = 0
  · subst e; simp [Addr.add]
  · simp [Addr.add, e]
theorem open_nums {fuel : Nat} {cs : List Value} {x : DataW H × List MemPlace} (h : DataW.trod enc Tryz.prog W base (fun _ => true) held fuel 29 cs = some x) :
    ∃ (v : Value) (l : List Int), cs = [v] ∧ Rw W 1 v (ux l) := by
  rcases open_ints Tryz.underlying29 Tryz.underlying22 (by kernel_rfl) h with ⟨rfl, _⟩ | ⟨a, len, cap, zs, rfl, _, hl, hm, hz, _, hcell, hwz⟩
  · exact ⟨_, [], rfl, none, 0, rfl, Nat.le_refl _, by omega, fun _ => rfl, Or.inl rfl⟩
  · simp only [if_true] at hz
    have e : (ux (zs.take len)).length = len := by simp [ux]; omega
    refine ⟨_, zs.take len, rfl, some a, cap, by rw [e], by omega, hm, (fun e => by cases e), ?_⟩
    by_cases h0 : len = 0
    · left
      subst h0
      simp [ux]
    · right
      obtain ⟨b, off, spot⟩ := a
      have hspot : spot = none := by
        have hc := hcell 0 (by omega)
        simpa [Addr.add] using World.cell?_spot hc
      subst hspot
      refine ⟨b, off, rfl, fun i hi j u hu => ?_⟩
      rw [e] at hi
      have hi' : i < (zs.take len).length := by simp; omega
      have hg : (ux (zs.take len)).getD i [] = [.int .u32 (zs.getD i 0)] := by
        rw [List.getD, ux, List.getElem?_map, List.getElem?_take, if_pos hi, List.getD, List.getElem?_eq_getElem (by omega)]
        rfl
      rw [hg] at hu
      match j, hu with
      | 0, hu =>
        simp at hu
        subst hu
        have hc := hcell i (by omega)
        rw [addr_add] at hc
        simpa using hc
theorem trod_struct2 {t : TypeId} {f0 f1 : Field} {fuel : Nat} {cs : List Value} {x : DataW H × List MemPlace} (ht : Tryz.prog.underlying t = some (.struct #[f0, f1])) (h : DataW.trod enc Tryz.prog W base (fun _ => true) held fuel t cs = some x) :
    ∃ y0 y1 n, DataW.trod enc Tryz.prog W base (fun _ => true) held n f0.type ((cs.drop f0.offset).take (Tryz.prog.cellsOf f0.type)) = some y0 ∧ DataW.trod enc Tryz.prog W base (fun _ => true) held n f1.type ((cs.drop f1.offset).take (Tryz.prog.cellsOf f1.type)) = some y1 := by
  obtain ⟨xs, n, _, _, hl, hlen, hf⟩ := DataW.trod_struct ht h
  match xs, hlen with
  | [y0, y1], _ => exact ⟨y0, y1, n, by simpa using hf 0 f0 rfl, by simpa using hf 1 f1 rfl⟩
theorem list_of {β : Type} (Q : Nat → β → Prop) : ∀ n, (∀ i, i < n → ∃ x, Q i x) → ∃ l : List β, l.length = n ∧ ∀ i x, l[i]? = some x → Q i x
  | 0, _ => ⟨[], rfl, by simp⟩
  | n + 1, h => by
    obtain ⟨l, hl, hq⟩ := list_of Q n (fun i hi => h i (by omega))
    obtain ⟨x, hx⟩ := h n (by omega)
    refine ⟨l ++ [x], by simp [hl], fun i y hy => ?_⟩
    rw [List.getElem?_append] at hy
    split at hy
    · exact hq i y hy
    · rename_i hi
      have : i = n := by
        have := (List.getElem?_eq_some_iff.1 hy).1
        simp at this
        omega
      subst this
      rw [hl, Nat.sub_self] at hy
      simp at hy
      subst hy
      exact hx
theorem open_pairs {fuel : Nat} {cs : List Value} {x : DataW H × List MemPlace} (h : DataW.trod enc Tryz.prog W base (fun _ => true) held fuel 31 cs = some x) :
    ∃ (v : Value) (l : List (Int × Int)), cs = [v] ∧ Rw W 2 v (px l) := by
  rcases Go.Deep.open_slice Tryz.underlying31 h with ⟨rfl, _⟩ | ⟨a, len, cap, m, n, D, Pl, rfl, _, hl, hm, hmm, _, hx⟩
  · exact ⟨_, [], rfl, none, 0, rfl, Nat.le_refl _, by omega, fun _ => rfl, Or.inl rfl⟩
  · have hlm : len ≤ m := by simp at hmm; omega
    by_cases h0 : len = 0
    · subst h0
      exact ⟨_, [], rfl, some a, cap, rfl, Nat.zero_le _, hm, (fun e => by cases e), Or.inl rfl⟩
    · rw [show Tryz.prog.cellsOf 142 = 2 by kernel_rfl] at hx
      obtain ⟨b, off, spot⟩ := a
      have hspot : spot = none := by
        obtain ⟨cs', h1, h2⟩ := hx 0 (by omega)
        obtain ⟨_, hlen, hcell⟩ := World.cells?_some h1
        have hc := hcell 0 (by omega)
        rw [List.getElem?_eq_getElem (by omega)] at hc
        simpa [Addr.add] using World.cell?_spot hc
      subst hspot
      obtain ⟨l, hll, hq⟩ := list_of (fun i (x : Int × Int) => W.cell? ⟨b, off + i * 2, none⟩ = some (.int .u32 x.1) ∧ W.cell? ⟨b, off + i * 2 + 1, none⟩ = some (.int .u32 x.2)) len (fun i hi => by
        obtain ⟨cs', h1, h2⟩ := hx i (by omega)
        obtain ⟨_, hlen, hcell⟩ := World.cells?_some h1
        match cs', hlen with
        | [v0, v1], _ =>
          have e0 := hcell 0 (by omega)
          have e1 := hcell 1 (by omega)
          rw [Go.Deep.add_add] at e0 e1
          rw [addr_add] at e0 e1
          obtain ⟨y0, y1, n', g0, g1⟩ := trod_struct2 Tryz.underlying142 h2
          have k0 : DataW.trod enc Tryz.prog W base (fun _ => true) held n' 22 [v0] = some y0 := by
            have := g0; simp only [show Tryz.prog.cellsOf 22 = 1 by kernel_rfl] at this; exact this
          have k1 : DataW.trod enc Tryz.prog W base (fun _ => true) held n' 22 [v1] = some y1 := by
            have := g1; simp only [show Tryz.prog.cellsOf 22 = 1 by kernel_rfl] at this; exact this
          obtain ⟨x0, rfl, q0⟩ := open_cell Tryz.underlying22 k0
          obtain ⟨x1, rfl, q1⟩ := open_cell Tryz.underlying22 k1
          exact ⟨(x0, x1), by simpa using e0, by simpa [Nat.add_assoc] using e1⟩)
      have e : (px l).length = len := by simp [px, hll]
      refine ⟨_, l, rfl, some ⟨b, off, none⟩, cap, by rw [e], by omega, hm, (fun e => by cases e), Or.inr ⟨b, off, rfl, fun i hi j u hu => ?_⟩⟩
      rw [e] at hi
      have hg : (px l).getD i [] = [.int .u32 (l[i]'(by omega)).1, .int .u32 (l[i]'(by omega)).2] := by
        rw [List.getD, px, List.getElem?_map, List.getElem?_eq_getElem (by omega)]
        rfl
      rw [hg] at hu
      obtain ⟨q0, q1⟩ := hq i _ (List.getElem?_eq_getElem (by omega))
      match j, hu with
      | 0, hu =>
        simp at hu
        subst hu
        simpa using q0
      | 1, hu =>
        simp at hu
        subst hu
        exact q1
theorem open_num {fuel : Nat} {t : TypeId} {k : IntKind} {cs : List Value} {x : DataW H × List MemPlace} (ht : Tryz.prog.underlying t = some (.int k)) (h : DataW.trod enc Tryz.prog W base (fun _ => true) held fuel t cs = some x) : ∃ a, cs = [.int k a] := by
  obtain ⟨a, e, -, -⟩ := DataW.trod_int ht h
  exact ⟨a, e⟩
theorem trod_struct16 {t : TypeId} {f0 f1 f2 f3 f4 f5 f6 f7 f8 f9 f10 f11 f12 f13 f14 f15 : Field} {fuel : Nat} {cs : List Value} {x : DataW H × List MemPlace} (ht : Tryz.prog.underlying t = some (.struct #[f0, f1, f2, f3, f4, f5, f6, f7, f8, f9, f10, f11, f12, f13, f14, f15])) (h : DataW.trod enc Tryz.prog W base (fun _ => true) held fuel t cs = some x) :
    ∃ n, cs.length = Tryz.prog.cellsOf t ∧ (∃ y, DataW.trod enc Tryz.prog W base (fun _ => true) held n f0.type ((cs.drop f0.offset).take (Tryz.prog.cellsOf f0.type)) = some y) ∧ (∃ y, DataW.trod enc Tryz.prog W base (fun _ => true) held n f1.type ((cs.drop f1.offset).take (Tryz.prog.cellsOf f1.type)) = some y) ∧ (∃ y, DataW.trod enc Tryz.prog W base (fun _ => true) held n f2.type ((cs.drop f2.offset).take (Tryz.prog.cellsOf f2.type)) = some y) ∧ (∃ y, DataW.trod enc Tryz.prog W base (fun _ => true) held n f3.type ((cs.drop f3.offset).take (Tryz.prog.cellsOf f3.type)) = some y) ∧ (∃ y, DataW.trod enc Tryz.prog W base (fun _ => true) held n f4.type ((cs.drop f4.offset).take (Tryz.prog.cellsOf f4.type)) = some y) ∧ (∃ y, DataW.trod enc Tryz.prog W base (fun _ => true) held n f5.type ((cs.drop f5.offset).take (Tryz.prog.cellsOf f5.type)) = some y) ∧ (∃ y, DataW.trod enc Tryz.prog W base (fun _ => true) held n f6.type ((cs.drop f6.offset).take (Tryz.prog.cellsOf f6.type)) = some y) ∧ (∃ y, DataW.trod enc Tryz.prog W base (fun _ => true) held n f7.type ((cs.drop f7.offset).take (Tryz.prog.cellsOf f7.type)) = some y) ∧ (∃ y, DataW.trod enc Tryz.prog W base (fun _ => true) held n f8.type ((cs.drop f8.offset).take (Tryz.prog.cellsOf f8.type)) = some y) ∧ (∃ y, DataW.trod enc Tryz.prog W base (fun _ => true) held n f9.type ((cs.drop f9.offset).take (Tryz.prog.cellsOf f9.type)) = some y) ∧ (∃ y, DataW.trod enc Tryz.prog W base (fun _ => true) held n f10.type ((cs.drop f10.offset).take (Tryz.prog.cellsOf f10.type)) = some y) ∧ (∃ y, DataW.trod enc Tryz.prog W base (fun _ => true) held n f11.type ((cs.drop f11.offset).take (Tryz.prog.cellsOf f11.type)) = some y) ∧ (∃ y, DataW.trod enc Tryz.prog W base (fun _ => true) held n f12.type ((cs.drop f12.offset).take (Tryz.prog.cellsOf f12.type)) = some y) ∧ (∃ y, DataW.trod enc Tryz.prog W base (fun _ => true) held n f13.type ((cs.drop f13.offset).take (Tryz.prog.cellsOf f13.type)) = some y) ∧ (∃ y, DataW.trod enc Tryz.prog W base (fun _ => true) held n f14.type ((cs.drop f14.offset).take (Tryz.prog.cellsOf f14.type)) = some y) ∧ (∃ y, DataW.trod enc Tryz.prog W base (fun _ => true) held n f15.type ((cs.drop f15.offset).take (Tryz.prog.cellsOf f15.type)) = some y) := by
  obtain ⟨xs, n, _, _, hl, hlen, hf⟩ := DataW.trod_struct ht h
  have hlen' : xs.length = 16 := hlen
  exact ⟨n, hl, ⟨_, (hf 0 f0 rfl).trans (List.getElem?_eq_getElem (by omega))⟩, ⟨_, (hf 1 f1 rfl).trans (List.getElem?_eq_getElem (by omega))⟩, ⟨_, (hf 2 f2 rfl).trans (List.getElem?_eq_getElem (by omega))⟩, ⟨_, (hf 3 f3 rfl).trans (List.getElem?_eq_getElem (by omega))⟩, ⟨_, (hf 4 f4 rfl).trans (List.getElem?_eq_getElem (by omega))⟩, ⟨_, (hf 5 f5 rfl).trans (List.getElem?_eq_getElem (by omega))⟩, ⟨_, (hf 6 f6 rfl).trans (List.getElem?_eq_getElem (by omega))⟩, ⟨_, (hf 7 f7 rfl).trans (List.getElem?_eq_getElem (by omega))⟩, ⟨_, (hf 8 f8 rfl).trans (List.getElem?_eq_getElem (by omega))⟩, ⟨_, (hf 9 f9 rfl).trans (List.getElem?_eq_getElem (by omega))⟩, ⟨_, (hf 10 f10 rfl).trans (List.getElem?_eq_getElem (by omega))⟩, ⟨_, (hf 11 f11 rfl).trans (List.getElem?_eq_getElem (by omega))⟩, ⟨_, (hf 12 f12 rfl).trans (List.getElem?_eq_getElem (by omega))⟩, ⟨_, (hf 13 f13 rfl).trans (List.getElem?_eq_getElem (by omega))⟩, ⟨_, (hf 14 f14 rfl).trans (List.getElem?_eq_getElem (by omega))⟩, ⟨_, (hf 15 f15 rfl).trans (List.getElem?_eq_getElem (by omega))⟩⟩
theorem open_cells {fuel : Nat} {cs : List Value} {x : DataW H × List MemPlace} (hf : DataW.trod enc Tryz.prog W base (fun _ => true) held fuel 33 cs = some x) :
    ∃ (t : Ten) (p s q : Value), cs = tc t p s q ∧ TLen t ∧ Rw W 1 p (ux t.pool) ∧ Rw W 2 s (px t.stat) ∧ Rw W 2 q (px t.twi) ∧ IsBytes t.key ∧ IsBytes t.vmac ∧ IsBytes t.host := by
  obtain ⟨n, hl, ⟨y0, g0⟩, ⟨y1, g1⟩, ⟨y2, g2⟩, ⟨y3, g3⟩, ⟨y4, g4⟩, ⟨y5, g5⟩, ⟨y6, g6⟩, ⟨y7, g7⟩, ⟨y8, g8⟩, ⟨y9, g9⟩, ⟨y10, g10⟩, ⟨y11, g11⟩, ⟨y12, g12⟩, ⟨y13, g13⟩, ⟨y14, g14⟩, ⟨y15, g15⟩⟩ := trod_struct16 Tryz.underlying33 hf
  rw [show Tryz.prog.cellsOf 33 = 33 by kernel_rfl] at hl
  have c1 : Tryz.prog.cellsOf 9 = 1 := by kernel_rfl
  have c2 : Tryz.prog.cellsOf 22 = 1 := by kernel_rfl
  have c3 : Tryz.prog.cellsOf 25 = 8 := by kernel_rfl
  have c4 : Tryz.prog.cellsOf 24 = 6 := by kernel_rfl
  have c5 : Tryz.prog.cellsOf 29 = 1 := by kernel_rfl
  have c6 : Tryz.prog.cellsOf 30 = 1 := by kernel_rfl
  have c7 : Tryz.prog.cellsOf 3 = 1 := by kernel_rfl
  have c8 : Tryz.prog.cellsOf 31 = 1 := by kernel_rfl
  simp only [c1, c2, c3, c4, c5, c6, c7, c8] at g0 g1 g2 g3 g4 g5 g6 g7 g8 g9 g10 g11 g12 g13 g14 g15
  obtain ⟨nm, e0, -⟩ := DataW.trod_string Tryz.underlying9 g0
  obtain ⟨vni, e1⟩ := open_num Tryz.underlying22 g1
  obtain ⟨key, e2, l2, b2⟩ := open_arr Tryz.underlying25 c3 g2
  obtain ⟨vtep, e3⟩ := open_num Tryz.underlying22 g3
  obtain ⟨vmac, e4, l4, b4⟩ := open_arr Tryz.underlying24 c4 g4
  obtain ⟨host, e5, l5, b5⟩ := open_arr Tryz.underlying24 c4 g5
  obtain ⟨p, pool, e6, r6⟩ := open_nums g6
  obtain ⟨lo, e7⟩ := open_num Tryz.underlying30 g7
  obtain ⟨hi, e8⟩ := open_num Tryz.underlying30 g8
  obtain ⟨fi, e9⟩ := open_num Tryz.underlying3 g9
  obtain ⟨s, stat, e10, r10⟩ := open_pairs g10
  obtain ⟨q, twi, e11, r11⟩ := open_pairs g11
  obtain ⟨se, e12⟩ := open_num Tryz.underlying3 g12
  obtain ⟨qu, e13⟩ := open_num Tryz.underlying3 g13
  obtain ⟨ra, e14⟩ := open_num Tryz.underlying22 g14
  obtain ⟨bu, e15⟩ := open_num Tryz.underlying22 g15
  have step : ∀ o n o', o + n = o' → cs.drop o = (cs.drop o).take n ++ cs.drop o' := by
    intro o n o' e
    subst e
    rw [← List.drop_drop, List.take_append_drop]
  refine ⟨⟨nm, vni, key, vtep, vmac, host, pool, lo, hi, fi, stat, twi, se, qu, ra, bu⟩, p, s, q, ?_, ⟨l2, l4, l5⟩, r6, r10, r11, b2, b4, b5⟩
  have hend : cs.drop 33 = [] := by rw [List.drop_eq_nil_iff]; omega
  refine (List.drop_zero (l := cs)).symm.trans ?_
  rw [step 0 1 1 rfl, e0, step 1 1 2 rfl, e1, step 2 8 10 rfl, e2, step 10 1 11 rfl, e3, step 11 6 17 rfl, e4, step 17 6 23 rfl, e5, step 23 1 24 rfl, e6, step 24 1 25 rfl, e7, step 25 1 26 rfl, e8, step 26 1 27 rfl, e9, step 27 1 28 rfl, e10, step 28 1 29 rfl, e11, step 29 1 30 rfl, e12, step 30 1 31 rfl, e13, step 31 1 32 rfl, e14, step 32 1 33 rfl, e15, hend]
  simp only [tc, List.cons_append, List.nil_append, List.append_nil]
theorem open_tenant {r : Reach} {b0 : Nat} {v : Value} {d : DataW H} {p : List MemPlace} (hv : Value.okWide Tryz.prog W r b0 33 v) (h : DataW.Trod enc Tryz.prog W base (fun _ => true) held 33 v d p) :
    ∃ t : Ten, TV W v t ∧ IsBytes t.key ∧ IsBytes t.vmac ∧ IsBytes t.host := by
  obtain ⟨cs, rfl, hsz⟩ := okWide_struct Tryz.underlying33 hv
  obtain ⟨fuel, hf⟩ := h
  obtain ⟨t, p, s, q, e, h1, h2, h3, h4, h5, h6, h7⟩ := open_cells hf
  refine ⟨t, ⟨h1, p, s, q, ?_, h2, h3, h4⟩, h5, h6, h7⟩
  have e' : cs.toList = tc t p s q := e
  rw [← e']
end
end Go.Proofs.YtngegdamcfmonaaGreat

