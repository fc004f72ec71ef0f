/-
  What package log's framed answers.
-/
import Derived.Test.YtbmpjlgfbiakoaaDoorLgUnf
import Derived.Test.YtbmpjlgfbiakoaaDoorLgPut
namespace Go.Proofs.YtbmpjlgfbiakoaaDoor
open Go.RowKit
open Sm
set_option linter.unusedVariables false

theorem spl_at (A B B' C : List Int) {k : Nat} (hk : A.length = k) (hb : B'.length = B.length) : spl (A ++ (B ++ C)) k B' = A ++ (B' ++ C) := by
  subst hk
  unfold spl
  rw [List.take_left' rfl, hb, ← List.append_assoc A B C, List.drop_left' (by simp)]
/-- The block step by step. -/
def fr1 (m : Nat) : List Int := ((List.replicate m (0 : Int)).set 0 165).set (m - 1) 165
def fr2 (m : Nat) (p : Pc) := spl (fr1 m) 5 (be 8 p.t)
def fr3 (m : Nat) (p : Pc) := spl (fr2 m p) 13 (be 8 p.c)
def fr4 (m : Nat) (p : Pc) := spl (fr3 m p) 21 (be 1 p.i)
def fr5 (m : Nat) (p : Pc) := spl (fr4 m p) 22 (be 1 p.n)
def fr6 (m : Nat) (p : Pc) := spl (fr5 m p) 23 (be 4 p.b.length)
def fr7 (m : Nat) (p : Pc) := spl (fr6 m p) 63 p.b
def fr8 (m : Nat) (p : Pc) := spl (fr7 m p) 1 (be 4 (crc (sl (fr7 m p) 5 (63 + p.b.length))))
theorem rep_add (a b : Nat) (x : Int) : List.replicate (a + b) x = List.replicate a x ++ List.replicate b x := List.replicate_append_replicate.symm
theorem fr1_eq (m k : Nat) (h : k + 64 ≤ m) : fr1 m = [165] ++ (List.replicate 4 0 ++ (List.replicate 8 0 ++ (List.replicate 8 0 ++ (List.replicate 1 0 ++ (List.replicate 1 0 ++ (List.replicate 4 0 ++ (List.replicate 36 0 ++ (List.replicate k 0 ++ (List.replicate (m - 64 - k) 0 ++ [165]))))))))) := by
  obtain ⟨d, rfl⟩ : ∃ d, m = 64 + k + d := ⟨m - 64 - k, by omega⟩
  have e : List.replicate (64 + k + d) (0 : Int) = [0] ++ (List.replicate (62 + k + d) 0 ++ [0]) := by
    have : 64 + k + d = 1 + (62 + k + d + 1) := by omega
    rw [this, rep_add, rep_add]; rfl
  have e2 : List.replicate (62 + k + d) (0 : Int) = List.replicate 4 0 ++ (List.replicate 8 0 ++ (List.replicate 8 0 ++ (List.replicate 1 0 ++ (List.replicate 1 0 ++ (List.replicate 4 0 ++ (List.replicate 36 0 ++ (List.replicate k 0 ++ List.replicate (64 + k + d - 64 - k) 0))))))) := by
    have : 62 + k + d = 4 + (8 + (8 + (1 + (1 + (4 + (36 + (k + (64 + k + d - 64 - k)))))))) := by omega
    conv => lhs; rw [this]
    simp only [rep_add]
  unfold fr1
  rw [e, List.singleton_append, List.set_cons_zero, show 64 + k + d - 1 = (62 + k + d) + 1 by omega, List.set_cons_succ, List.set_append_right _ _ (by simp)]
  simp only [List.length_replicate, Nat.sub_self, List.set_cons_zero]
  rw [e2]
  simp only [List.append_assoc, List.cons_append, List.nil_append]
theorem fr7_eq {m : Nat} {p : Pc} (h : p.b.length + 64 ≤ m) : fr7 m p = [165] ++ (List.replicate 4 0 ++ (pbody p ++ (List.replicate (m - 64 - p.b.length) 0 ++ [165]))) := by
  have z1 := fr1_eq m p.b.length h
  have z2 : fr2 m p = [165] ++ (List.replicate 4 0 ++ (be 8 p.t ++ (List.replicate 8 0 ++ (List.replicate 1 0 ++ (List.replicate 1 0 ++ (List.replicate 4 0 ++ (List.replicate 36 0 ++ (List.replicate p.b.length 0 ++ (List.replicate (m - 64 - p.b.length) 0 ++ [165]))))))))) := by
    rw [fr2, z1, ← List.append_assoc [165]]; exact (spl_at ([165] ++ List.replicate 4 0) _ _ _ (by simp) (by simp [be_length])).trans (by simp)
  have z3 : fr3 m p = [165] ++ (List.replicate 4 0 ++ (be 8 p.t ++ (be 8 p.c ++ (List.replicate 1 0 ++ (List.replicate 1 0 ++ (List.replicate 4 0 ++ (List.replicate 36 0 ++ (List.replicate p.b.length 0 ++ (List.replicate (m - 64 - p.b.length) 0 ++ [165]))))))))) := by
    rw [fr3, z2, ← List.append_assoc [165], ← List.append_assoc ([165] ++ List.replicate 4 0)]; exact (spl_at ([165] ++ List.replicate 4 0 ++ be 8 p.t) _ _ _ (by simp [be_length]) (by simp [be_length])).trans (by simp)
  have z4 : fr4 m p = [165] ++ (List.replicate 4 0 ++ (be 8 p.t ++ (be 8 p.c ++ (be 1 p.i ++ (List.replicate 1 0 ++ (List.replicate 4 0 ++ (List.replicate 36 0 ++ (List.replicate p.b.length 0 ++ (List.replicate (m - 64 - p.b.length) 0 ++ [165]))))))))) := by
    rw [fr4, z3, ← List.append_assoc [165], ← List.append_assoc ([165] ++ List.replicate 4 0), ← List.append_assoc ([165] ++ List.replicate 4 0 ++ be 8 p.t)]; exact (spl_at ([165] ++ List.replicate 4 0 ++ be 8 p.t ++ be 8 p.c) _ _ _ (by simp [be_length]) (by simp [be_length])).trans (by simp)
  have z5 : fr5 m p = [165] ++ (List.replicate 4 0 ++ (be 8 p.t ++ (be 8 p.c ++ (be 1 p.i ++ (be 1 p.n ++ (List.replicate 4 0 ++ (List.replicate 36 0 ++ (List.replicate p.b.length 0 ++ (List.replicate (m - 64 - p.b.length) 0 ++ [165]))))))))) := by
    rw [fr5, z4, ← List.append_assoc [165], ← List.append_assoc ([165] ++ List.replicate 4 0), ← List.append_assoc ([165] ++ List.replicate 4 0 ++ be 8 p.t), ← List.append_assoc ([165] ++ List.replicate 4 0 ++ be 8 p.t ++ be 8 p.c)]; exact (spl_at ([165] ++ List.replicate 4 0 ++ be 8 p.t ++ be 8 p.c ++ be 1 p.i) _ _ _ (by simp [be_length]) (by simp [be_length])).trans (by simp)
  have z6 : fr6 m p = [165] ++ (List.replicate 4 0 ++ (be 8 p.t ++ (be 8 p.c ++ (be 1 p.i ++ (be 1 p.n ++ (be 4 p.b.length ++ (List.replicate 36 0 ++ (List.replicate p.b.length 0 ++ (List.replicate (m - 64 - p.b.length) 0 ++ [165]))))))))) := by
    rw [fr6, z5, ← List.append_assoc [165], ← List.append_assoc ([165] ++ List.replicate 4 0), ← List.append_assoc ([165] ++ List.replicate 4 0 ++ be 8 p.t), ← List.append_assoc ([165] ++ List.replicate 4 0 ++ be 8 p.t ++ be 8 p.c), ← List.append_assoc ([165] ++ List.replicate 4 0 ++ be 8 p.t ++ be 8 p.c ++ be 1 p.i)]; exact (spl_at ([165] ++ List.replicate 4 0 ++ be 8 p.t ++ be 8 p.c ++ be 1 p.i ++ be 1 p.n) _ _ _ (by simp [be_length]) (by simp [be_length])).trans (by simp)
  have z6' : fr6 m p = ([165] ++ List.replicate 4 0 ++ be 8 p.t ++ be 8 p.c ++ be 1 p.i ++ be 1 p.n ++ be 4 p.b.length ++ List.replicate 36 0) ++ (List.replicate p.b.length 0 ++ (List.replicate (m - 64 - p.b.length) 0 ++ [165])) := by rw [z6]; simp
  rw [fr7, z6', spl_at _ (List.replicate p.b.length 0) p.b _ (by simp [be_length]) (by simp)]
  simp [pbody]
theorem fr8_eq {m : Nat} {p : Pc} (h : p.b.length + 64 ≤ m) : fr8 m p = frm m p := by
  have z7 := fr7_eq h
  have hs : sl (fr7 m p) 5 (63 + p.b.length) = pbody p := by
    rw [z7, ← List.append_assoc [165]]
    exact sl_mid _ _ _ (by simp) (by rw [pbody_length]; omega)
  rw [fr8, hs, z7, spl_at [165] (List.replicate 4 0) _ _ (by simp) (by simp [be_length])]
  rfl
theorem fr_len {m : Nat} {p : Pc} (h : p.b.length + 64 ≤ m) : (fr1 m).length = m ∧ (fr2 m p).length = m ∧ (fr3 m p).length = m ∧ (fr4 m p).length = m ∧ (fr5 m p).length = m ∧ (fr6 m p).length = m ∧ (fr7 m p).length = m := by
  have h1 : (fr1 m).length = m := by simp [fr1]
  have h2 : (fr2 m p).length = m := by rw [fr2, spl_length _ _ _ (by rw [be_length, h1]; omega), h1]
  have h3 : (fr3 m p).length = m := by rw [fr3, spl_length _ _ _ (by rw [be_length, h2]; omega), h2]
  have h4 : (fr4 m p).length = m := by rw [fr4, spl_length _ _ _ (by rw [be_length, h3]; omega), h3]
  have h5 : (fr5 m p).length = m := by rw [fr5, spl_length _ _ _ (by rw [be_length, h4]; omega), h4]
  have h6 : (fr6 m p).length = m := by rw [fr6, spl_length _ _ _ (by rw [be_length, h5]; omega), h5]
  exact ⟨h1, h2, h3, h4, h5, h6, by rw [fr7, spl_length _ _ _ (by omega), h6]⟩
theorem set_isb {l : List Int} (h : IsBytes l) (j : Nat) (x : Int) (hx : 0 ≤ x ∧ x ≤ 255) : IsBytes (l.set j x) := by
  intro q
  by_cases e : j = q
  · subst e
    by_cases h2 : j < l.length
    · have : (l.set j x).getD j 0 = x := by simp [List.getD, h2]
      rw [this]; exact hx
    · have : (l.set j x).getD j 0 = 0 := by simp [List.getD, h2]
      rw [this]; omega
  · have : (l.set j x).getD q 0 = l.getD q 0 := by simp [List.getD, List.getElem?_set_ne e]
    rw [this]; exact h q
theorem fr7_isb {m : Nat} {p : Pc} (h : IsBytes p.b) : IsBytes (fr7 m p) := by
  have h1 : IsBytes (fr1 m) := set_isb (set_isb (bytes_rep _ _ (by omega)) _ _ (by omega)) _ _ (by omega)
  exact spl_bytes (spl_bytes (spl_bytes (spl_bytes (spl_bytes (spl_bytes h1 (be_bytes _ _) _) (be_bytes _ _) _) (be_bytes _ _) _) (be_bytes _ _) _) (be_bytes _ _) _) h _

set_option maxRecDepth 20000 in
set_option maxHeartbeats 4000000 in
theorem framed_any {W : World} {m : Nat} {p : Pc} (hp : PcOk m p) (hm0 : 256 ≤ m) {a : Option Addr} {k cap : Nat} (hk : p.b.length = k) (hcap : k ≤ cap) (hr : Row W a p.b) :
    Calls Tryd.prog 43 #[.agg (pcA p.t p.c p.i p.n (.slice a k cap)), .int .i64 m] W fun e W' => ∃ g, e = .returned (.slice (some ⟨g, 0, none⟩) m m) ∧ ∃ K, Mem W W' ((g, .cells (bs (frm m p)) 5 (0, 0)) :: K) := by
  have hlen := hp.len
  obtain ⟨l1, l2, l3, l4, l5, l6, l7⟩ := fr_len hp.len
  have hm1 := hp.top
  have ht := hp.t
  have hpc := hp.c
  have hpi := hp.i
  have hpn := hp.n
  have HF8 : Hid (fr8 m p = frm m p) := fr8_eq hp.len
  have HI7 : Hid (IsBytes (fr7 m p)) := fr7_isb hp.bytes
  obtain ⟨t, c, i, n, b⟩ := p
  simp only at *
  have hM0 := make_bytes m (by omega) (W.alloc (.cells (pcA t c i n (.slice a k cap)) pcT))
  have hA : Mem W ((W.alloc (.cells (pcA t c i n (.slice a k cap)) pcT)).alloc (.cells (madeCells #[.int .u8 0] m) 5)) ([] ++ [(W.heap.size, .cells (pcA t c i n (.slice a k cap)) pcT (0, 0))] ++ [(W.heap.size + 1, .cells (bs (List.replicate m 0)) 5 (0, 0))]) := by
    have := ((Mem.nil W).alloc (.cells (pcA t c i n (.slice a k cap)) pcT (0, 0))).push (W.heap.size + 1) (.cells (madeCells #[.int .u8 0] m) 5) (by simp)
    rw [bs_made] at this ⊢; exact this
  have hsz : (W.alloc (.cells (pcA t c i n (.slice a k cap)) pcT)).heap.size = W.heap.size + 1 := by simp
  rw [hsz] at hM0
  have HA : Hid (Mem W ((W.alloc (.cells (pcA t c i n (.slice a k cap)) pcT)).alloc (.cells (madeCells #[.int .u8 0] m) 5)) ([] ++ [(W.heap.size, .cells (pcA t c i n (.slice a k cap)) pcT (0, 0))] ++ [(W.heap.size + 1, .cells (bs (List.replicate m 0)) 5 (0, 0))])) := hA
  have z0 := hA.cell 1 rfl 0
  have zl := hA.cell 1 rfl (m - 1)
  rw [bs_get (by simp; omega)] at z0 zl
  have zf := hA.free 1 rfl
  generalize hwA : (W.alloc (.cells (pcA t c i n (.slice a k cap)) pcT)).alloc (.cells (madeCells #[.int .u8 0] m) 5) = wA at *
  have HROW : Hid (Row W a b) := hr
  have qm : (0 : Int) < m := by omega
  have qm1 : ((m : Int) - 1).toNat = m - 1 := by omega
  have qw : IntKind.i64.wrap ((m : Int) - 1) = (m : Int) - 1 := by rw [IntKind.wrap_i64]; omega
  have wc : IntKind.u64.wrap c = c := wraps_u64 _ (by omega) (by omega)
  have wi : IntKind.u64.wrap i = i := wraps_u64 _ (by omega) (by omega)
  have wn : IntKind.u64.wrap n = n := wraps_u64 _ (by omega) (by omega)
  have wk : IntKind.u64.wrap (k : Int) = k := wraps_u64 _ (by omega) (by omega)
  have n1 : ¬ m = 1 := by omega
  have n5 : ¬ m = 5 := by omega
  have n13 : ¬ m = 13 := by omega
  have n21 : ¬ m = 21 := by omega
  have n22 : ¬ m = 22 := by omega
  have n23 : ¬ m = 23 := by omega
  have n63 : ¬ m = 63 := by omega
  have i1 : (1 : Int) ≤ m := by omega
  have i5 : (5 : Int) ≤ m := by omega
  have i13 : (13 : Int) ≤ m := by omega
  have i21 : (21 : Int) ≤ m := by omega
  have i22 : (22 : Int) ≤ m := by omega
  have i23 : (23 : Int) ≤ m := by omega
  have i27 : (27 : Int) ≤ m := by omega
  have i63 : (63 : Int) ≤ m := by omega
  have iL : (63 : Int) + k ≤ m := by omega
  have iL0 : (0 : Int) ≤ 63 + k := by omega
  have iL5 : (5 : Int) ≤ 63 + k := by omega
  have iL2 : ((63 : Int) + k).toNat = 63 + k := by omega
  have iLw : IntKind.i64.wrap ((63 : Int) + k) = (63 : Int) + k := by rw [IntKind.wrap_i64]; omega
  clear hA hr hp
  go_enter Tryd.func43, Tryd.ntmps43
  go_upto_region 3 with fail
  refine wp_letter (fun V => Mem W V [(W.heap.size, .cells (pcA t c i n (.slice a k cap)) pcT (0, 0)), (W.heap.size + 1, .cells (bs (fr1 m)) 5 (0, 0))]) (by
    have := (HA.out.set 1 rfl 0 (.int .u8 165)).set 1 rfl (m - 1) (.int .u8 165)
    rw [bs_set, bs_set] at this
    exact this) ?_
  clear HA hwA z0 zl zf hM0 hsz wA
  intro w3 h3
  have kc := h3.cell 0 rfl 0
  simp at kc
  have hput : Calls Tryd.prog 53 #[.slice (some ⟨W.heap.size + 1, 5, none⟩) 8 (m - 5), .int .u64 t] w3.drew fun e W' => e = .returned (.tuple #[]) ∧ Wrote w3.drew W' (W.heap.size + 1) (bs (spl (fr1 m) 5 (be 8 t))) 5 := put_any (h3.drew.get 1 rfl) 5 8 _ (by omega) (by omega) (by omega) t (by omega) (by omega)
  have HPUT : Hid (Calls Tryd.prog 53 #[.slice (some ⟨W.heap.size + 1, 5, none⟩) 8 (m - 5), .int .u64 t] w3.drew fun e W' => e = .returned (.tuple #[]) ∧ Wrote w3.drew W' (W.heap.size + 1) (bs (spl (fr1 m) 5 (be 8 t))) 5) := hput
  have HM : Hid (Mem W w3 [(W.heap.size, .cells (pcA t c i n (.slice a k cap)) pcT (0, 0)), (W.heap.size + 1, .cells (bs (fr1 m)) 5 (0, 0))]) := h3
  have hne : W.heap.size + 1 ≠ W.heap.size := by omega
  clear h3 hput
  go_region_held3 (fun w' => w'.cell? ⟨W.heap.size, 0, none⟩ = some (.int .u64 t)) (first | go_keep | assumption | exact (q5.cell hne).trans kc)
    (first | (go_at_call 53; with_reducible refine HPUT.out.mono ?_; rintro e w5 ⟨rfl, q5⟩))
  go_upto_region 4 with fail
  refine wp_letter (fun V => Mem W V [(W.heap.size, .cells (pcA t c i n (.slice a k cap)) pcT (0, 0)), (W.heap.size + 1, .cells (bs (fr2 m ⟨t, c, i, n, b⟩)) 5 (0, 0))]) (HM.out.drew.wrote 1 rfl q5) ?_
  clear HM HPUT q5 kc hne
  intro w4 h4
  have kc := h4.cell 0 rfl 1
  simp at kc
  have hput : Calls Tryd.prog 53 #[.slice (some ⟨W.heap.size + 1, 13, none⟩) 8 (m - 13), .int .u64 c] w4.drew fun e W' => e = .returned (.tuple #[]) ∧ Wrote w4.drew W' (W.heap.size + 1) (bs (spl (fr2 m ⟨t, c, i, n, b⟩) 13 (be 8 c))) 5 := put_any (h4.drew.get 1 rfl) 13 8 _ (by omega) (by omega) (by omega) c (by omega) (by omega)
  have HPUT : Hid (Calls Tryd.prog 53 #[.slice (some ⟨W.heap.size + 1, 13, none⟩) 8 (m - 13), .int .u64 c] w4.drew fun e W' => e = .returned (.tuple #[]) ∧ Wrote w4.drew W' (W.heap.size + 1) (bs (spl (fr2 m ⟨t, c, i, n, b⟩) 13 (be 8 c))) 5) := hput
  have HM : Hid (Mem W w4 [(W.heap.size, .cells (pcA t c i n (.slice a k cap)) pcT (0, 0)), (W.heap.size + 1, .cells (bs (fr2 m ⟨t, c, i, n, b⟩)) 5 (0, 0))]) := h4
  have hne : W.heap.size + 1 ≠ W.heap.size := by omega
  clear h4 hput
  go_region_held3 (fun w' => w'.cell? ⟨W.heap.size, 1, none⟩ = some (.int .i64 c)) (first | go_keep | assumption | exact (q5.cell hne).trans kc)
    (first | (go_at_call 53; with_reducible refine HPUT.out.mono ?_; rintro e w5 ⟨rfl, q5⟩))
  go_upto_region 5 with fail
  refine wp_letter (fun V => Mem W V [(W.heap.size, .cells (pcA t c i n (.slice a k cap)) pcT (0, 0)), (W.heap.size + 1, .cells (bs (fr3 m ⟨t, c, i, n, b⟩)) 5 (0, 0))]) (HM.out.drew.wrote 1 rfl q5) ?_
  clear HM HPUT q5 kc hne
  intro w5 h5
  have kc := h5.cell 0 rfl 2
  simp at kc
  have hput : Calls Tryd.prog 53 #[.slice (some ⟨W.heap.size + 1, 21, none⟩) 1 (m - 21), .int .u64 i] w5.drew fun e W' => e = .returned (.tuple #[]) ∧ Wrote w5.drew W' (W.heap.size + 1) (bs (spl (fr3 m ⟨t, c, i, n, b⟩) 21 (be 1 i))) 5 := put_any (h5.drew.get 1 rfl) 21 1 _ (by omega) (by omega) (by omega) i (by omega) (by omega)
  have HPUT : Hid (Calls Tryd.prog 53 #[.slice (some ⟨W.heap.size + 1, 21, none⟩) 1 (m - 21), .int .u64 i] w5.drew fun e W' => e = .returned (.tuple #[]) ∧ Wrote w5.drew W' (W.heap.size + 1) (bs (spl (fr3 m ⟨t, c, i, n, b⟩) 21 (be 1 i))) 5) := hput
  have HM : Hid (Mem W w5 [(W.heap.size, .cells (pcA t c i n (.slice a k cap)) pcT (0, 0)), (W.heap.size + 1, .cells (bs (fr3 m ⟨t, c, i, n, b⟩)) 5 (0, 0))]) := h5
  have hne : W.heap.size + 1 ≠ W.heap.size := by omega
  clear h5 hput
  go_region_held3 (fun w' => w'.cell? ⟨W.heap.size, 2, none⟩ = some (.int .i64 i)) (first | go_keep | assumption | exact (q5.cell hne).trans kc)
    (first | (go_at_call 53; with_reducible refine HPUT.out.mono ?_; rintro e w5 ⟨rfl, q5⟩))
  go_upto_region 6 with fail
  refine wp_letter (fun V => Mem W V [(W.heap.size, .cells (pcA t c i n (.slice a k cap)) pcT (0, 0)), (W.heap.size + 1, .cells (bs (fr4 m ⟨t, c, i, n, b⟩)) 5 (0, 0))]) (HM.out.drew.wrote 1 rfl q5) ?_
  clear HM HPUT q5 kc hne
  intro w6 h6
  have kc := h6.cell 0 rfl 3
  simp at kc
  have hput : Calls Tryd.prog 53 #[.slice (some ⟨W.heap.size + 1, 22, none⟩) 1 (m - 22), .int .u64 n] w6.drew fun e W' => e = .returned (.tuple #[]) ∧ Wrote w6.drew W' (W.heap.size + 1) (bs (spl (fr4 m ⟨t, c, i, n, b⟩) 22 (be 1 n))) 5 := put_any (h6.drew.get 1 rfl) 22 1 _ (by omega) (by omega) (by omega) n (by omega) (by omega)
  have HPUT : Hid (Calls Tryd.prog 53 #[.slice (some ⟨W.heap.size + 1, 22, none⟩) 1 (m - 22), .int .u64 n] w6.drew fun e W' => e = .returned (.tuple #[]) ∧ Wrote w6.drew W' (W.heap.size + 1) (bs (spl (fr4 m ⟨t, c, i, n, b⟩) 22 (be 1 n))) 5) := hput
  have HM : Hid (Mem W w6 [(W.heap.size, .cells (pcA t c i n (.slice a k cap)) pcT (0, 0)), (W.heap.size + 1, .cells (bs (fr4 m ⟨t, c, i, n, b⟩)) 5 (0, 0))]) := h6
  have hne : W.heap.size + 1 ≠ W.heap.size := by omega
  clear h6 hput
  go_region_held3 (fun w' => w'.cell? ⟨W.heap.size, 3, none⟩ = some (.int .i64 n)) (first | go_keep | assumption | exact (q5.cell hne).trans kc)
    (first | (go_at_call 53; with_reducible refine HPUT.out.mono ?_; rintro e w5 ⟨rfl, q5⟩))
  go_upto_region 7 with fail
  refine wp_letter (fun V => Mem W V [(W.heap.size, .cells (pcA t c i n (.slice a k cap)) pcT (0, 0)), (W.heap.size + 1, .cells (bs (fr5 m ⟨t, c, i, n, b⟩)) 5 (0, 0))]) (HM.out.drew.wrote 1 rfl q5) ?_
  clear HM HPUT q5 kc hne
  intro w7 h7
  have kc := h7.cell 0 rfl 4
  simp at kc
  have hput : Calls Tryd.prog 53 #[.slice (some ⟨W.heap.size + 1, 23, none⟩) 4 (m - 23), .int .u64 (k : Int)] w7.drew fun e W' => e = .returned (.tuple #[]) ∧ Wrote w7.drew W' (W.heap.size + 1) (bs (spl (fr5 m ⟨t, c, i, n, b⟩) 23 (be 4 (k : Int)))) 5 := put_any (h7.drew.get 1 rfl) 23 4 _ (by omega) (by omega) (by omega) (k : Int) (by omega) (by omega)
  have HPUT : Hid (Calls Tryd.prog 53 #[.slice (some ⟨W.heap.size + 1, 23, none⟩) 4 (m - 23), .int .u64 (k : Int)] w7.drew fun e W' => e = .returned (.tuple #[]) ∧ Wrote w7.drew W' (W.heap.size + 1) (bs (spl (fr5 m ⟨t, c, i, n, b⟩) 23 (be 4 (k : Int)))) 5) := hput
  have HM : Hid (Mem W w7 [(W.heap.size, .cells (pcA t c i n (.slice a k cap)) pcT (0, 0)), (W.heap.size + 1, .cells (bs (fr5 m ⟨t, c, i, n, b⟩)) 5 (0, 0))]) := h7
  have hne : W.heap.size + 1 ≠ W.heap.size := by omega
  clear h7 hput
  go_region_held3 (fun w' => w'.cell? ⟨W.heap.size, 4, none⟩ = some (.slice a k cap)) (first | go_keep | assumption | exact (q5.cell hne).trans kc)
    (first | (go_at_call 53; with_reducible refine HPUT.out.mono ?_; rintro e w5 ⟨rfl, q5⟩))
  go_upto_region 8 with fail
  refine wp_letter (fun V => Mem W V [(W.heap.size, .cells (pcA t c i n (.slice a k cap)) pcT (0, 0)), (W.heap.size + 1, .cells (bs (fr6 m ⟨t, c, i, n, b⟩)) 5 (0, 0))]) (by rw [show fr6 m ⟨t, c, i, n, b⟩ = spl (fr5 m ⟨t, c, i, n, b⟩) 23 (be 4 (k : Int)) by simp only [fr6, hk]]; exact HM.out.drew.wrote 1 rfl q5) ?_
  clear HM HPUT q5 kc hne
  intro w8 h8
  have kc := h8.cell 0 rfl 4
  simp at kc
  have HROW8 : Hid (Row w8.drew a b) := row_drew (h8.row HROW.out)
  have HM : Hid (Mem W w8 [(W.heap.size, .cells (pcA t c i n (.slice a k cap)) pcT (0, 0)), (W.heap.size + 1, .cells (bs (fr6 m ⟨t, c, i, n, b⟩)) 5 (0, 0))]) := h8
  have HLn : Hid (b.length = Nat.min k (m - 63)) := by show _ = _; rw [hk]; exact (Nat.min_eq_left (by omega)).symm
  have HP : Hid (0 < b.length → some (⟨W.heap.size + 1, 63, none⟩ : Addr) = some ⟨W.heap.size + 1, 63, none⟩ ∧ ∃ ad, a = some ad ∧ ∀ j v, (b.map (Value.int .u8))[j]? = some v → w8.drew.cell? (ad.add j) = some v) := by
    intro hp
    rcases HROW8.out.cells with e | ⟨b', off, e, hc⟩
    · rw [e] at hp; simp at hp
    · subst e; exact ⟨rfl, _, rfl, HROW8.out.news⟩
  have HF : Hid (63 + b.length ≤ (bs (fr6 m ⟨t, c, i, n, b⟩)).size) := by show _ ≤ _; rw [bs_size, l6]; omega
  have HNw : Hid ((bs (fr7 m ⟨t, c, i, n, b⟩)).toList = (bs (fr6 m ⟨t, c, i, n, b⟩)).toList.take 63 ++ (b.map (Value.int .u8) ++ (bs (fr6 m ⟨t, c, i, n, b⟩)).toList.drop (63 + b.length))) := by
    show _ = _
    simp only [fr7, spl]
    simp [List.map_append, List.map_take, List.map_drop]
  clear h8
  go_cut [4] from 6 (fun s4 wx => Mem W wx [(W.heap.size, .cells (pcA t c i n (.slice a k cap)) pcT (0, 0)), (W.heap.size + 1, .cells (bs (fr7 m ⟨t, c, i, n, b⟩)) 5 (0, 0))])
  case first =>
    go_region_law (refine step_copy_bytes rfl (.tmp 45) (.tmp 47) 22 22 rfl Tryd.underlying22 (some ⟨W.heap.size + 1, 63, none⟩) a (m - 63) (m - 63) k cap (by simp [Act.eval]) (by simp [Act.eval]) (W.heap.size + 1) 63 (bs (fr6 m ⟨t, c, i, n, b⟩)) (bs (fr7 m ⟨t, c, i, n, b⟩)) 5 (HM.out.drew.get 1 rfl) b HLn.out HP.out HF.out HNw.out ?_; intro w9 hw9)
    all_goals
      go_wp2_with fail
      go_meet
      case rel => exact HM.out.drew.wrote 1 rfl hw9
  case rest =>
  clear HM HLn HP HF HNw kc HROW8
  have kc := hcut.cell 0 rfl 4
  simp at kc
  have hI := HI7.out
  have hsum : ∀ V, Row V (some ⟨W.heap.size + 1, 0, none⟩) (fr7 m ⟨t, c, i, n, b⟩) → Calls Tryd.prog 10 #[.slice (some ⟨W.heap.size + 1, 5, none⟩) (63 + k - 5) (m - 5)] V fun e W' => e = .returned (.int .u32 (crc (sl (fr7 m ⟨t, c, i, n, b⟩) 5 (63 + b.length)))) ∧ V = W' := fun V hV => by
    have := lsum_any (n := 63 + k - 5) (by rw [sl_length _ _ _ (by rw [l7]; omega)]) (hV.sl 5 (63 + k) (by omega) (by rw [l7]; omega)) (m - 5)
    rw [hk]
    simpa only [Nat.zero_add] using this
  have hcr := crc_range (sl (fr7 m ⟨t, c, i, n, b⟩) 5 (63 + b.length)) (sl_bytes hI _ _)
  have HR7 : Hid (Row wc.drew (some ⟨W.heap.size + 1, 0, none⟩) (fr7 m ⟨t, c, i, n, b⟩)) := hcut.drew.own 1 rfl hI (by rw [l7]; omega)
  have HSUM : Hid (Calls Tryd.prog 10 #[.slice (some ⟨W.heap.size + 1, 5, none⟩) (63 + k - 5) (m - 5)] wc.drew fun e W' => e = .returned (.int .u32 (crc (sl (fr7 m ⟨t, c, i, n, b⟩) 5 (63 + b.length)))) ∧ wc.drew = W') := hsum _ HR7.out
  have HPUT : Hid (Calls Tryd.prog 53 #[.slice (some ⟨W.heap.size + 1, 1, none⟩) 4 (m - 1), .int .u64 (crc (sl (fr7 m ⟨t, c, i, n, b⟩) 5 (63 + b.length)))] wc.drew fun e W' => e = .returned (.tuple #[]) ∧ Wrote wc.drew W' (W.heap.size + 1) (bs (fr8 m ⟨t, c, i, n, b⟩)) 5) := put_any (hcut.drew.get 1 rfl) 1 4 _ (by omega) (by omega) (by omega) _ (by omega) (by omega)
  generalize crc (sl (fr7 m ⟨t, c, i, n, b⟩) 5 (63 + b.length)) = S at *
  have wS : IntKind.u64.wrap S = S := wraps_u64 _ (by omega) (by omega)
  have HM : Hid (Mem W wc [(W.heap.size, .cells (pcA t c i n (.slice a k cap)) pcT (0, 0)), (W.heap.size + 1, .cells (bs (fr7 m ⟨t, c, i, n, b⟩)) 5 (0, 0))]) := hcut
  have hne : W.heap.size + 1 ≠ W.heap.size := by omega
  clear hcut hsum HR7 hI
  obtain ⟨hc0, hc1⟩ := hcr
  go_upto_region 9 with fail
  go_region_held3 (fun w' => w'.cell? ⟨W.heap.size, 4, none⟩ = some (.slice a k cap)) (first | go_keep | assumption | exact (q5.cell hne).trans kc)
    (first
      | (go_at_call 10; with_reducible refine HSUM.out.mono ?_; rintro e w4 ⟨rfl, rfl⟩)
      | (go_at_call 53; with_reducible refine HPUT.out.mono ?_; rintro e w5 ⟨rfl, q5⟩))
  go_wp2
  go_ret
  refine ⟨W.heap.size + 1, rfl, [(W.heap.size, .cells (pcA t c i n (.slice a k cap)) pcT (0, 0))], ?_⟩
  rw [← HF8.out]
  exact (HM.out.drew.wrote 1 rfl q5).perm (List.Perm.swap _ _ _)
end Go.Proofs.YtbmpjlgfbiakoaaDoor
