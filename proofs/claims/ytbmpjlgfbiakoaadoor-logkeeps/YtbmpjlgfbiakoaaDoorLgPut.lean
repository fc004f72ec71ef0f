/-
  What package log's put, get, same answer, and the statements' own crc and record.
-/
import Derived.Test.YtbmpjlgfbiakoaaDoorLgSum
namespace Go.Proofs.YtbmpjlgfbiakoaaDoor
open Go.RowKit
open Sm
set_option linter.unusedVariables false

/-- Bytes written into a list at a place. -/
def spl (l : List Int) (off : Nat) (b : List Int) : List Int := l.take off ++ (b ++ l.drop (off + b.length))
theorem spl_length (l : List Int) (off : Nat) (b : List Int) (h : off + b.length ≤ l.length) : (spl l off b).length = l.length := by simp [spl]; omega
theorem spl_nil (l : List Int) (off : Nat) : spl l off [] = l := by simp [spl]
theorem spl_bytes {l b : List Int} (hl : IsBytes l) (hb : IsBytes b) (off : Nat) : IsBytes (spl l off b) := by
  refine bytes_app ?_ (bytes_app hb ?_)
  · have := sl_bytes hl 0 off; simpa [sl] using this
  · have := sl_bytes hl (off + b.length) l.length
    have e : sl l (off + b.length) l.length = l.drop (off + b.length) := by unfold sl; exact List.take_of_length_le (by simp)
    rwa [e] at this
theorem spl_set (l : List Int) (off i : Nat) (b : List Int) (hi : i < b.length) (h : off + b.length ≤ l.length) : (spl l off (b.take i)).set (off + i) (b.getD i 0) = spl l off (b.take (i + 1)) := by
  have h1 : (b.take i).length = i := by simp; omega
  have h2 : (b.take (i + 1)).length = i + 1 := by simp; omega
  have h3 : (l.take off).length = off := by simp; omega
  unfold spl
  rw [h1, h2, List.set_append_right _ _ (by omega), h3, Nat.add_sub_cancel_left, List.set_append_right _ _ (by omega), h1, Nat.sub_self]
  have e : l.drop (off + i) = l.getD (off + i) 0 :: l.drop (off + (i + 1)) := by
    rw [List.getD, List.getElem?_eq_getElem (show off + i < l.length by omega)]
    exact List.drop_eq_getElem_cons (show off + i < l.length by omega)
  rw [e, List.set_cons_zero, List.take_add_one, List.getElem?_eq_getElem hi, List.getD, List.getElem?_eq_getElem hi]
  simp only [Option.toList, Option.getD, List.append_assoc, List.cons_append, List.nil_append]

theorem Wrote.same {W : World} {g : Nat} {c : Array Value} {t : TypeId} (hg : W.heap[g]? = some (.cells c t (0, 0))) : Wrote W W g c t := ⟨hg, fun _ _ => rfl, rfl, fun _ _ _ h => h⟩
theorem Wrote.byte {W W1 : World} {g : Nat} {l : List Int} (h : Wrote W W1 g (bs l) 5) (j : Nat) (x : Int) : Wrote W (W1.setCell ⟨g, j, none⟩ (.int .u8 x)) g (bs (l.set j x)) 5 := by
  rw [setCell_eq_setRow W1 g j (bs l) 5 (0, 0) _ h.here, bs_set]
  exact h.trans (wrote_setRow W1 g _ _ 5 h.here)
theorem wrote_cell {W W1 : World} {g : Nat} {l : List Int} (h : Wrote W W1 g (bs l) 5) {j : Nat} (hj : j < l.length) : W1.cell? ⟨g, j, none⟩ = some (.int .u8 (l.getD j 0)) := by
  rw [cell_of h.here, bs_get hj]
theorem wrote_free {W W1 : World} {g : Nat} {c : Array Value} {t : TypeId} (h : Wrote W W1 g c t) (j : Nat) : W1.frozen? ⟨g, j, none⟩ = false := by
  simp [World.frozen?, h.here]

set_option maxRecDepth 20000 in
theorem put_any {W : World} {g : Nat} {l : List Int} (hg : W.heap[g]? = some (.cells (bs l) 5 (0, 0))) (off k c : Nat) (h : off + k ≤ l.length) (hk : k ≤ 8) (hm : l.length ≤ 140737488351232) (x : Int) (hx0 : 0 ≤ x) (hx1 : x ≤ 18446744073709551615) :
    Calls Tryd.prog 53 #[.slice (some ⟨g, off, none⟩) k c, .int .u64 x] W fun e W' => e = .returned (.tuple #[]) ∧ Wrote W W' g (bs (spl l off (be k x))) 5 := by
  have hw0 := Wrote.same hg
  go_enter Tryd.func53, Tryd.ntmps53
  go_wp2_with fail
  go_loopw [7] (fun v wr => ∃ i : Nat, v = .int .i64 i ∧ i ≤ k ∧ Wrote W wr g (bs (spl l off ((be k x).take i))) 5) (fun v _ => k - (intOf v).toNat)
  case atStart => exact ⟨0, rfl, by omega, by rw [List.take_zero, spl_nil]; exact hw0⟩
  case round =>
    obtain ⟨i, rfl, hi, hw⟩ := hrel
    have hbl := be_length k x
    by_cases hlt : i < k
    · have hsl : (spl l off ((be k x).take i)).length = l.length := spl_length _ _ _ (by simp; omega)
      have c0 := wrote_cell hw (j := off + i) (by omega)
      have f0 := wrote_free hw (off + i)
      have HX : Hid (x / 2 ^ (8 * (k - 1 - i)) % 256 = (be k x).getD i 0) := by
        rw [be_getD k i x hlt, Int.pow_mul]; rfl
      have HW := hw.byte (off + i) (x / 2 ^ (8 * (k - 1 - i)) % 256)
      have HW2 : Hid (Wrote W (wr.setCell ⟨g, off + i, none⟩ (.int .u8 (x / 2 ^ (8 * (k - 1 - i)) % 256))) g (bs (spl l off ((be k x).take (i + 1)))) 5) := by
        rw [← spl_set l off i (be k x) (by omega) (by omega), ← HX.out]; exact HW
      clear HW hw hw0 hbl
      generalize (spl l off ((be k x).take i)).getD (off + i) 0 = old at c0
      go_wp2
      go_roundw
      case rel => exact ⟨i + 1, by go_num, by omega, HW2.out⟩
      case measure => simp [intOf]; omega
    · have : i = k := by omega
      subst this
      rw [List.take_of_length_le (by omega)] at hw
      go_wp2
      go_end0
      exact ⟨rfl, hw⟩
theorem or_byte (x y : Int) (h0 : 0 ≤ x) (h1 : x < 72057594037927936) (h2 : 0 ≤ y) (h3 : y ≤ 255) : bits .or .u64 (x * 256) y = x * 256 + y :=
  bits_join .u64 64 (by decide) wraps_u64 8 (x * 256) y (by omega) (by omega) (by omega) h2 (by omega) (by omega)
theorem gt_lt (l : List Int) (hb : IsBytes l) (k : Nat) (hk : l.length = k) (h : k ≤ 7) : 0 ≤ gt l ∧ gt l < 72057594037927936 := by
  have := gt_range l hb
  refine ⟨this.1, Int.lt_of_lt_of_le this.2 ?_⟩
  rw [hk]
  match k, h with
  | 0, _ => decide
  | 1, _ => decide
  | 2, _ => decide
  | 3, _ => decide
  | 4, _ => decide
  | 5, _ => decide
  | 6, _ => decide
  | 7, _ => decide
theorem isb_take {l : List Int} (h : IsBytes l) (i : Nat) : IsBytes (l.take i) := by have := sl_bytes h 0 i; simpa [sl] using this

set_option maxRecDepth 20000 in
theorem get_any {W : World} {a : Option Addr} {l : List Int} {n : Nat} (hn : l.length = n) (hr : Row W a l) (h8 : n ≤ 8) (c : Nat) :
    Calls Tryd.prog 59 #[.slice a n c] W fun e W' => e = .returned (.int .u64 (gt l)) ∧ W = W' := by
  have HR : Hid (Row W a l) := hr
  clear hr
  go_enter Tryd.func59, Tryd.ntmps59
  go_wp2_with fail
  go_loop [3, 8] (fun s v => ∃ k : Nat, v = .int .i64 k ∧ k ≤ n ∧ s = .int .u64 (gt (l.take k))) (fun _ v => n - (intOf v).toNat)
  case atStart => exact ⟨0, rfl, by omega, rfl⟩
  case round =>
    obtain ⟨k, rfl, hk, rfl⟩ := hrel
    by_cases hlt : k < n
    · obtain ⟨b, off, rfl, hc⟩ : ∃ b off, a = some ⟨b, off, none⟩ ∧ W.cell? ⟨b, off + k, none⟩ = some (.int .u8 (l.getD k 0)) := by
        rcases HR.out.cells with e | ⟨b, off, e, hc⟩
        · rw [e] at hn; simp at hn; omega
        · exact ⟨b, off, e, hc k (by omega)⟩
      have hx := HR.out.bytes k
      have hs := gt_lt (l.take k) (isb_take HR.out.bytes k) k (by simp; omega) (by omega)
      have HN : Hid (gt (l.take (k + 1)) = gt (l.take k) * 256 + l.getD k 0) := gt_take _ _ (by omega)
      generalize gt (l.take k) = S at *
      generalize l.getD k 0 = X at *
      obtain ⟨hx0, hx1⟩ := hx
      obtain ⟨hs0, hs1⟩ := hs
      have ho := or_byte S X hs0 hs1 hx0 hx1
      have hw : IntKind.u64.wrap (S * 256) = S * 256 := wraps_u64 _ (by omega) (by omega)
      go_wp2
      go_round
      case rel => exact ⟨k + 1, by go_num, by omega, by rw [HN.out]⟩
      case measure => simp [intOf]; omega
    · have : k = n := by omega
      subst this
      have e : l.take k = l := List.take_of_length_le (by omega)
      rw [e]
      go_wp2
      go_ret
      exact ⟨rfl, rfl⟩

/-- A row's bytes in memory of their own. -/
theorem lsame_any {W : World} {a : Option Addr} {l : List Int} {n : Nat} (hn : l.length = n) (hr : Row W a l) (c : Nat) :
    Calls Tryd.prog 35 #[.slice a n c] W fun e W' => ∃ g, e = .returned (.slice (some ⟨g, 0, none⟩) n n) ∧ Mem W W' [(g, .cells (bs l) 5 (0, 0))] := by
  have hl := hr.len
  have hM := make_bytes n (by omega) W
  have hM1 : Mem W (W.alloc (.cells (madeCells #[.int .u8 0] n) 5)) [(W.heap.size, .cells (madeCells #[.int .u8 0] n) 5 (0, 0))] := (Mem.nil W).push1 rfl
  have hr1 : Row (W.alloc (.cells (madeCells #[.int .u8 0] n) 5)) a l := row_alloc hr
  generalize W.alloc (.cells (madeCells #[.int .u8 0] n) 5) = w1 at hM hM1 hr1
  obtain ⟨w2, hr2, hw2⟩ := copy_bytes w1 3 (some ⟨W.heap.size, 0, none⟩) a n n n c W.heap.size 0 _ (bs l) 5 (hM1.get 0 rfl) l (by rw [hn]; exact (Nat.min_self n).symm)
    (fun hp => by
      rcases hr1.cells with e | ⟨b, off, rfl, hc⟩
      · subst e; simp at hp
      · exact ⟨rfl, _, rfl, hr1.news⟩)
    (by rw [size_madeCells]; simp; omega) (made_new n l hn)
  rw [hn] at hr2
  have hM2 := hM1.wrote 0 rfl hw2
  have HM2 : Hid (Mem W w2 [(W.heap.size, .cells (bs l) 5 (0, 0))]) := hM2
  generalize W.heap.size = g at *
  clear hM1 hr hr1 hw2 hl hn hM2
  go_enter Tryd.func35, Tryd.ntmps35
  go_wp2
  go_ret
  exact ⟨g, rfl, HM2.out⟩

/-! ### The statements' own. -/
set_option maxRecDepth 20000 in
theorem lcrc_any {W : World} {a : Option Addr} {l : List Int} {n : Nat} (hn : l.length = n) (hr : Row W a l) (c : Nat) :
    Calls Tryd.prog 11 #[.slice a n c] W fun e W' => e = .returned (.int .u32 (crc l)) ∧ W = W' := by
  have hl := hr.len
  have HR : Hid (Row W a l) := hr
  rw [hn] at hl
  clear hr
  go_enter Tryd.func11, Tryd.ntmps11
  go_wp2_with fail
  go_loop [3, 4] (fun s v => ∃ k : Nat, v = .int .i64 k ∧ k ≤ n ∧ s = .int .u32 (crl 4294967295 (l.take k))) (fun _ v => n - (intOf v).toNat)
  case atStart => exact ⟨0, rfl, by omega, rfl⟩
  case round =>
    obtain ⟨k, rfl, hk, rfl⟩ := hrel
    by_cases hlt : k < n
    · obtain ⟨b, off, rfl, hc⟩ : ∃ b off, a = some ⟨b, off, none⟩ ∧ W.cell? ⟨b, off + k, none⟩ = some (.int .u8 (l.getD k 0)) := by
        rcases HR.out.cells with e | ⟨b, off, e, hc⟩
        · rw [e] at hn; simp at hn; omega
        · exact ⟨b, off, e, hc k (by omega)⟩
      have hx := HR.out.bytes k
      have hs := crl_range (l.take k) (isb_take HR.out.bytes k) 4294967295 (by decide) (by decide)
      have HN : Hid (crl 4294967295 (l.take (k + 1)) = cby (crl 4294967295 (l.take k)) (l.getD k 0)) := crl_take _ _ _ (by omega)
      generalize crl 4294967295 (l.take k) = S at *
      generalize l.getD k 0 = X at *
      obtain ⟨hx0, hx1⟩ := hx
      obtain ⟨hs0, hs1⟩ := hs
      have HY : Hid (cby S X = c8 8 (bits .xor .u32 S X)) := rfl
      have hy := xor32_range S X hs0 hs1 hx0 (by omega)
      go_wp2_with fail
      generalize bits .xor .u32 S X = Y at *
      go_loop [3, 5] (fun s v => ∃ j : Nat, v = .int .i64 j ∧ j ≤ 8 ∧ s = .int .u32 (c8 j Y)) (fun _ v => 8 - (intOf v).toNat)
      case atStart => exact ⟨0, rfl, by omega, rfl⟩
      case round =>
        obtain ⟨j, rfl, hj, rfl⟩ := hrel
        by_cases hlt2 : j < 8
        · have hz := c8_range j Y hy.1 hy.2
          have HZ : Hid (c8 (j + 1) Y = c1 (c8 j Y)) := c8_succ j Y
          generalize c8 j Y = Z at *
          obtain ⟨hz0, hz1⟩ := hz
          have ha := and1_odd Z hz0 hz1
          by_cases ho : Z % 2 = 1
          · rw [ho] at ha
            go_wp2
            go_round
            case rel => exact ⟨j + 1, by go_num, by omega, by rw [HZ.out, c1, if_pos ho]⟩
            case measure => simp [intOf]; omega
          · rw [show Z % 2 = 0 by omega] at ha
            go_wp2
            go_round
            case rel => exact ⟨j + 1, by go_num, by omega, by rw [HZ.out, c1, if_neg ho]⟩
            case measure => simp [intOf]; omega
        · have : j = 8 := by omega
          subst this
          go_wp2
          go_round
          case rel => exact ⟨k + 1, by go_num, by omega, by rw [HN.out, HY.out]⟩
          case measure => simp [intOf]; omega
    · have : k = n := by omega
      subst this
      have e : l.take k = l := List.take_of_length_le (by omega)
      rw [e]
      go_wp2
      go_ret
      exact ⟨rfl, rfl⟩

/-- The i-th record, of a length. -/
def rcd (i : Int) (n : Nat) : List Int := (List.range n).map fun k : Nat => (i * 31 + (k : Int)) % 256
theorem rcd_length (i : Int) (n : Nat) : (rcd i n).length = n := by simp [rcd]
theorem rcd_getD (i : Int) (n k : Nat) (h : k < n) : (rcd i n).getD k 0 = (i * 31 + (k : Int)) % 256 := by simp [rcd, List.getD, h]
theorem rcd_bytes (i : Int) (n : Nat) : IsBytes (rcd i n) := by
  intro k
  by_cases h : k < n
  · rw [rcd_getD i n k h]; omega
  · rw [List.getD, List.getElem?_eq_none (by rw [rcd_length]; omega)]; decide

set_option maxRecDepth 20000 in
theorem record_any (W : World) (i : Int) (h0 : 0 ≤ i) (h1 : i ≤ 1000000) (n : Nat) (hn : n ≤ 1000000) :
    Calls Tryd.prog 19 #[.int .i64 i, .int .i64 n] W fun e W' => ∃ g, e = .returned (.slice (some ⟨g, 0, none⟩) n n) ∧ Mem W W' [(g, .cells (bs (rcd i n)) 5 (0, 0))] := by
  have hM := make_bytes n (by omega) W
  have hM1 : Mem W (W.alloc (.cells (madeCells #[.int .u8 0] n) 5)) [(W.heap.size, .cells (bs (List.replicate n 0)) 5 (0, 0))] := by rw [← bs_made]; exact (Mem.nil W).push1 rfl
  generalize W.alloc (.cells (madeCells #[.int .u8 0] n) 5) = w1 at hM hM1
  generalize W.heap.size = g at *
  go_enter Tryd.func19, Tryd.ntmps19
  go_wp2_with fail
  go_loopw [6] (fun v wr => ∃ k : Nat, v = .int .i64 k ∧ k ≤ n ∧ Mem W wr [(g, .cells (bs (spl (List.replicate n 0) 0 ((rcd i n).take k))) 5 (0, 0))]) (fun v _ => n - (intOf v).toNat)
  case atStart => exact ⟨0, rfl, by omega, by rw [List.take_zero, spl_nil]; exact hM1⟩
  case round =>
    obtain ⟨k, rfl, hk, hw⟩ := hrel
    by_cases hlt : k < n
    · have hsl : (spl (List.replicate n 0) 0 ((rcd i n).take k)).length = n := by rw [spl_length _ _ _ (by simp [rcd_length]; omega)]; simp
      have c0 := hw.cell 0 rfl k
      rw [bs_get (by omega)] at c0
      have f0 := hw.free 0 rfl k
      have HX : Hid ((i * 31 + (k : Int)) % 256 = (rcd i n).getD k 0) := (rcd_getD i n k hlt).symm
      have HW := hw.set 0 rfl k (.int .u8 ((i * 31 + (k : Int)) % 256))
      rw [bs_set] at HW
      have HW2 : Hid (Mem W (wr.setCell ⟨g, k, none⟩ (.int .u8 ((i * 31 + (k : Int)) % 256))) [(g, .cells (bs (spl (List.replicate n 0) 0 ((rcd i n).take (k + 1)))) 5 (0, 0))]) := by
        rw [← spl_set (List.replicate n 0) 0 k (rcd i n) (by rw [rcd_length]; omega) (by simp [rcd_length]), ← HX.out, Nat.zero_add]; exact HW
      clear HW hw hM1
      generalize (spl (List.replicate n 0) 0 ((rcd i n).take k)).getD k 0 = old at c0
      go_wp2
      go_roundw
      case rel => exact ⟨k + 1, by go_num, by omega, HW2.out⟩
      case measure => simp [intOf]; omega
    · have : k = n := by omega
      subst this
      have e : spl (List.replicate k 0) 0 ((rcd i k).take k) = rcd i k := by
        rw [List.take_of_length_le (by rw [rcd_length]; omega), spl, rcd_length]; simp
      rw [e] at hw
      go_wp2
      go_ret
      exact ⟨g, rfl, hw⟩
end Go.Proofs.YtbmpjlgfbiakoaaDoor
