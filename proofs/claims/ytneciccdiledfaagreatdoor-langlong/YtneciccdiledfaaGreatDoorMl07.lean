/-
  Rows of bytes written as hexadecimal digits: the program's readHex, at every text, into a row of the caller's own.
  Addresses of version 4 as text: the program's Ip and the document's own, at every text.
  Settings as bytes, the numbers alone: numbers of so many bytes, the highest first, and what is read off a row of bytes.
-/
import Derived.Test.YtneciccdiledfaaGreatDoorMl06
import Derived.Test.YtneciccdiledfaaGreatDoorMl03
namespace Go.Proofs.YtneciccdiledfaaGreatDoor
open Go.RowKit
open Ad
open Sm (IsBytes)
set_option linter.unusedVariables false

abbrev ab (l : List Int) : Array Value := (l.map (Value.int .u8)).toArray
theorem ab_at {l : List Int} {i : Nat} (h : i < l.length) : (ab l)[i]? = some (.int .u8 (l.getD i 0)) := by
  simp [ab, h]
theorem ab_set (l : List Int) (i : Nat) (x : Int) : (ab l).setIfInBounds i (.int .u8 x) = ab (l.set i x) := by
  simp [ab, List.map_set]
theorem Mem.iterAt {w W : World} {L : List (Nat × Obj)} (h : Mem w W L) (i : Nat) {k : Nat} {s : ByteArray} {p : Nat} (hi : L[i]? = some (k, .stringIter s p)) (p' : Nat) : Mem w (W.iterAt k s p') (L.set i (k, .stringIter s p')) := by
  have hil := (List.getElem?_eq_some_iff.mp hi).1
  have he : L[i] = (k, .stringIter s p) := (List.getElem?_eq_some_iff.mp hi).2
  have hk := h.get i hi
  have hge := h.ge i hi
  have hm : (L.set i (k, .stringIter s p')).map Prod.fst = L.map Prod.fst := by
    rw [List.map_set]
    apply List.ext_getElem? ; intro j
    by_cases e : i = j
    · subst e; simp [hil, he]
    · rw [List.getElem?_set_ne e]
  refine ⟨Lib.below_iterAt h.below hge s p', fun q hq => ?_, fun q hq => ?_, by rw [hm]; exact h.apart⟩
  · rcases List.mem_or_eq_of_mem_set hq with hq | rfl
    · exact h.low q hq
    · exact hge
  · obtain ⟨j, hj, rfl⟩ := List.getElem_of_mem hq
    rw [List.length_set] at hj
    by_cases e : i = j
    · subst e
      rw [List.getElem_set_self]
      exact Lib.iterAt_heap W k s p p' hk
    · rw [List.getElem_set_ne e]
      have hne : (L[j]).1 ≠ k := by
        intro ek
        have hpw := List.pairwise_iff_getElem.mp h.apart
        have hil' : i < (L.map Prod.fst).length := by simpa using hil
        have hjl' : j < (L.map Prod.fst).length := by simpa using hj
        have c' : (L.map Prod.fst)[i] = (L.map Prod.fst)[j] := by simp [he, ek]
        rcases Nat.lt_or_gt_of_ne e with q | q
        · exact absurd c' (hpw i j hil' hjl' q)
        · exact absurd c'.symm (hpw j i hjl' hil' q)
      rw [Lib.iterAt_other W k _ s p' hne]
      exact h.at_ _ (List.getElem_mem hj)

theorem set_bytes {l : List Int} (h : IsBytes l) (i : Nat) {x : Int} (hx : 0 ≤ x ∧ x ≤ 255) : IsBytes (l.set i x) := by
  intro j
  by_cases e : i = j
  · subst e
    by_cases hl : i < l.length
    · simp [List.getD, hl, hx]
    · have : l.set i x = l := List.set_eq_of_length_le (by omega)
      rw [this]; exact h i
  · have := h j
    simpa [List.getD, List.getElem?_set_ne e] using this

set_option maxHeartbeats 4000000 in
set_option maxRecDepth 20000 in
theorem readHex_go {w W : World} {g : Nat} {l : List Int} {T : TypeId} {L : List (Nat × Obj)} (hM : Mem w W ((g, .cells (ab l) T (0, 0)) :: L)) (s : ByteArray) (off m c : Nat) (hm : off + m ≤ l.length) (hb : IsBytes l) (hl : l.length ≤ 1000) (hs : s.size = 2 * m) :
    Calls Tryz.prog 101 #[.string s, .slice (some ⟨g, off, none⟩) m c] W fun e w' => e = .returned (.bool (rhGo off 0 s.data.toList l).1) ∧ Mem w w' ((g, .cells (ab (rhGo off 0 s.data.toList l).2) T (0, 0)) :: L) := by
  obtain ⟨R, hR⟩ : ∃ R, rhGo off 0 s.data.toList l = R := ⟨_, rfl⟩
  rw [hR]
  have hsz : ((s.size : Nat) : Int) = 2 * (m : Int) := by omega
  have hw1 : IntKind.i64.wrap (2 * (m : Int)) = 2 * (m : Int) := wrap64 (by omega) (by omega)
  obtain ⟨B, hB⟩ : ∃ B, W.heap.size = B := ⟨_, rfl⟩
  have hM1 : Mem w (W.iter s 0) ((B, .stringIter s 0) :: (g, .cells (ab l) T (0, 0)) :: L) := by
    have := hM.push B (.stringIter s 0) hB.symm
    exact this.perm List.perm_append_comm
  go_enter Tryz.func101, Tryz.ntmps101
  go_wp2_with fail
  go_loopw [] (fun w' => ∃ (pos : Nat) (l' : List Int), Mem w w' ((B, .stringIter s pos) :: (g, .cells (ab l') T (0, 0)) :: L) ∧ pos ≤ s.size ∧ l'.length = l.length ∧ IsBytes l' ∧ rhGo off pos (s.data.toList.drop pos) l' = R) (fun w' => s.size - w'.iterPos B)
  case atStart => exact ⟨0, l, hM1, Nat.zero_le _, rfl, hb, by simpa using hR⟩
  case round =>
    obtain ⟨pos, l', hMr, hps, hl', hb', hc⟩ := hrel
    have hit : wr.heap[B]? = some (.stringIter s pos) := hMr.get 0 rfl
    have hipos : wr.iterPos B = pos := by simp [World.iterPos, hit]
    clear hM1 hR hB
    by_cases hp : pos < s.size
    · rw [drop_cons s pos hp] at hc
      have hM2 : ∀ p', Mem w (wr.iterAt B s p') ((B, .stringIter s p') :: (g, .cells (ab l') T (0, 0)) :: L) := fun p' => by simpa using hMr.iterAt 0 rfl p'
      by_cases ha : (s[pos]'hp).toNat < 128
      · have hnx : ∀ ty, (Instr.next (.pointer (some ⟨B, 0, none⟩)) true ty).run Tryz.prog wr = _ := fun ty => Lib.run_next_ascii_at wr B s pos ty hit hp ha
        have hM3 := hM2 (pos + 1)
        clear hM2
        generalize s[pos]'hp = b at hc ha hnx
        generalize wr.iterAt B s (pos + 1) = W1 at hnx hM3
        have cH := hexValue_any b.toNat W1
        cases hx1 : hx b.toNat with
        | none =>
          rw [rhGo_stop hx1] at hc
          subst hc
          rw [hx1] at cH
          go_wp2_with fail
          refine cH.mono ?_
          rintro e w' ⟨rfl, hbw⟩
          have hM4 := hM3.after hbw
          go_wp2_with fail
          go_ret
          exact ⟨rfl, hM4.sub⟩
        | some d =>
          rw [rhGo_on hx1] at hc
          have hd16 := (hx_some hx1).1
          rw [hx1, Option.getD_some, Option.isSome_some] at cH
          obtain ⟨k, hk⟩ : ∃ k, pos / 2 = k := ⟨_, rfl⟩
          have hkm : k < m := by omega
          rw [hk] at hc
          obtain ⟨x, hx⟩ : ∃ x, l'.getD (off + k) 0 = x := ⟨_, rfl⟩
          have hxb := hb' (off + k)
          rw [hx] at hc hxb
          have hQi : Int.tdiv (pos : Int) 2 = (k : Int) := by rw [Int.tdiv_eq_ediv_of_nonneg (by omega)]; omega
          have hwk : IntKind.i64.wrap (k : Int) = k := wrap64 (by omega) (by omega)
          have q1 : Op.intDiv .quo .i64 (pos : Int) 2 = pure (.int .i64 (k : Int)) := by simp [Op.intDiv, hQi, hwk]
          clear hQi
          have hor : bits .or .u8 (x * 16 % 256) (d : Int) = x * 16 % 256 + d :=
            bits_join .u8 8 (by decide) (fun n h0 h1 => wrap8u h0 (by omega)) 4 (x * 16 % 256) d (by omega) (by omega) (by omega) (by omega) (by omega) (by omega)
          go_wp2_with fail
          refine cH.mono ?_
          rintro e w' ⟨rfl, hbw⟩
          have hM4 := hM3.after hbw
          have hcell : w'.cell? ⟨g, off + k, none⟩ = some (.int .u8 x) := by
            rw [hM4.cell 1 rfl, ab_at (by omega), hx]
          have hfz : w'.frozen? ⟨g, off + k, none⟩ = false := hM4.free 1 rfl _
          go_wp2_with fail
          have hM5 : Mem w (w'.setCell ⟨g, off + k, none⟩ (.int .u8 (x * 16 % 256 + d))) ((B, .stringIter s (pos + 1)) :: (g, .cells (ab (l'.set (off + k) (x * 16 % 256 + d))) T (0, 0)) :: L) := by
            have := hM4.set 1 rfl (off + k) (.int .u8 (x * 16 % 256 + d))
            rw [ab_set] at this
            exact this
          refine ⟨⟨pos + 1, _, hM5, by omega, by rw [List.length_set]; exact hl', set_bytes hb' _ (by omega), hc⟩, ?_⟩
          have h6 := hM5.get 0 rfl
          have h7 : (w'.setCell ⟨g, off + k, none⟩ (.int .u8 (x * 16 % 256 + d))).iterPos B = pos + 1 := by simp [World.iterPos, h6]
          rw [h7, hipos]; omega
      · have hnx : ∀ ty, (Instr.next (.pointer (some ⟨B, 0, none⟩)) true ty).run Tryz.prog wr = _ := fun ty => Lib.run_next_any_at wr B s pos ty hit hp
        have hh := (decode_high s pos hp (by omega)).1
        have hM3 := hM2 (pos + (Utf8.decode s pos).2)
        rw [rhGo_stop (hx_high (by omega))] at hc
        subst hc
        clear hM2
        generalize (Utf8.decode s pos).1 = r at hnx hh
        generalize wr.iterAt B s (pos + (Utf8.decode s pos).2) = W1 at hnx hM3
        have cH := hexValue_any r W1
        rw [hx_high hh] at cH
        go_wp2_with fail
        refine cH.mono ?_
        rintro e w' ⟨rfl, hbw⟩
        have hM4 := hM3.after hbw
        go_wp2_with fail
        go_ret
        exact ⟨rfl, hM4.sub⟩
    · have hnx : ∀ ty, (Instr.next (.pointer (some ⟨B, 0, none⟩)) true ty).run Tryz.prog wr = _ := fun ty => Lib.run_next_end_at wr B s pos ty hit hp
      rw [drop_end s pos hp, rhGo_nil] at hc
      subst hc
      go_wp2_with fail
      go_ret
      exact ⟨rfl, hMr.sub⟩
theorem readHex_no {w W : World} {K : List (Nat × Obj)} (hM : Mem w W K) (s : ByteArray) (a : Option Addr) (m c : Nat) (hm : m ≤ 1000) (hs : s.size ≠ 2 * m) :
    Calls Tryz.prog 101 #[.string s, .slice a m c] W fun e w' => e = .returned (.bool false) ∧ Mem w w' K := by
  have hsz : (((s.size : Nat) : Int) != 2 * (m : Int)) = true := by simp; omega
  have hw1 : IntKind.i64.wrap (2 * (m : Int)) = 2 * (m : Int) := wrap64 (by omega) (by omega)
  go_enter Tryz.func101, Tryz.ntmps101
  go_wp2_with fail
  go_ret
  exact ⟨rfl, hM⟩
theorem readHex_any {w W : World} {g : Nat} {l : List Int} {T : TypeId} {L : List (Nat × Obj)} (hM : Mem w W ((g, .cells (ab l) T (0, 0)) :: L)) (s : ByteArray) (off m c : Nat) (hm : off + m ≤ l.length) (hb : IsBytes l) (hl : l.length ≤ 1000) :
    Calls Tryz.prog 101 #[.string s, .slice (some ⟨g, off, none⟩) m c] W fun e w' => e = .returned (.bool (rh s.data.toList off m l).1) ∧ Mem w w' ((g, .cells (ab (rh s.data.toList off m l).2) T (0, 0)) :: L) := by
  unfold rh
  rw [size_len]
  by_cases hs : s.size = 2 * m
  · rw [if_pos hs]; exact readHex_go hM s off m c hm hb hl hs
  · rw [if_neg hs]; exact readHex_no hM s _ m c (by omega) hs
end Go.Proofs.YtneciccdiledfaaGreatDoor

namespace Go.Proofs.YtneciccdiledfaaGreatDoor
open Go.RowKit
open Ad
set_option linter.unusedVariables false

namespace Ad
def ipGo : Nat → List (List UInt8) → Option Nat
  | n, [] => some n
  | n, p :: r => match num p 255 with
    | none => none
    | some b => ipGo (n * 256 + b) r
def ip (s : List UInt8) : Option Nat := if (cut 46 s).length = 4 then ipGo 0 (cut 46 s) else none
theorem ipGo_stop {n : Nat} {p : List UInt8} {r : List (List UInt8)} (h : num p 255 = none) : ipGo n (p :: r) = none := by rw [ipGo, h]
theorem ipGo_on {n b : Nat} {p : List UInt8} {r : List (List UInt8)} (h : num p 255 = some b) : ipGo n (p :: r) = ipGo (n * 256 + b) r := by rw [ipGo, h]
theorem pow_next {n j b : Nat} (hj : j < 4) (h : n < 256 ^ j) (hb : b ≤ 255) : n ≤ 16777215 ∧ n * 256 + b < 256 ^ (j + 1) := by
  have h1 : 256 ^ j ≤ 256 ^ 3 := Nat.pow_le_pow_right (by omega) (by omega)
  have h2 : (256 : Nat) ^ 3 = 16777216 := by decide
  rw [Nat.pow_succ]
  omega
theorem drop_at {α : Type} {l : List α} {j : Nat} {x : α} (h : l[j]? = some x) : l.drop j = x :: l.drop (j + 1) := by
  obtain ⟨hl, e⟩ := List.getElem?_eq_some_iff.1 h
  rw [List.drop_eq_getElem_cons hl, e]
theorem cut_part_len (c : UInt8) : ∀ (l : List UInt8) (p : List UInt8), p ∈ cut c l → p.length ≤ l.length
  | [], p, h => by simp only [cut, List.mem_singleton] at h; subst h; simp
  | x :: l, p, h => by
    rw [cut] at h
    split at h
    · rcases List.mem_cons.1 h with rfl | h
      · simp
      · have := cut_part_len c l p h; simp only [List.length_cons]; omega
    · split at h
      · simp only [List.mem_singleton] at h; subst h; simp
      · rename_i q r e
        rcases List.mem_cons.1 h with rfl | h
        · have := cut_part_len c l q (by rw [e]; simp); simp only [List.length_cons]; omega
        · have := cut_part_len c l p (by rw [e]; simp [h]); simp only [List.length_cons]; omega
end Ad

set_option maxHeartbeats 4000000 in
set_option maxRecDepth 20000 in
theorem ip_any {w : World} (hV : Vs w) (s : ByteArray) (hs : s.size ≤ 40000) :
    Calls Tryz.prog 74 #[.string s] w fun e w' => e = .returned (.tuple #[.int .u32 (nv (ip s.data.toList)), .int .i64 (ne (ip s.data.toList))]) ∧ Below w.heap.size w w' := by
  have cS := split_any hV s 46 5 4 (by omega) (by omega) (by omega) 5 rfl
  unfold ip
  by_cases hcut : (cut 46 s.data.toList).length = 4
  · rw [if_pos hcut]
    obtain ⟨R, hR⟩ : ∃ R, ipGo 0 (cut 46 s.data.toList) = R := ⟨_, rfl⟩
    rw [hR]
    go_enter Tryz.func74, Tryz.ntmps74
    go_wp2_with fail
    refine cS.mono ?_
    rintro e w1 ⟨P, cap, rfl, hcap, hcells, hb1, hsp⟩
    obtain ⟨h4, hmap⟩ : P.length = 4 ∧ P.map (·.data.toList) = cut 46 s.data.toList := by
      rcases hsp with ⟨a, b, _⟩ | ⟨_, c⟩
      · exact ⟨a, b⟩
      · exact absurd hcut c
    clear hsp
    rw [h4] at hcap ⊢
    have hPs : ∀ (j : Nat) x, P[j]? = some x → (cut 46 s.data.toList)[j]? = some x.data.toList := by
      intro j x hj
      rw [← hmap, List.getElem?_map, hj]; rfl
    have hb1s := hb1.size
    obtain ⟨g, hg⟩ : ∃ g, w.heap.size = g := ⟨_, rfl⟩
    rw [hg] at hcells
    simp only [hg]
    go_wp2_with fail
    go_loopw [5, 17] (fun v jj w' => ∃ (j n : Nat), v = .int .u32 n ∧ jj = .int .i64 j ∧ j ≤ 4 ∧ n < 256 ^ j ∧ ipGo n ((cut 46 s.data.toList).drop j) = R ∧ Below w1.heap.size w1 w') (fun _ jj _ => 4 - (intOf jj).toNat)
    case atStart => exact ⟨0, 0, rfl, rfl, by omega, by simp, by simpa using hR, Below.refl _ _⟩
    case round =>
      obtain ⟨j, n, rfl, rfl, hj4, hn, hc, hbr⟩ := hrel
      have hbw : Below w.heap.size w wr := hb1.trans (hbr.mono hb1s)
      by_cases hj : j < 4
      · have hjz : (j : Int) < 4 := by omega
        have e7 : IntKind.i64.wrap ((j : Int) + 1) = (j : Int) + 1 := wrap64 (by omega) (by omega)
        obtain ⟨x, hx⟩ : ∃ x, P[j]? = some x := ⟨P[j]'(by omega), List.getElem?_eq_getElem (by omega)⟩
        have hcx := hPs j x hx
        have hc1 := hcells j x hx
        have hcell : wr.cell? ⟨g, j, none⟩ = some (.string x) := (hbr.cell (cell_in hc1)).trans hc1
        have hxl : x.size ≤ 40000 := by
          have := cut_part_len 46 _ _ (List.mem_of_getElem? hcx)
          rw [text_len, text_len] at this; omega
        rw [drop_at hcx] at hc
        have cN := num_any x 255 (by omega) (by omega)
        have hnb := nv_bounds x.data.toList 255
        clear hc1 hcx hx hPs hcells
        cases hnum : num x.data.toList 255 with
        | none =>
          rw [ipGo_stop hnum] at hc
          subst hc
          rw [hnum, nv_none, ne_none] at cN
          go_wp2_with fail
          refine (cN _).mono ?_
          rintro e w' ⟨rfl, hbn⟩
          go_wp2_with fail
          exact bodyPost_ret (v := .tuple #[.int .u32 0, .int .i64 60]) (by simp [results, Tryz.results74, go_sem]) rfl ⟨rfl, by first | exact hbw.trans (hbn.mono hbw.size) | (rw [← hg]; exact hbw.trans (hbn.mono hbw.size))⟩
        | some b =>
          rw [ipGo_on hnum] at hc
          rw [hnum, nv_some, ne_some] at cN
          have hb255 := num_le hnum
          obtain ⟨k1, k2⟩ := pow_next hj hn hb255
          have hmod : (n : Int) * 256 % 4294967296 = (n : Int) * 256 := by omega
          have hor : bits .or .u32 ((n : Int) * 256) (b : Int) = (n : Int) * 256 + b :=
            bits_join .u32 32 (by decide) (fun n h0 h1 => wrap32u h0 (by omega)) 8 ((n : Int) * 256) b (by omega) (by omega) (by omega) (by omega) (by omega) (by omega)
          clear hnum
          go_wp2_with fail
          refine (cN _).mono ?_
          rintro e w' ⟨rfl, hbn⟩
          go_wp2_with fail
          go_roundw
          case rel => exact ⟨j + 1, n * 256 + b, by congr 1, by first | rfl | trivial, by omega, k2, hc, hbr.trans (hbn.mono hbr.size)⟩
          case measure => simp [intOf]; omega
      · have hjz : ¬ (j : Int) < 4 := by omega
        have hnil : (cut 46 s.data.toList).drop j = [] := List.drop_eq_nil_of_le (by omega)
        rw [hnil] at hc
        subst hc
        go_wp2_with fail
        exact bodyPost_ret (v := .tuple #[.int .u32 n, .int .i64 0]) (by simp [results, Tryz.results74, go_sem]) rfl ⟨rfl, by first | exact hbw | (rw [← hg]; exact hbw)⟩
  · rw [if_neg hcut]
    go_enter Tryz.func74, Tryz.ntmps74
    go_wp2_with fail
    refine cS.mono ?_
    rintro e w1 ⟨P, cap, rfl, hcap, hcells, hb1, hsp⟩
    have h4 : P.length ≠ 4 := by
      rcases hsp with ⟨_, _, c⟩ | ⟨c, _⟩
      · exact absurd c hcut
      · exact c
    have hlz : (((P.length : Nat) : Int) != 4) = true := by simp; omega
    go_wp2_with fail
    exact bodyPost_ret (v := .tuple #[.int .u32 0, .int .i64 60]) (by simp [results, Tryz.results74, go_sem]) rfl ⟨rfl, hb1⟩
end Go.Proofs.YtneciccdiledfaaGreatDoor

namespace Go.Proofs.YtneciccdiledfaaGreatDoor
open Go.RowKit
open Sm
set_option linter.unusedVariables false
namespace Cf
/-- The lowest n bytes of x, the highest first. -/
def be : Nat → Int → List Int
  | 0, _ => []
  | n + 1, x => (x / 256 ^ n % 256) :: be n x
/-- The number that bytes are. -/
def num (l : List Int) : Int := l.foldl (fun x y => x * 256 + y) 0
theorem bytes_app {a b : List Int} (ha : IsBytes a) (hb : IsBytes b) : IsBytes (a ++ b) := by
  intro i
  by_cases h : i < a.length
  · have : (a ++ b).getD i 0 = a.getD i 0 := by simp [List.getD, List.getElem?_append_left h]
    rw [this]; exact ha i
  · have : (a ++ b).getD i 0 = b.getD (i - a.length) 0 := by simp [List.getD, List.getElem?_append_right (Nat.le_of_not_lt h)]
    rw [this]; exact hb _
end Cf
end Go.Proofs.YtneciccdiledfaaGreatDoor

