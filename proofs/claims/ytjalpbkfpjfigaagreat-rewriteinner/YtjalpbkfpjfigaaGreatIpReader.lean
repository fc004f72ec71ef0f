/-
  What package ip's reader answers: must, need, take, octet, word, long, fresh.
-/
import Derived.Test.YtjalpbkfpjfigaaGreatKit
import Derived.Test.YtjalpbkfpjfigaaGreatPuts
import Derived.Test.YtjalpbkfpjfigaaGreatIpMath
namespace Go.Proofs.YtjalpbkfpjfigaaGreat
open Go.RowKit
open Sm
set_option linter.unusedVariables false

/-- The reader's own panic. -/
abbrev failing (e : Int) : List PanicEntry := [{ v := .iface 124 (.agg #[.int .i64 e]), recovered := false }]

theorem must_yes (e : Int) (w : World) : Calls Tryz.prog 98 #[.bool true, .int .i64 e] w fun r w' => r = .returned (.tuple #[]) ∧ w = w' := by
  go_enter Tryz.func98, Tryz.ntmps98
  go_wp2
  go_end0
  exact ⟨rfl, rfl⟩
theorem must_no (e : Int) (w : World) : Calls Tryz.prog 98 #[.bool false, .int .i64 e] w fun r w' => r = .panicked (failing e) ∧ w = w' := by
  go_enter Tryz.func98, Tryz.ntmps98
  go_wp2
  exact ⟨rfl, rfl, rfl⟩

theorem need_yes {w : World} {g n c : Nat} {a : Option Addr} (hg : w.cell? ⟨g, 0, none⟩ = some (.slice a n c)) (k : Nat) (hk : k ≤ n) :
    Calls Tryz.prog 120 #[.pointer (some ⟨g, 0, none⟩), .int .i64 k] w fun r w' => r = .returned (.tuple #[]) ∧ w = w' := by
  have hk' : (k : Int) ≤ n := by omega
  go_enter Tryz.func120, Tryz.ntmps120
  go_wp2_with fail
  refine (must_yes 20 _).mono ?_
  rintro e w' ⟨rfl, rfl⟩
  go_wp2
  go_end0
  exact ⟨rfl, rfl⟩
theorem need_no {w : World} {g n c : Nat} {a : Option Addr} (hg : w.cell? ⟨g, 0, none⟩ = some (.slice a n c)) (k : Nat) (hk : n < k) :
    Calls Tryz.prog 120 #[.pointer (some ⟨g, 0, none⟩), .int .i64 k] w fun r w' => r = .panicked (failing 20) ∧ w = w' := by
  have hk' : (n : Int) < k := by omega
  have hk2 : ¬ k ≤ n := by omega
  go_enter Tryz.func120, Tryz.ntmps120
  go_wp2_with fail
  refine (must_no 20 _).mono ?_
  rintro e w' ⟨rfl, rfl⟩
  exact ⟨rfl, rfl, rfl⟩

set_option maxHeartbeats 1000000 in
theorem take_all {w : World} {g b off n : Nat} (hg : w.cell? ⟨g, 0, none⟩ = some (.slice (some ⟨b, off, none⟩) n n)) (hf : w.frozen? ⟨g, 0, none⟩ = false) (hm : n ≤ 140737488351232) :
    Calls Tryz.prog 99 #[.pointer (some ⟨g, 0, none⟩), .int .i64 n] w fun r w' => r = .returned (.slice (some ⟨b, off, none⟩) n n) ∧
      ∃ off', w' = w.setCell ⟨g, 0, none⟩ (.slice (some ⟨b, off', none⟩) 0 0) := by
  go_enter Tryz.func99, Tryz.ntmps99
  go_wp2_with fail
  refine (need_yes hg n (Nat.le_refl _)).mono ?_
  rintro e w' ⟨rfl, rfl⟩
  go_wp2
  go_ret
  exact ⟨rfl, _, rfl⟩

set_option maxHeartbeats 1000000 in
theorem take_some {w : World} {g b off n c : Nat} (hg : w.cell? ⟨g, 0, none⟩ = some (.slice (some ⟨b, off, none⟩) n c)) (hf : w.frozen? ⟨g, 0, none⟩ = false) (k : Nat) (hk : k ≤ n) (hkc : k < c) (hc : n ≤ c) (hm : n ≤ 140737488351232) :
    Calls Tryz.prog 99 #[.pointer (some ⟨g, 0, none⟩), .int .i64 k] w fun r w' => r = .returned (.slice (some ⟨b, off, none⟩) k c) ∧
      w' = w.setCell ⟨g, 0, none⟩ (.slice (some ⟨b, off + k, none⟩) (n - k) (c - k)) := by
  have h1 : (k : Int) ≤ n := by omega
  have h2 : (k : Int) ≤ c := by omega
  have h3 : (k : Int) < c := by omega
  have h4 : (n : Int) ≤ c := by omega
  have h5 : ¬ k = c := by omega
  have hn := need_yes hg k hk
  clear hk hkc hc
  go_enter Tryz.func99, Tryz.ntmps99
  go_wp2_with fail
  refine hn.mono ?_
  rintro e w' ⟨rfl, rfl⟩
  go_wp2
  go_ret
  exact ⟨rfl, rfl⟩

theorem take_ok {w : World} {g b off n c : Nat} (hg : w.cell? ⟨g, 0, none⟩ = some (.slice (some ⟨b, off, none⟩) n c)) (hf : w.frozen? ⟨g, 0, none⟩ = false) (k : Nat) (hk : k ≤ n) (hc : n ≤ c) (hm : n ≤ 140737488351232) :
    Calls Tryz.prog 99 #[.pointer (some ⟨g, 0, none⟩), .int .i64 k] w fun r w' => r = .returned (.slice (some ⟨b, off, none⟩) k c) ∧
      ∃ off', (k < n → off' = off + k) ∧ w' = w.setCell ⟨g, 0, none⟩ (.slice (some ⟨b, off', none⟩) (n - k) (c - k)) := by
  by_cases e : k = c
  · obtain rfl : n = k := by omega
    obtain rfl : n = c := e
    refine (take_all hg hf hm).mono ?_
    rintro r w' ⟨rfl, off', rfl⟩
    exact ⟨rfl, off', fun h => absurd h (Nat.lt_irrefl _), by rw [Nat.sub_self]⟩
  · refine (take_some hg hf k hk (by omega) hc hm).mono ?_
    rintro r w' ⟨rfl, rfl⟩
    exact ⟨rfl, _, fun _ => rfl, rfl⟩

theorem take_no {w : World} {g n c : Nat} {a : Option Addr} (hg : w.cell? ⟨g, 0, none⟩ = some (.slice a n c)) (k : Nat) (hk : n < k) :
    Calls Tryz.prog 99 #[.pointer (some ⟨g, 0, none⟩), .int .i64 k] w fun r w' => r = .panicked (failing 20) ∧ w = w' := by
  go_enter Tryz.func99, Tryz.ntmps99
  go_wp2_with fail
  refine (need_no hg k hk).mono ?_
  rintro e w' ⟨rfl, rfl⟩
  exact ⟨rfl, rfl, rfl⟩

/-- A reader in block g, whose next byte lies at b's off. -/
abbrev rdr (b off n c : Nat) : Array Value := #[.slice (some ⟨b, off, none⟩) n c]
abbrev rdT : TypeId := 145

theorem take_wrote {w : World} {g b off n c : Nat} (hg : w.heap[g]? = some (.cells (rdr b off n c) rdT (0, 0))) (k : Nat) (hk : k ≤ n) (hc : n ≤ c) (hm : n ≤ 140737488351232) :
    Calls Tryz.prog 99 #[.pointer (some ⟨g, 0, none⟩), .int .i64 k] w fun r w' => r = .returned (.slice (some ⟨b, off, none⟩) k c) ∧
      ∃ off', (k < n → off' = off + k) ∧ Wrote w w' g (rdr b off' (n - k) (c - k)) rdT := by
  refine (take_ok (cell_of hg 0) (by simp [World.frozen?, hg]) k hk hc hm).mono ?_
  rintro r w' ⟨rfl, off', h, rfl⟩
  refine ⟨rfl, off', h, ?_⟩
  rw [setCell_eq_setRow w g 0 _ rdT (0, 0) _ hg]
  exact wrote_setRow w g _ _ rdT hg

set_option maxHeartbeats 1000000 in
theorem octet_ok {w : World} {g b off n c : Nat} (hg : w.heap[g]? = some (.cells (rdr b off n c) rdT (0, 0))) (hne : g ≠ b) (x : Int) (c0 : w.cell? ⟨b, off, none⟩ = some (.int .u8 x)) (hn : 1 ≤ n) (hc : n ≤ c) (hm : n ≤ 140737488351232) :
    Calls Tryz.prog 100 #[.pointer (some ⟨g, 0, none⟩)] w fun r w' => r = .returned (.int .u8 x) ∧
      ∃ off', (1 < n → off' = off + 1) ∧ Wrote w w' g (rdr b off' (n - 1) (c - 1)) rdT := by
  have ht := take_wrote hg 1 hn hc hm
  clear hg hn hc hm
  go_enter Tryz.func100, Tryz.ntmps100
  go_wp2_with fail
  refine ht.mono ?_
  rintro e w' ⟨rfl, off', ho, hw⟩
  have d0 : w'.cell? ⟨b, off, none⟩ = some (.int .u8 x) := (hw.cell hne).trans c0
  have HW : Hid _ := hw
  clear hw c0 ht
  go_wp2
  go_ret
  exact ⟨rfl, off', ho, HW.out⟩

set_option maxHeartbeats 1000000 in
theorem word_ok {w : World} {g b off n c : Nat} (hg : w.heap[g]? = some (.cells (rdr b off n c) rdT (0, 0))) (hne : g ≠ b) (x y : Int) (c0 : w.cell? ⟨b, off, none⟩ = some (.int .u8 x)) (c1 : w.cell? ⟨b, off + 1, none⟩ = some (.int .u8 y))
    (r0 : 0 ≤ x) (r1 : x ≤ 255) (r2 : 0 ≤ y) (r3 : y ≤ 255) (hn : 2 ≤ n) (hc : n ≤ c) (hm : n ≤ 140737488351232) :
    Calls Tryz.prog 101 #[.pointer (some ⟨g, 0, none⟩)] w fun r w' => r = .returned (.int .u16 (x * 256 + y)) ∧
      ∃ off', (2 < n → off' = off + 2) ∧ Wrote w w' g (rdr b off' (n - 2) (c - 2)) rdT := by
  have ht := take_wrote hg 2 hn hc hm
  clear hg hn hc hm
  have hor := sm_word x y r0 r1 r2 r3
  have w0 := wrap16_small x r0 (by omega)
  have w1 := wrap16_small y r2 (by omega)
  have w2 := wrap16_small (x * 256) (by omega) (by omega)
  go_enter Tryz.func101, Tryz.ntmps101
  go_wp2_with fail
  refine ht.mono ?_
  rintro e w' ⟨rfl, off', ho, hw⟩
  have d0 : w'.cell? ⟨b, off, none⟩ = some (.int .u8 x) := (hw.cell hne).trans c0
  have d1 : w'.cell? ⟨b, off + 1, none⟩ = some (.int .u8 y) := (hw.cell hne).trans c1
  have HW : Hid _ := hw
  clear hw c0 c1 ht
  go_wp2
  go_quiet (fail)
  go_wp2
  go_ret
  exact ⟨rfl, off', ho, HW.out.drewN _⟩

set_option maxHeartbeats 1000000 in
theorem long_ok {w : World} {g b off n c : Nat} (hg : w.heap[g]? = some (.cells (rdr b off n c) rdT (0, 0))) (hne : g ≠ b) (x y z u : Int) (c0 : w.cell? ⟨b, off, none⟩ = some (.int .u8 x)) (c1 : w.cell? ⟨b, off + 1, none⟩ = some (.int .u8 y))
    (c2 : w.cell? ⟨b, off + 2, none⟩ = some (.int .u8 z)) (c3 : w.cell? ⟨b, off + 3, none⟩ = some (.int .u8 u))
    (r0 : 0 ≤ x) (r1 : x ≤ 255) (r2 : 0 ≤ y) (r3 : y ≤ 255) (r4 : 0 ≤ z) (r5 : z ≤ 255) (r6 : 0 ≤ u) (r7 : u ≤ 255) (hn : 4 ≤ n) (hc : n ≤ c) (hm : n ≤ 140737488351232) :
    Calls Tryz.prog 102 #[.pointer (some ⟨g, 0, none⟩)] w fun r w' => r = .returned (.int .u32 ((x * 256 + y) * 65536 + (z * 256 + u))) ∧
      ∃ off', (4 < n → off' = off + 4) ∧ Wrote w w' g (rdr b off' (n - 4) (c - 4)) rdT := by
  have ht := word_ok hg hne x y c0 c1 r0 r1 r2 r3 (by omega) hc hm
  have hor := sm_long (x * 256 + y) (z * 256 + u) (by omega) (by omega) (by omega) (by omega)
  have w0 := wrap32_small (x * 256 + y) (by omega) (by omega)
  have w1 := wrap32_small (z * 256 + u) (by omega) (by omega)
  have w2 := wrap32_small ((x * 256 + y) * 65536) (by omega) (by omega)
  have HN : Hid (4 ≤ n ∧ n ≤ c ∧ n ≤ 140737488351232) := ⟨hn, hc, hm⟩
  clear hg c0 c1 hn hc hm
  go_enter Tryz.func102, Tryz.ntmps102
  go_wp2_with fail
  refine ht.mono ?_
  rintro e w' ⟨rfl, off', ho, hw⟩
  obtain rfl : off' = off + 2 := ho (by have := HN.out; omega)
  have ht2 := word_ok hw.here hne z u ((hw.cell hne).trans c2) ((hw.cell hne).trans (by exact c3)) r4 r5 r6 r7 (by have := HN.out; omega) (by have := HN.out; omega) (by have := HN.out; omega)
  have HW : Hid _ := hw
  clear hw c2 c3 ht ho
  generalize hX : x * 256 + y = X at *
  have HX : Hid (x * 256 + y = X) := hX
  clear hX
  go_wp2_with fail
  refine ht2.mono ?_
  rintro e w2 ⟨rfl, off2, ho2, hw2⟩
  have HW2 : Hid _ := HW.out.trans hw2
  clear HW hw2 ht2
  generalize hZ : z * 256 + u = Z at *
  have HZ : Hid (z * 256 + u = Z) := hZ
  clear hZ
  go_wp2
  go_ret
  refine ⟨by rw [HX.out, HZ.out]; rfl, off2, fun h => ?_, ?_⟩
  · rw [ho2 (by omega)]
  · have := HW2.out
    rw [Nat.sub_sub, Nat.sub_sub] at this
    exact this

set_option maxHeartbeats 1000000 in
theorem fresh_ok {w : World} {a : Option Addr} {l : List Int} (h : Row w a l) (n c : Nat) (hn : l.length = n) :
    Calls Tryz.prog 103 #[.slice a n c] w fun r w' => ∃ g, r = .returned (.slice (some ⟨g, 0, none⟩) n n) ∧ Mem w w' [(g, .cells (l.map (Value.int .u8)).toArray 5)] := by
  have hl := h.len
  rw [hn] at hl
  have hmk := make_bytes n hl
  have HR : Hid (Row w a l) := h
  have HN : Hid (l.length = n) := hn
  clear h hn
  go_enter Tryz.func103, Tryz.ntmps103
  go_upto_region 2 with fail
  refine wp_letter (fun W => Mem w W [(w.heap.size, .cells (madeCells #[.int .u8 0] n) 5)]) ((Mem.nil w).push w.heap.size _ rfl) ?_
  intro w1 hM1
  have HS : Hid (0 < l.length → some (⟨w.heap.size, 0, none⟩ : Addr) = some ⟨w.heap.size, 0, none⟩ ∧ ∃ ad, a = some ad ∧ ∀ j v, (l.map (Value.int .u8))[j]? = some v → w1.cell? (ad.add j) = some v) := by
    intro hp
    have hr := hM1.row HR.out
    rcases hr.cells with e | ⟨b, off, rfl, hc⟩
    · rw [e] at hp; simp at hp
    · exact ⟨rfl, _, rfl, hr.news⟩
  obtain ⟨w5, hr5, hw5⟩ := copy_bytes w1 3 (some ⟨w.heap.size, 0, none⟩) a n n n c w.heap.size 0 _ _ 5 (hM1.get 0 rfl) l (by rw [HN.out]; exact (Nat.min_self n).symm) HS.out (by rw [HN.out, size_madeCells]; omega) (made_new n l HN.out)
  have HM : Hid _ := hM1.wrote 0 rfl hw5
  clear hM1 hw5 HS hmk HR
  go_wp2
  go_ret
  exact ⟨_, rfl, HM.out⟩

end Go.Proofs.YtjalpbkfpjfigaaGreat
