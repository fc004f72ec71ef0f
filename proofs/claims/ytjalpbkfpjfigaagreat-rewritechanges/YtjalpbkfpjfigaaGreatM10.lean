/-
  What package ip's reader answers: must, need, take, octet, word, long, fresh.
  Packets with other addresses as lists of numbers: flows, changed packets, changed inner ones, hops; what they answer, and what stays.
  What tcp.word, tcp.long, tcp.fresh answer; a value that is a segment.
-/
import Derived.Test.YtjalpbkfpjfigaaGreatM06
import Derived.Test.YtjalpbkfpjfigaaGreatM05
import Derived.Test.YtjalpbkfpjfigaaGreatM07
import Derived.Test.YtjalpbkfpjfigaaGreatM08
namespace Go.Proofs.YtjalpbkfpjfigaaGreat
open Go.RowKit
open Sm
set_option linter.unusedVariables false

/-- The reader's own panic. -/
abbrev failing (e : Int) : List PanicEntry := [{ v := .iface 124 (.agg #[.int .i64 e]), recovered := false }]

theorem must_yes (e : Int) (w : World) : Calls Tryz.prog 98 #[.bool true, .int .i64 e] w fun r w' => r = .returned (.tuple #[]) ∧ w = w' := by
  go_enter Tryz.func98, Tryz.ntmps98
  go_wp2
  go_end0
  exact ⟨rfl, rfl⟩
theorem must_no (e : Int) (w : World) : Calls Tryz.prog 98 #[.bool false, .int .i64 e] w fun r w' => r = .panicked (failing e) ∧ w = w' := by
  go_enter Tryz.func98, Tryz.ntmps98
  go_wp2
  exact ⟨rfl, rfl, rfl⟩

theorem need_yes {w : World} {g n c : Nat} {a : Option Addr} (hg : w.cell? ⟨g, 0, none⟩ = some (.slice a n c)) (k : Nat) (hk : k ≤ n) :
    Calls Tryz.prog 120 #[.pointer (some ⟨g, 0, none⟩), .int .i64 k] w fun r w' => r = .returned (.tuple #[]) ∧ w = w' := by
  have hk' : (k : Int) ≤ n := by omega
  go_enter Tryz.func120, Tryz.ntmps120
  go_wp2_with fail
  refine (must_yes 20 _).mono ?_
  rintro e w' ⟨rfl, rfl⟩
  go_wp2
  go_end0
  exact ⟨rfl, rfl⟩
theorem need_no {w : World} {g n c : Nat} {a : Option Addr} (hg : w.cell? ⟨g, 0, none⟩ = some (.slice a n c)) (k : Nat) (hk : n < k) :
    Calls Tryz.prog 120 #[.pointer (some ⟨g, 0, none⟩), .int .i64 k] w fun r w' => r = .panicked (failing 20) ∧ w = w' := by
  have hk' : (n : Int) < k := by omega
  have hk2 : ¬ k ≤ n := by omega
  go_enter Tryz.func120, Tryz.ntmps120
  go_wp2_with fail
  refine (must_no 20 _).mono ?_
  rintro e w' ⟨rfl, rfl⟩
  exact ⟨rfl, rfl, rfl⟩

set_option maxHeartbeats 1000000 in
theorem take_all {w : World} {g b off n : Nat} (hg : w.cell? ⟨g, 0, none⟩ = some (.slice (some ⟨b, off, none⟩) n n)) (hf : w.frozen? ⟨g, 0, none⟩ = false) (hm : n ≤ 140737488351232) :
    Calls Tryz.prog 99 #[.pointer (some ⟨g, 0, none⟩), .int .i64 n] w fun r w' => r = .returned (.slice (some ⟨b, off, none⟩) n n) ∧
      ∃ off', w' = w.setCell ⟨g, 0, none⟩ (.slice (some ⟨b, off', none⟩) 0 0) := by
  go_enter Tryz.func99, Tryz.ntmps99
  go_wp2_with fail
  refine (need_yes hg n (Nat.le_refl _)).mono ?_
  rintro e w' ⟨rfl, rfl⟩
  go_wp2
  go_ret
  exact ⟨rfl, _, rfl⟩

set_option maxHeartbeats 1000000 in
theorem take_some {w : World} {g b off n c : Nat} (hg : w.cell? ⟨g, 0, none⟩ = some (.slice (some ⟨b, off, none⟩) n c)) (hf : w.frozen? ⟨g, 0, none⟩ = false) (k : Nat) (hk : k ≤ n) (hkc : k < c) (hc : n ≤ c) (hm : n ≤ 140737488351232) :
    Calls Tryz.prog 99 #[.pointer (some ⟨g, 0, none⟩), .int .i64 k] w fun r w' => r = .returned (.slice (some ⟨b, off, none⟩) k c) ∧
      w' = w.setCell ⟨g, 0, none⟩ (.slice (some ⟨b, off + k, none⟩) (n - k) (c - k)) := by
  have h1 : (k : Int) ≤ n := by omega
  have h2 : (k : Int) ≤ c := by omega
  have h3 : (k : Int) < c := by omega
  have h4 : (n : Int) ≤ c := by omega
  have h5 : ¬ k = c := by omega
  have hn := need_yes hg k hk
  clear hk hkc hc
  go_enter Tryz.func99, Tryz.ntmps99
  go_wp2_with fail
  refine hn.mono ?_
  rintro e w' ⟨rfl, rfl⟩
  go_wp2
  go_ret
  exact ⟨rfl, rfl⟩

theorem take_ok {w : World} {g b off n c : Nat} (hg : w.cell? ⟨g, 0, none⟩ = some (.slice (some ⟨b, off, none⟩) n c)) (hf : w.frozen? ⟨g, 0, none⟩ = false) (k : Nat) (hk : k ≤ n) (hc : n ≤ c) (hm : n ≤ 140737488351232) :
    Calls Tryz.prog 99 #[.pointer (some ⟨g, 0, none⟩), .int .i64 k] w fun r w' => r = .returned (.slice (some ⟨b, off, none⟩) k c) ∧
      ∃ off', (k < n → off' = off + k) ∧ w' = w.setCell ⟨g, 0, none⟩ (.slice (some ⟨b, off', none⟩) (n - k) (c - k)) := by
  by_cases e : k = c
  · obtain rfl : n = k := by omega
    obtain rfl : n = c := e
    refine (take_all hg hf hm).mono ?_
    rintro r w' ⟨rfl, off', rfl⟩
    exact ⟨rfl, off', fun h => absurd h (Nat.lt_irrefl _), by rw [Nat.sub_self]⟩
  · refine (take_some hg hf k hk (by omega) hc hm).mono ?_
    rintro r w' ⟨rfl, rfl⟩
    exact ⟨rfl, _, fun _ => rfl, rfl⟩

theorem take_no {w : World} {g n c : Nat} {a : Option Addr} (hg : w.cell? ⟨g, 0, none⟩ = some (.slice a n c)) (k : Nat) (hk : n < k) :
    Calls Tryz.prog 99 #[.pointer (some ⟨g, 0, none⟩), .int .i64 k] w fun r w' => r = .panicked (failing 20) ∧ w = w' := by
  go_enter Tryz.func99, Tryz.ntmps99
  go_wp2_with fail
  refine (need_no hg k hk).mono ?_
  rintro e w' ⟨rfl, rfl⟩
  exact ⟨rfl, rfl, rfl⟩

/-- A reader in block g, whose next byte lies at b's off. -/
abbrev rdr (b off n c : Nat) : Array Value := #[.slice (some ⟨b, off, none⟩) n c]
abbrev rdT : TypeId := 145

theorem take_wrote {w : World} {g b off n c : Nat} (hg : w.heap[g]? = some (.cells (rdr b off n c) rdT (0, 0))) (k : Nat) (hk : k ≤ n) (hc : n ≤ c) (hm : n ≤ 140737488351232) :
    Calls Tryz.prog 99 #[.pointer (some ⟨g, 0, none⟩), .int .i64 k] w fun r w' => r = .returned (.slice (some ⟨b, off, none⟩) k c) ∧
      ∃ off', (k < n → off' = off + k) ∧ Wrote w w' g (rdr b off' (n - k) (c - k)) rdT := by
  refine (take_ok (cell_of hg 0) (by simp [World.frozen?, hg]) k hk hc hm).mono ?_
  rintro r w' ⟨rfl, off', h, rfl⟩
  refine ⟨rfl, off', h, ?_⟩
  rw [setCell_eq_setRow w g 0 _ rdT (0, 0) _ hg]
  exact wrote_setRow w g _ _ rdT hg

set_option maxHeartbeats 1000000 in
theorem octet_ok {w : World} {g b off n c : Nat} (hg : w.heap[g]? = some (.cells (rdr b off n c) rdT (0, 0))) (hne : g ≠ b) (x : Int) (c0 : w.cell? ⟨b, off, none⟩ = some (.int .u8 x)) (hn : 1 ≤ n) (hc : n ≤ c) (hm : n ≤ 140737488351232) :
    Calls Tryz.prog 100 #[.pointer (some ⟨g, 0, none⟩)] w fun r w' => r = .returned (.int .u8 x) ∧
      ∃ off', (1 < n → off' = off + 1) ∧ Wrote w w' g (rdr b off' (n - 1) (c - 1)) rdT := by
  have ht := take_wrote hg 1 hn hc hm
  clear hg hn hc hm
  go_enter Tryz.func100, Tryz.ntmps100
  go_wp2_with fail
  refine ht.mono ?_
  rintro e w' ⟨rfl, off', ho, hw⟩
  have d0 : w'.cell? ⟨b, off, none⟩ = some (.int .u8 x) := (hw.cell hne).trans c0
  have HW : Hid _ := hw
  clear hw c0 ht
  go_wp2
  go_ret
  exact ⟨rfl, off', ho, HW.out⟩

set_option maxHeartbeats 1000000 in
theorem word_ok {w : World} {g b off n c : Nat} (hg : w.heap[g]? = some (.cells (rdr b off n c) rdT (0, 0))) (hne : g ≠ b) (x y : Int) (c0 : w.cell? ⟨b, off, none⟩ = some (.int .u8 x)) (c1 : w.cell? ⟨b, off + 1, none⟩ = some (.int .u8 y))
    (r0 : 0 ≤ x) (r1 : x ≤ 255) (r2 : 0 ≤ y) (r3 : y ≤ 255) (hn : 2 ≤ n) (hc : n ≤ c) (hm : n ≤ 140737488351232) :
    Calls Tryz.prog 101 #[.pointer (some ⟨g, 0, none⟩)] w fun r w' => r = .returned (.int .u16 (x * 256 + y)) ∧
      ∃ off', (2 < n → off' = off + 2) ∧ Wrote w w' g (rdr b off' (n - 2) (c - 2)) rdT := by
  have ht := take_wrote hg 2 hn hc hm
  clear hg hn hc hm
  have hor := sm_word x y r0 r1 r2 r3
  have w0 := wrap16_small x r0 (by omega)
  have w1 := wrap16_small y r2 (by omega)
  have w2 := wrap16_small (x * 256) (by omega) (by omega)
  go_enter Tryz.func101, Tryz.ntmps101
  go_wp2_with fail
  refine ht.mono ?_
  rintro e w' ⟨rfl, off', ho, hw⟩
  have d0 : w'.cell? ⟨b, off, none⟩ = some (.int .u8 x) := (hw.cell hne).trans c0
  have d1 : w'.cell? ⟨b, off + 1, none⟩ = some (.int .u8 y) := (hw.cell hne).trans c1
  have HW : Hid _ := hw
  clear hw c0 c1 ht
  go_wp2
  go_quiet (fail)
  go_wp2
  go_ret
  exact ⟨rfl, off', ho, HW.out.drewN _⟩

set_option maxHeartbeats 1000000 in
theorem long_ok {w : World} {g b off n c : Nat} (hg : w.heap[g]? = some (.cells (rdr b off n c) rdT (0, 0))) (hne : g ≠ b) (x y z u : Int) (c0 : w.cell? ⟨b, off, none⟩ = some (.int .u8 x)) (c1 : w.cell? ⟨b, off + 1, none⟩ = some (.int .u8 y))
    (c2 : w.cell? ⟨b, off + 2, none⟩ = some (.int .u8 z)) (c3 : w.cell? ⟨b, off + 3, none⟩ = some (.int .u8 u))
    (r0 : 0 ≤ x) (r1 : x ≤ 255) (r2 : 0 ≤ y) (r3 : y ≤ 255) (r4 : 0 ≤ z) (r5 : z ≤ 255) (r6 : 0 ≤ u) (r7 : u ≤ 255) (hn : 4 ≤ n) (hc : n ≤ c) (hm : n ≤ 140737488351232) :
    Calls Tryz.prog 102 #[.pointer (some ⟨g, 0, none⟩)] w fun r w' => r = .returned (.int .u32 ((x * 256 + y) * 65536 + (z * 256 + u))) ∧
      ∃ off', (4 < n → off' = off + 4) ∧ Wrote w w' g (rdr b off' (n - 4) (c - 4)) rdT := by
  have ht := word_ok hg hne x y c0 c1 r0 r1 r2 r3 (by omega) hc hm
  have hor := sm_long (x * 256 + y) (z * 256 + u) (by omega) (by omega) (by omega) (by omega)
  have w0 := wrap32_small (x * 256 + y) (by omega) (by omega)
  have w1 := wrap32_small (z * 256 + u) (by omega) (by omega)
  have w2 := wrap32_small ((x * 256 + y) * 65536) (by omega) (by omega)
  have HN : Hid (4 ≤ n ∧ n ≤ c ∧ n ≤ 140737488351232) := ⟨hn, hc, hm⟩
  clear hg c0 c1 hn hc hm
  go_enter Tryz.func102, Tryz.ntmps102
  go_wp2_with fail
  refine ht.mono ?_
  rintro e w' ⟨rfl, off', ho, hw⟩
  obtain rfl : off' = off + 2 := ho (by have := HN.out; omega)
  have ht2 := word_ok hw.here hne z u ((hw.cell hne).trans c2) ((hw.cell hne).trans (by exact c3)) r4 r5 r6 r7 (by have := HN.out; omega) (by have := HN.out; omega) (by have := HN.out; omega)
  have HW : Hid _ := hw
  clear hw c2 c3 ht ho
  generalize hX : x * 256 + y = X at *
  have HX : Hid (x * 256 + y = X) := hX
  clear hX
  go_wp2_with fail
  refine ht2.mono ?_
  rintro e w2 ⟨rfl, off2, ho2, hw2⟩
  have HW2 : Hid _ := HW.out.trans hw2
  clear HW hw2 ht2
  generalize hZ : z * 256 + u = Z at *
  have HZ : Hid (z * 256 + u = Z) := hZ
  clear hZ
  go_wp2
  go_ret
  refine ⟨by rw [HX.out, HZ.out]; rfl, off2, fun h => ?_, ?_⟩
  · rw [ho2 (by omega)]
  · have := HW2.out
    rw [Nat.sub_sub, Nat.sub_sub] at this
    exact this

set_option maxHeartbeats 1000000 in
theorem fresh_ok {w : World} {a : Option Addr} {l : List Int} (h : Row w a l) (n c : Nat) (hn : l.length = n) :
    Calls Tryz.prog 103 #[.slice a n c] w fun r w' => ∃ g, r = .returned (.slice (some ⟨g, 0, none⟩) n n) ∧ Mem w w' [(g, .cells (l.map (Value.int .u8)).toArray 5)] := by
  have hl := h.len
  rw [hn] at hl
  have hmk := make_bytes n hl
  have HR : Hid (Row w a l) := h
  have HN : Hid (l.length = n) := hn
  clear h hn
  go_enter Tryz.func103, Tryz.ntmps103
  go_upto_region 2 with fail
  refine wp_letter (fun W => Mem w W [(w.heap.size, .cells (madeCells #[.int .u8 0] n) 5)]) ((Mem.nil w).push w.heap.size _ rfl) ?_
  intro w1 hM1
  have HS : Hid (0 < l.length → some (⟨w.heap.size, 0, none⟩ : Addr) = some ⟨w.heap.size, 0, none⟩ ∧ ∃ ad, a = some ad ∧ ∀ j v, (l.map (Value.int .u8))[j]? = some v → w1.cell? (ad.add j) = some v) := by
    intro hp
    have hr := hM1.row HR.out
    rcases hr.cells with e | ⟨b, off, rfl, hc⟩
    · rw [e] at hp; simp at hp
    · exact ⟨rfl, _, rfl, hr.news⟩
  obtain ⟨w5, hr5, hw5⟩ := copy_bytes w1 3 (some ⟨w.heap.size, 0, none⟩) a n n n c w.heap.size 0 _ _ 5 (hM1.get 0 rfl) l (by rw [HN.out]; exact (Nat.min_self n).symm) HS.out (by rw [HN.out, size_madeCells]; omega) (made_new n l HN.out)
  have HM : Hid _ := hM1.wrote 0 rfl hw5
  clear hM1 hw5 HS hmk HR
  go_wp2
  go_ret
  exact ⟨_, rfl, HM.out⟩

end Go.Proofs.YtjalpbkfpjfigaaGreat

namespace Go.Proofs.YtjalpbkfpjfigaaGreat
open Sm
namespace Sm
set_option linter.unusedVariables false

structure Pt where
  ip : Int
  port : Int
structure Pt.Ok (p : Pt) : Prop where
  ip : 0 ≤ p.ip ∧ p.ip ≤ 4294967295
  port : 0 ≤ p.port ∧ p.port ≤ 65535
structure Fl where
  proto : Int
  src : Pt
  dst : Pt
  flags : Int
  inner : List Pt
def Pt.zero : Pt := ⟨0, 0⟩
def Fl.zero : Fl := ⟨0, ⟨0, 0⟩, ⟨0, 0⟩, 0, []⟩

/-! ### The packet within an error. -/
/-- Its header, and eight bytes behind. -/
def inHead (l : List Int) : Bool := decide (20 ≤ l.length ∧ l.getD 0 0 / 16 = 4 ∧ 20 ≤ hdl l ∧ hdl l + 8 ≤ l.length)
def inKind (l : List Int) : Bool := decide (l.getD 9 0 = 17 ∨ l.getD 9 0 = 6) || (decide (l.getD 9 0 = 1) && decide ((l.getD (hdl l) 0 = 8 ∨ l.getD (hdl l) 0 = 0) ∧ l.getD (hdl l + 1) 0 = 0))
def inOk (l : List Int) : Bool := inHead l && inKind l
def inSrc (l : List Int) : Pt := ⟨w32 l 12, if l.getD 9 0 = 1 then w16 l (hdl l + 4) else w16 l (hdl l)⟩
def inDst (l : List Int) : Pt := ⟨w32 l 16, if l.getD 9 0 = 1 then w16 l (hdl l + 4) else w16 l (hdl l + 2)⟩
theorem inHead_facts {l : List Int} (h : inHead l = true) : 20 ≤ l.length ∧ l.getD 0 0 / 16 = 4 ∧ 20 ≤ hdl l ∧ hdl l + 8 ≤ l.length := by
  unfold inHead at h; simpa using h
theorem inOk_head {l : List Int} (h : inOk l = true) : inHead l = true := by unfold inOk at h; simp at h; exact h.1
theorem inOk_kind {l : List Int} (h : inOk l = true) : inKind l = true := by unfold inOk at h; simp at h; exact h.2
theorem inSrc_ok {l : List Int} (h : IsBytes l) : (inSrc l).Ok := ⟨w32_range h _, by unfold inSrc; simp only; split <;> exact w16_range h _⟩
theorem inDst_ok {l : List Int} (h : IsBytes l) : (inDst l).Ok := ⟨w32_range h _, by unfold inDst; simp only; split <;> exact w16_range h _⟩
theorem hdl_le {l : List Int} (h : IsBytes l) : hdl l ≤ 60 := by have := h 0; unfold hdl; omega

/-! ### What a packet carries. -/
def bdErr (p : Pk) : Int := if p.proto = 17 then udErr p.body else if p.proto = 6 then tcErr p.body else if p.proto = 1 then mgErr p.body else 21
def bdRight (p : Pk) : Bool := if p.proto = 17 then uright p.src p.dst (udRes p.body) else if p.proto = 6 then tright p.src p.dst (tcRes p.body) else mright (mgRes p.body)
def fl0 (p : Pk) : Fl := ⟨p.proto, ⟨p.src, 0⟩, ⟨p.dst, 0⟩, 0, []⟩
def mfErr (m : Mg) : Int := if mecho m = true then 0 else if merror m = true ∧ inOk m.body = true then 0 else 21
def mfFl (f : Fl) (m : Mg) : Fl :=
  if mecho m = true then ⟨f.proto, ⟨f.src.ip, m.rest / 65536⟩, ⟨f.dst.ip, m.rest / 65536⟩, f.flags, f.inner⟩
  else if merror m = true ∧ inOk m.body = true then ⟨f.proto, f.src, f.dst, f.flags, [inSrc m.body, inDst m.body]⟩ else Fl.zero
def flErr (p : Pk) : Int := if p.proto = 17 then 0 else if p.proto = 6 then 0 else mfErr (mgRes p.body)
def flFl (p : Pk) : Fl :=
  if p.proto = 17 then ⟨p.proto, ⟨p.src, (udRes p.body).src⟩, ⟨p.dst, (udRes p.body).dst⟩, 0, []⟩
  else if p.proto = 6 then ⟨p.proto, ⟨p.src, (tcRes p.body).src⟩, ⟨p.dst, (tcRes p.body).dst⟩, (tcRes p.body).flags, []⟩
  else mfFl (fl0 p) (mgRes p.body)
/-- What P8.1 answers. -/
def lkErr (l : List Int) : Int :=
  if ipErr l ≠ 0 then ipErr l else if bdErr (ipPk l) ≠ 0 then bdErr (ipPk l) else if bdRight (ipPk l) = false then 22 else flErr (ipPk l)
def lkPk (l : List Int) : Pk := if lkErr l = 0 then ipPk l else Pk.zero
def lkFl (l : List Int) : Fl := if lkErr l = 0 then flFl (ipPk l) else Fl.zero

theorem lk_parts {l : List Int} (h : lkErr l = 0) : ipErr l = 0 ∧ bdErr (ipPk l) = 0 ∧ bdRight (ipPk l) = true ∧ flErr (ipPk l) = 0 := by
  unfold lkErr at h
  split at h
  · omega
  · split at h
    · omega
    · split at h
      · omega
      · exact ⟨by omega, by omega, by simp_all, h⟩
theorem bd_kind {p : Pk} (h : bdErr p = 0) : p.proto = 17 ∧ udErr p.body = 0 ∨ p.proto = 6 ∧ tcErr p.body = 0 ∨ p.proto = 1 ∧ mgErr p.body = 0 := by
  unfold bdErr at h
  split at h
  · exact Or.inl ⟨by assumption, h⟩
  · split at h
    · exact Or.inr (Or.inl ⟨by assumption, h⟩)
    · split at h
      · exact Or.inr (Or.inr ⟨by assumption, h⟩)
      · omega

/-! ### A changed packet. -/
/-- Whether ports fit. -/
def pfit (f : Fl) (s d : Pt) : Bool := if 0 < f.inner.length then decide (s.port = 0 ∧ d.port = 0) else decide (f.proto ≠ 1 ∨ s.port = d.port)
def Dg.to (u : Dg) (s d : Pt) : Dg := ⟨s.port, d.port, u.sum, u.body⟩
def chDg (u : Dg) (s d : Pt) : Dg := if u.sum = 0 then u.to s d else (u.to s d).at (usum s.ip d.ip (u.to s d))
def Sg.to (q : Sg) (s d : Pt) : Sg := ⟨s.port, d.port, q.seq, q.ack, q.flags, q.win, q.sum, q.urg, q.opts, q.body⟩
def chSg (q : Sg) (s d : Pt) : Sg := (q.to s d).at (tsum s.ip d.ip (q.to s d))
def Mg.id (m : Mg) (x : Int) : Mg := ⟨m.typ, m.code, m.sum, x * 65536 + m.rest % 65536, m.body⟩
def chMg (f : Fl) (m : Mg) (s : Pt) : Mg := if 0 < f.inner.length then m else m.id s.port
def msl (m : Mg) : Mg := m.at (msum m)
def chBody (p : Pk) (f : Fl) (s d : Pt) : List Int :=
  if p.proto = 17 then udOut (chDg (udRes p.body) s d) else if p.proto = 6 then tcOut (chSg (tcRes p.body) s d) else if p.proto = 1 then mgOut (msl (chMg f (mgRes p.body) s)) else []
def Pk.to (p : Pk) (s d : Int) (b : List Int) : Pk := ⟨p.tos, p.ttl, p.proto, p.id, p.flags, p.off, s, d, p.opts, b⟩
def chPk (p : Pk) (f : Fl) (s d : Pt) : Pk := p.to s.ip d.ip (chBody p f s d)
/-- What P8.2 answers. -/
def chErr (l : List Int) (s d : Pt) : Int := if lkErr l ≠ 0 then lkErr l else if pfit (flFl (ipPk l)) s d = false then 21 else ipbErr (chPk (ipPk l) (flFl (ipPk l)) s d)
def chOut (l : List Int) (s d : Pt) : List Int := if lkErr l ≠ 0 then [] else if pfit (flFl (ipPk l)) s d = false then [] else ipOut (chPk (ipPk l) (flFl (ipPk l)) s d)

/-! ### A hop. -/
def Pk.hop (p : Pk) : Pk := ⟨p.tos, p.ttl - 1, p.proto, p.id, p.flags, p.off, p.src, p.dst, p.opts, p.body⟩
def hopErr (l : List Int) : Int := if ipErr l ≠ 0 then ipErr l else if (ipPk l).ttl = 0 then 21 else ipbErr (ipPk l).hop
def hopOut (l : List Int) : List Int := if ipErr l ≠ 0 then [] else if (ipPk l).ttl = 0 then [] else ipOut (ipPk l).hop

/-! ### The inner packet changed. -/
/-- A word put in. -/
def putw (l : List Int) (i : Nat) (x : Int) : List Int := (l.set i (x / 256)).set (i + 1) (x % 256)
def inSum (l : List Int) (s d : Int) : Int := updv (updv (updv (updv (w16 l 10) (w16 l 12) (s / 65536)) (w16 l 14) (s % 65536)) (w16 l 16) (d / 65536)) (w16 l 18) (d % 65536)
def putA (l : List Int) (s d : Int) : List Int := putw (putw (putw (putw (putw l 12 (s / 65536)) 14 (s % 65536)) 16 (d / 65536)) 18 (d % 65536)) 10 (inSum l s d)
def putP (l : List Int) (s d : Int) : List Int := if l.getD 9 0 = 1 then putw l (hdl l + 4) s else putw (putw l (hdl l) s) (hdl l + 2) d
def inPut (l : List Int) (s d : Pt) : List Int := putP (putA l s.ip d.ip) s.port d.port
def Mg.bod (m : Mg) (b : List Int) : Mg := ⟨m.typ, m.code, m.sum, m.rest, b⟩
def inMg (m : Mg) (s d : Pt) : Mg := msl (m.bod (inPut m.body s d))
def Pk.bod (p : Pk) (b : List Int) : Pk := ⟨p.tos, p.ttl, p.proto, p.id, p.flags, p.off, p.src, p.dst, p.opts, b⟩
def inPk (p : Pk) (s d : Pt) : Pk := p.bod (mgOut (inMg (mgRes p.body) s d))
/-- Whether the inner one is an echo whose ports are not alike. -/
def inBad (p : Pk) (s d : Pt) : Bool := decide ((mgRes p.body).body.getD 9 0 = 1 ∧ s.port ≠ d.port)
/-- What P8.3 answers. -/
def inErr (l : List Int) (s d : Pt) : Int :=
  if lkErr l ≠ 0 then lkErr l else if (flFl (ipPk l)).inner.length = 0 then 21 else if inBad (ipPk l) s d = true then 21 else ipbErr (inPk (ipPk l) s d)
def inOut (l : List Int) (s d : Pt) : List Int :=
  if lkErr l ≠ 0 then [] else if (flFl (ipPk l)).inner.length = 0 then [] else if inBad (ipPk l) s d = true then [] else ipOut (inPk (ipPk l) s d)
theorem putw_len (l : List Int) (i : Nat) (x : Int) : (putw l i x).length = l.length := by simp [putw]
theorem putw_getD (l : List Int) (i j : Nat) (x : Int) (hi : i + 1 < l.length) : (putw l i x).getD j 0 = if j = i + 1 then x % 256 else if j = i then x / 256 else l.getD j 0 := by
  unfold putw
  rw [getD_set _ _ _ _ (by simpa using hi), getD_set _ _ _ _ (by omega)]
theorem putw_bytes {l : List Int} (h : IsBytes l) (i : Nat) (x : Int) (hi : i + 1 < l.length) (h0 : 0 ≤ x) (h1 : x ≤ 65535) : IsBytes (putw l i x) := by
  intro j
  rw [putw_getD _ _ _ _ hi]
  split
  · omega
  · split
    · omega
    · exact h j
theorem putA_len (l : List Int) (s d : Int) : (putA l s d).length = l.length := by simp [putA, putw_len]
theorem putP_len (l : List Int) (s d : Int) : (putP l s d).length = l.length := by unfold putP; split <;> simp [putw_len]
theorem inPut_len (l : List Int) (s d : Pt) : (inPut l s d).length = l.length := by simp [inPut, putP_len, putA_len]
end Sm
end Go.Proofs.YtjalpbkfpjfigaaGreat

namespace Go.Proofs.YtjalpbkfpjfigaaGreat
open Go.RowKit
open Sm
set_option linter.unusedVariables false

abbrev tcT : TypeId := 79
abbrev tcA (s d sq ak fl wi c ur : Int) (o b : Value) : Array Value := #[.int .u16 s, .int .u16 d, .int .u32 sq, .int .u32 ak, .int .u8 fl, .int .u16 wi, .int .u16 c, .int .u16 ur, o, b]
abbrev tc0 : Array Value := tcA 0 0 0 0 0 0 0 0 (.slice none 0 0) (.slice none 0 0)

/-- A value that is the segment q, its lists behind base B. -/
def TcV (w : World) (B : Nat) (v : Value) (q : Sg) : Prop :=
  ∃ ao co bo cb, v = .agg (tcA q.src q.dst q.seq q.ack q.flags q.win q.sum q.urg (.slice ao q.opts.length co) (.slice bo q.body.length cb)) ∧ Row w ao q.opts ∧ Row w bo q.body ∧ (ao = none → co = 0) ∧ (bo = none → cb = 0) ∧ (∀ x, ao = some x → B ≤ x.block) ∧ (∀ x, bo = some x → B ≤ x.block)
theorem TcV.below {w w' : World} {C : Nat} {v : Value} {q : Sg} (h : TcV w C v q) {B : Nat} (hb : Below B w w') (hB : w.heap.size ≤ B) : TcV w' C v q := by
  obtain ⟨ao, co, bo, cb, e, h1, h2, h3⟩ := h
  exact ⟨ao, co, bo, cb, e, h1.below hb hB, h2.below hb hB, h3⟩
theorem TcV.mono {w : World} {C D : Nat} {v : Value} {q : Sg} (h : TcV w C v q) (hD : D ≤ C) : TcV w D v q := by
  obtain ⟨ao, co, bo, cb, e, h1, h2, h3, h4, h5, h6⟩ := h
  exact ⟨ao, co, bo, cb, e, h1, h2, h3, h4, fun x hx => Nat.le_trans hD (h5 x hx), fun x hx => Nat.le_trans hD (h6 x hx)⟩
theorem tcv_zero (w : World) (B : Nat) : TcV w B (.agg tc0) Sg.zero := ⟨none, 0, none, 0, rfl, row_nil w, row_nil w, fun _ => rfl, fun _ => rfl, fun x hx => (by cases hx), fun x hx => (by cases hx)⟩

set_option maxHeartbeats 400000 in
theorem tword_cells {w : World} {b j : Nat} (x y : Int) (c0 : w.cell? ⟨b, j, none⟩ = some (.int .u8 x)) (c1 : w.cell? ⟨b, j + 1, none⟩ = some (.int .u8 y)) (r0 : 0 ≤ x) (r1 : x ≤ 255) (r2 : 0 ≤ y) (r3 : y ≤ 255) (c : Nat) :
    Calls Tryz.prog 105 #[.slice (some ⟨b, j, none⟩) 2 c] w fun e w' => e = .returned (.int .u16 (x * 256 + y)) ∧ ∃ q, w' = w.drewN q := by
  have hor := sm_word x y r0 r1 r2 r3
  have w0 := wrap16_small x r0 (by omega)
  have w1 := wrap16_small y r2 (by omega)
  have w2 := wrap16_small (x * 256) (by omega) (by omega)
  go_enter Tryz.func105, Tryz.ntmps105
  go_wp2
  go_quiet (fail)
  go_wp2
  go_ret
  exact ⟨rfl, _, rfl⟩

theorem tword_at {w : World} {b off : Nat} {l : List Int} (h : Row w (some ⟨b, off, none⟩) l) (j k : Nat) (hk : k = off + j) (hj : j + 1 < l.length) (X : Int) (hX : w16 l j = X) (c : Nat) :
    Calls Tryz.prog 105 #[.slice (some ⟨b, k, none⟩) 2 c] w fun e w' => e = .returned (.int .u16 X) ∧ ∃ q, w' = w.drewN q := by
  subst hk hX
  have b0 := h.bytes j
  have b1 := h.bytes (j + 1)
  exact tword_cells _ _ (h.cellAt j (by omega)) (by rw [Nat.add_assoc]; exact h.cellAt (j + 1) hj) b0.1 b0.2 b1.1 b1.2 c

set_option maxHeartbeats 1000000 in
theorem tlong_at {w : World} {b off : Nat} {l : List Int} (h : Row w (some ⟨b, off, none⟩) l) (j k : Nat) (hk : k = off + j) (hj : j + 3 < l.length) (X : Int) (hX : w32 l j = X) :
    Calls Tryz.prog 106 #[.slice (some ⟨b, k, none⟩) 4 4] w fun e w' => e = .returned (.int .u32 X) ∧ ∃ q, w' = w.drewN q := by
  have ra := w16_range h.bytes j
  have rb := w16_range h.bytes (j + 2)
  have c1 := fun W (hW : Row W (some ⟨b, off, none⟩) l) => tword_at hW j k hk (by omega) _ rfl 2
  have c2 := fun W (hW : Row W (some ⟨b, off, none⟩) l) => tword_at hW (j + 2) (k + 2) (by omega) (by omega) _ rfl 2
  have hor := sm_long _ _ ra.1 ra.2 rb.1 rb.2
  have w0 := wrap32_small (w16 l j) (by omega) (by omega)
  have w1 := wrap32_small (w16 l (j + 2)) (by omega) (by omega)
  have w2 := wrap32_small (w16 l j * 65536) (by omega) (by omega)
  have HE : Hid (w16 l j * 65536 + w16 l (j + 2) = X) := hX
  generalize w16 l j = X1 at *
  generalize w16 l (j + 2) = X2 at *
  have C1 : Hid _ := c1
  have C2 : Hid _ := c2
  clear c1 c2 hX ra rb hk hj
  go_enter Tryz.func106, Tryz.ntmps106
  go_wp2_with fail
  go_region_held3 (fun w' => Row w' (some ⟨b, off, none⟩) l) (repeat (first | assumption | refine row_drewN ?_ | refine row_drew ?_))
    (first
      | (go_at_call 105; with_reducible refine (C1.out _ (by assumption)).mono ?_; rintro e w5 ⟨rfl, q5, rfl⟩)
      | (go_at_call 105; with_reducible refine (C2.out _ (by assumption)).mono ?_; rintro e w6 ⟨rfl, q6, rfl⟩))
  all_goals
    go_wp2_with fail
    go_ret
    exact ⟨by rw [← HE.out] <;> rfl, _, rfl⟩

set_option maxHeartbeats 1000000 in
theorem tfresh_any {w : World} {a : Option Addr} {l : List Int} (hr : Row w a l) (m c : Nat) (hm : l.length = m) :
    Calls Tryz.prog 107 #[.slice a m c] w fun e w' => e = .returned (.slice (some ⟨w.heap.size, 0, none⟩) m m) ∧ Mem w w' [(w.heap.size, .cells (bs l) 5)] := by
  have hmk := make_bytes m (by have := hr.len; omega)
  have hmi : (m : Int) ≤ 140737488351232 := by have := hr.len; omega
  have HM : Hid (Mem w (w.alloc (.cells (madeCells #[.int .u8 0] m) 5)) [(w.heap.size, .cells (madeCells #[.int .u8 0] m) 5)]) := (Mem.nil w).push w.heap.size _ rfl
  obtain ⟨w5, hr5, hw5⟩ := copy_bytes (w.alloc (.cells (madeCells #[.int .u8 0] m) 5)) 3 (some ⟨w.heap.size, 0, none⟩) a m m m c w.heap.size 0 _ _ 5 (HM.out.get 0 rfl) l (by rw [hm]; exact (Nat.min_self m).symm)
    (fun hp => by
      have hrm := HM.out.row hr
      rcases hrm.cells with e | ⟨b, off, rfl, hc⟩
      · subst e; simp at hp
      · exact ⟨rfl, _, rfl, hrm.news⟩)
    (by rw [hm, size_madeCells]; omega) (made_new m l hm)
  have HK : Hid (Mem w w5 [(w.heap.size, .cells (bs l) 5)]) := HM.out.wrote 0 rfl hw5
  clear hr hm hw5 HM
  go_enter Tryz.func107, Tryz.ntmps107
  go_wp2_with fail
  go_ret
  exact ⟨rfl, HK.out⟩
end Go.Proofs.YtjalpbkfpjfigaaGreat

