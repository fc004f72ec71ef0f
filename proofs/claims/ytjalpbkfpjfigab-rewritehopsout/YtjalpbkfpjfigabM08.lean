/-
  Segments as lists of numbers: what bytes read as, what a segment is written as, its checksum and whether it is right; each is the other's inverse.
  Datagrams as lists of numbers: what bytes read as, what a datagram is written as, its checksum and whether it is right; each is the other's inverse.
  Of no one layer: a struct of five or of ten fields that comes in.
-/
import Derived.Test.YtjalpbkfpjfigabM06
namespace Go.Proofs.Ytjalpbkfpjfigab
open Sm
namespace Sm
set_option linter.unusedVariables false

structure Sg where
  src : Int
  dst : Int
  seq : Int
  ack : Int
  flags : Int
  win : Int
  sum : Int
  urg : Int
  opts : List Int
  body : List Int
def Sg.zero : Sg := ⟨0, 0, 0, 0, 0, 0, 0, 0, [], []⟩
structure Sg.Ok (q : Sg) : Prop where
  src : 0 ≤ q.src ∧ q.src ≤ 65535
  dst : 0 ≤ q.dst ∧ q.dst ≤ 65535
  seq : 0 ≤ q.seq ∧ q.seq ≤ 4294967295
  ack : 0 ≤ q.ack ∧ q.ack ≤ 4294967295
  flags : 0 ≤ q.flags ∧ q.flags ≤ 255
  win : 0 ≤ q.win ∧ q.win ≤ 65535
  sum : 0 ≤ q.sum ∧ q.sum ≤ 65535
  urg : 0 ≤ q.urg ∧ q.urg ≤ 65535
  opts : IsBytes q.opts
  body : IsBytes q.body

/-- The header's length that it tells. -/
def thd (l : List Int) : Nat := 4 * (l.getD 12 0 / 16).toNat
/-- What P5.1 answers. -/
def tcErr (l : List Int) : Int := if l.length < 20 then 20 else if thd l < 20 then 21 else if l.length < thd l then 20 else 0
def tcSg (l : List Int) : Sg := ⟨w16 l 0, w16 l 2, w32 l 4, w32 l 8, l.getD 13 0, w16 l 14, w16 l 16, w16 l 18, (l.drop 20).take (thd l - 20), (l.drop (thd l)).take (l.length - thd l)⟩
def tcRes (l : List Int) : Sg := if tcErr l = 0 then tcSg l else Sg.zero
def tcbErr (q : Sg) : Int := if q.opts.length % 4 ≠ 0 ∨ 40 < q.opts.length then 21 else if 65515 < 20 + q.opts.length + q.body.length then 23 else 0
/-- The first twenty bytes. -/
def tc20 (hd : Nat) (s d sq ak fl wi c ur : Int) : List Int :=
  [s / 256, s % 256, d / 256, d % 256, sq / 16777216, sq / 65536 % 256, sq / 256 % 256, sq % 256, ak / 16777216, ak / 65536 % 256, ak / 256 % 256, ak % 256,
   (hd : Int) / 4 * 16, fl, wi / 256, wi % 256, c / 256, c % 256, ur / 256, ur % 256]
def tcb (q : Sg) : List Int := tc20 (20 + q.opts.length) q.src q.dst q.seq q.ack q.flags q.win q.sum q.urg ++ q.opts ++ q.body
def tcOut (q : Sg) : List Int := if tcbErr q = 0 then tcb q else []
/-- The whole length. -/
def tlen (q : Sg) : Nat := 20 + q.opts.length + q.body.length

structure TFits (q : Sg) : Prop where
  o4 : q.opts.length % 4 = 0
  o40 : q.opts.length ≤ 40
  n : 20 + q.opts.length + q.body.length ≤ 65515
theorem tfits_iff (q : Sg) : tcbErr q = 0 ↔ TFits q := by
  unfold tcbErr
  constructor
  · intro h
    split at h
    · omega
    · split at h
      · omega
      · constructor <;> omega
  · intro ⟨a, b, c⟩
    rw [if_neg (by omega), if_neg (by omega)]

theorem tcb_len (q : Sg) : (tcb q).length = tlen q := by simp [tcb, tc20, tlen]; omega
theorem tcb_bytes {q : Sg} (h : q.Ok) (f : TFits q) : IsBytes (tcb q) := by
  obtain ⟨h1, h2, h3, h4, h5, h6, h7, h8, h9, h10⟩ := h
  obtain ⟨f1, f2, f3⟩ := f
  unfold tcb tc20
  refine bytes_append ?_ h10
  simp only [List.cons_append, List.nil_append]
  iterate 20 (refine bytes_cons ⟨by omega, by omega⟩ ?_)
  exact h9
theorem tcOut_facts {q : Sg} (h : q.Ok) : IsBytes (tcOut q) ∧ (tcOut q).length ≤ 65515 := by
  unfold tcOut
  by_cases e : tcbErr q = 0
  · rw [if_pos e]; have f := (tfits_iff q).mp e; exact ⟨tcb_bytes h f, by rw [tcb_len]; exact f.n⟩
  · rw [if_neg e]; exact ⟨bytes_nil, by simp⟩
theorem tcRes_ok {l : List Int} (h : IsBytes l) : (tcRes l).Ok := by
  unfold tcRes
  split
  · exact ⟨w16_range h 0, w16_range h 2, w32_range h 4, w32_range h 8, h 13, w16_range h 14, w16_range h 16, w16_range h 18, bytes_part h _ _, bytes_part h _ _⟩
  · exact ⟨by decide, by decide, by decide, by decide, by decide, by decide, by decide, by decide, bytes_nil, bytes_nil⟩

theorem back_thd (q : Sg) (f : TFits q) : thd (tcb q) = 20 + q.opts.length := by
  obtain ⟨f1, f2, f3⟩ := f
  unfold thd tcb tc20
  simp only [List.cons_append, List.nil_append, List.getD_cons_zero, List.getD_cons_succ]
  omega
theorem back_terr (q : Sg) (f : TFits q) : tcErr (tcb q) = 0 := by
  unfold tcErr
  rw [back_thd q f, tcb_len, tlen, if_neg (by omega), if_neg (by omega), if_neg (by omega)]
theorem back_tres {q : Sg} (h : q.Ok) (f : TFits q) : tcRes (tcb q) = q := by
  unfold tcRes
  rw [if_pos (back_terr q f)]
  unfold tcSg
  rw [back_thd q f, tcb_len]
  obtain ⟨h1, h2, h3, h4, h5, h6, h7, h8, h9, h10⟩ := h
  obtain ⟨s, d, sq, ak, fl, wi, c, ur, o, b⟩ := q
  simp only at h1 h2 h3 h4 h5 h6 h7 h8
  have e0 : (tcb ⟨s, d, sq, ak, fl, wi, c, ur, o, b⟩).drop 20 = o ++ b := rfl
  have e1 : ((tcb ⟨s, d, sq, ak, fl, wi, c, ur, o, b⟩).drop 20).take (20 + o.length - 20) = o := by
    rw [e0, Nat.add_sub_cancel_left]; exact List.take_left' rfl
  have e2 : ((tcb ⟨s, d, sq, ak, fl, wi, c, ur, o, b⟩).drop (20 + o.length)).take (tlen ⟨s, d, sq, ak, fl, wi, c, ur, o, b⟩ - (20 + o.length)) = b := by
    rw [← List.drop_drop, e0, List.drop_left' rfl]
    exact List.take_of_length_le (by unfold tlen; simp)
  rw [e1, e2]
  unfold w32 w16 tcb tc20
  simp only [List.cons_append, List.nil_append, List.getD_cons_zero, List.getD_cons_succ, Sg.mk.injEq, and_true, true_and]
  refine ⟨?_, ?_, ?_, ?_, ?_, ?_, ?_⟩ <;> omega

/-! ### Checksums. -/
/-- All words, with the pseudo ones, folded. -/
def ttot (s d : Int) (q : Sg) : Int := foldv (acc (tcb q) (psv s d 6 (tlen q : Nat)) (cnt (tlen q)))
def Sg.at (q : Sg) (c : Int) : Sg := ⟨q.src, q.dst, q.seq, q.ack, q.flags, q.win, c, q.urg, q.opts, q.body⟩
/-- What P5.2 answers. -/
def tsum (s d : Int) (q : Sg) : Int := if tcbErr q ≠ 0 then 0 else 65535 - ttot s d (q.at 0)
def tright (s d : Int) (q : Sg) : Bool := decide (tcbErr q = 0) && decide (ttot s d q = 65535)

theorem tpsv_range (s d p n : Int) (h0 : 0 ≤ s) (h1 : 0 ≤ d) (h2 : 1 ≤ p) : 1 ≤ psv s d p n ∧ psv s d p n ≤ 65535 := by
  unfold psv foldv
  rw [if_neg (by omega)]
  omega
theorem ttot_range (s d : Int) (q : Sg) : 0 ≤ ttot s d q ∧ ttot s d q ≤ 65535 := foldv_range _
theorem tcErr_at (q : Sg) (c : Int) : tcbErr (q.at c) = tcbErr q := rfl
theorem tlen_at (q : Sg) (c : Int) : tlen (q.at c) = tlen q := rfl
theorem TFits.at {q : Sg} (f : TFits q) (c : Int) : TFits (q.at c) := ⟨f.o4, f.o40, f.n⟩
theorem Sg.Ok.at {q : Sg} (h : q.Ok) {c : Int} (h0 : 0 ≤ c) (h1 : c ≤ 65535) : (q.at c).Ok := ⟨h.src, h.dst, h.seq, h.ack, h.flags, h.win, ⟨h0, h1⟩, h.urg, h.opts, h.body⟩

theorem ttot_at {q : Sg} (h : q.Ok) (f : TFits q) (s d : Int) (hs : 0 ≤ s) (hd : 0 ≤ d) : ∃ P : Int, 1 ≤ P ∧ ∀ c, 0 ≤ c → c ≤ 65535 → ttot s d (q.at c) = foldv (P + c) := by
  have hp := tpsv_range s d 6 (tlen q : Nat) hs hd (by omega)
  have hb0 := tcb_bytes (h.at (c := 0) (by omega) (by omega)) (f.at 0)
  have ht := tot_nonneg hb0 (cnt (tlen q))
  refine ⟨psv s d 6 (tlen q : Nat) + tot (tcb (q.at 0)) (cnt (tlen q)), by omega, fun c c0 c1 => ?_⟩
  have hb := tcb_bytes (h.at c0 c1) (f.at c)
  have e : tcb (q.at c) = setw (tcb (q.at 0)) 8 (c / 256) (c % 256) := rfl
  have hl : 2 * 8 + 1 < (tcb (q.at 0)).length := by rw [tcb_len]; unfold tlen; omega
  have hk : 8 < cnt (tlen q) := by unfold cnt tlen; omega
  have hw : wd (tcb (q.at 0)) 8 = 0 := rfl
  unfold ttot
  rw [tlen_at, foldv_acc hb _ (by omega) (by omega), e, tot_setw _ _ _ _ _ hl, if_pos hk, hw]
  congr 1
  omega
theorem tsum_range (s d : Int) (q : Sg) : 0 ≤ tsum s d q ∧ tsum s d q ≤ 65535 := by
  have := ttot_range s d (q.at 0)
  unfold tsum
  split <;> omega
/-- One with its own checksum is right, with any other not, but for the two noughts. -/
theorem tright_at {q : Sg} (h : q.Ok) (f : TFits q) (s d : Int) (hs : 0 ≤ s) (hd : 0 ≤ d) (c : Int) (c0 : 0 ≤ c) (c1 : c ≤ 65535) :
    tright s d (q.at c) = (decide (c = tsum s d q) || (decide (tsum s d q = 0) && decide (c = 65535)) || (decide (tsum s d q = 65535) && decide (c = 0))) := by
  obtain ⟨P, hP, hu⟩ := ttot_at h f s d hs hd
  have e := (tfits_iff q).mpr f
  have e0 := hu 0 (by omega) (by omega)
  unfold tright
  rw [tcErr_at, e, hu c c0 c1]
  unfold tsum
  rw [if_neg (by omega), e0, Int.add_zero]
  have key : foldv (P + c) = 65535 ↔ (c = 65535 - foldv P ∨ (65535 - foldv P = 0 ∧ c = 65535) ∨ (65535 - foldv P = 65535 ∧ c = 0)) := by
    have a1 : ¬ P + c = 0 := by omega
    have a2 : ¬ P = 0 := by omega
    unfold foldv
    simp only [if_neg a1, if_neg a2]
    constructor <;> intro h <;> omega
  simp only [decide_true, Bool.true_and]
  rw [← Bool.decide_and, ← Bool.decide_and, ← Bool.decide_or, ← Bool.decide_or]
  exact decide_eq_decide.mpr (key.trans (by rw [or_assoc]))
end Sm
end Go.Proofs.Ytjalpbkfpjfigab

namespace Go.Proofs.Ytjalpbkfpjfigab
open Sm
namespace Sm
set_option linter.unusedVariables false

structure Dg where
  src : Int
  dst : Int
  sum : Int
  body : List Int
def Dg.zero : Dg := ⟨0, 0, 0, []⟩
structure Dg.Ok (u : Dg) : Prop where
  src : 0 ≤ u.src ∧ u.src ≤ 65535
  dst : 0 ≤ u.dst ∧ u.dst ≤ 65535
  sum : 0 ≤ u.sum ∧ u.sum ≤ 65535
  body : IsBytes u.body

/-- The length that it tells. -/
def ulen (l : List Int) : Nat := (w16 l 4).toNat
/-- What P4.1 answers. -/
def udErr (l : List Int) : Int := if l.length < 8 then 20 else if ulen l < 8 then 21 else if l.length < ulen l then 20 else 0
def udDg (l : List Int) : Dg := ⟨w16 l 0, w16 l 2, w16 l 6, (l.drop 8).take (ulen l - 8)⟩
def udRes (l : List Int) : Dg := if udErr l = 0 then udDg l else Dg.zero
def udbErr (u : Dg) : Int := if 65527 < u.body.length then 23 else 0
/-- The first eight bytes. -/
def ud8 (n : Nat) (s d c : Int) : List Int := [s / 256, s % 256, d / 256, d % 256, (n : Int) / 256, (n : Int) % 256, c / 256, c % 256]
def udb (u : Dg) : List Int := ud8 (8 + u.body.length) u.src u.dst u.sum ++ u.body
def udOut (u : Dg) : List Int := if udbErr u = 0 then udb u else []

theorem udb_len (u : Dg) : (udb u).length = 8 + u.body.length := by simp [udb, ud8]; omega
theorem udb_bytes {u : Dg} (h : u.Ok) (hn : u.body.length ≤ 65527) : IsBytes (udb u) := by
  obtain ⟨h1, h2, h3, h4⟩ := h
  unfold udb ud8
  simp only [List.cons_append, List.nil_append]
  iterate 8 (refine bytes_cons ⟨by omega, by omega⟩ ?_)
  exact h4
theorem udbErr_zero (u : Dg) : udbErr u = 0 ↔ u.body.length ≤ 65527 := by unfold udbErr; split <;> omega
theorem udOut_facts {u : Dg} (h : u.Ok) : IsBytes (udOut u) ∧ (udOut u).length ≤ 65535 := by
  unfold udOut
  by_cases e : udbErr u = 0
  · rw [if_pos e]; have := (udbErr_zero u).mp e; exact ⟨udb_bytes h this, by rw [udb_len]; omega⟩
  · rw [if_neg e]; exact ⟨bytes_nil, by simp⟩
theorem udRes_ok {l : List Int} (h : IsBytes l) : (udRes l).Ok := by
  unfold udRes
  split
  · exact ⟨w16_range h 0, w16_range h 2, w16_range h 6, bytes_part h _ _⟩
  · exact ⟨by decide, by decide, by decide, bytes_nil⟩

theorem back_ulen (u : Dg) (hn : u.body.length ≤ 65527) : ulen (udb u) = 8 + u.body.length := by
  unfold ulen w16 udb ud8
  simp only [List.cons_append, List.nil_append, List.getD_cons_zero, List.getD_cons_succ]
  omega
theorem back_uerr (u : Dg) (hn : u.body.length ≤ 65527) : udErr (udb u) = 0 := by
  unfold udErr
  rw [back_ulen u hn, udb_len, if_neg (by omega), if_neg (by omega), if_neg (by omega)]
theorem back_ures {u : Dg} (h : u.Ok) (hn : u.body.length ≤ 65527) : udRes (udb u) = u := by
  unfold udRes
  rw [if_pos (back_uerr u hn)]
  unfold udDg
  rw [back_ulen u hn]
  obtain ⟨h1, h2, h3, h4⟩ := h
  obtain ⟨s, d, c, b⟩ := u
  simp only at h1 h2 h3
  have e : ((udb ⟨s, d, c, b⟩).drop 8).take (8 + b.length - 8) = b := by
    have : (udb ⟨s, d, c, b⟩).drop 8 = b := rfl
    rw [this, Nat.add_sub_cancel_left]; exact List.take_of_length_le (Nat.le_refl _)
  rw [e]
  unfold w16 udb ud8
  simp only [List.cons_append, List.nil_append, List.getD_cons_zero, List.getD_cons_succ, Dg.mk.injEq, and_true]
  omega

/-! ### Checksums. -/
/-- All words, with the pseudo ones, folded. -/
def utot (s d : Int) (u : Dg) : Int := foldv (acc (udb u) (psv s d 17 (8 + u.body.length : Nat)) (cnt (8 + u.body.length)))
def Dg.at (u : Dg) (c : Int) : Dg := ⟨u.src, u.dst, c, u.body⟩
/-- What P4.2 answers. -/
def usum (s d : Int) (u : Dg) : Int := if udbErr u ≠ 0 then 0 else if utot s d (u.at 0) = 65535 then 65535 else 65535 - utot s d (u.at 0)
def uright (s d : Int) (u : Dg) : Bool := decide (u.sum = 0) || (decide (udbErr u = 0) && decide (utot s d u = 65535))

theorem psv_range (s d p n : Int) (h0 : 0 ≤ s) (h1 : 0 ≤ d) (h2 : 1 ≤ p) : 1 ≤ psv s d p n ∧ psv s d p n ≤ 65535 := by
  unfold psv foldv
  rw [if_neg (by omega)]
  omega
theorem utot_range (s d : Int) (u : Dg) : 0 ≤ utot s d u ∧ utot s d u ≤ 65535 := foldv_range _
theorem udErr_at (u : Dg) (c : Int) : udbErr (u.at c) = udbErr u := rfl
theorem Dg.Ok.at {u : Dg} (h : u.Ok) {c : Int} (h0 : 0 ≤ c) (h1 : c ≤ 65535) : (u.at c).Ok := ⟨h.src, h.dst, ⟨h0, h1⟩, h.body⟩

theorem utot_at {u : Dg} (h : u.Ok) (hn : u.body.length ≤ 65527) (s d : Int) (hs : 0 ≤ s) (hd : 0 ≤ d) : ∃ P : Int, 1 ≤ P ∧ ∀ c, 0 ≤ c → c ≤ 65535 → utot s d (u.at c) = foldv (P + c) := by
  have hp := psv_range s d 17 (8 + u.body.length : Nat) hs hd (by omega)
  have hb0 := udb_bytes (h.at (c := 0) (by omega) (by omega)) hn
  have ht := tot_nonneg hb0 (cnt (8 + u.body.length))
  refine ⟨psv s d 17 (8 + u.body.length : Nat) + tot (udb (u.at 0)) (cnt (8 + u.body.length)), by omega, fun c c0 c1 => ?_⟩
  have hb := udb_bytes (h.at c0 c1) hn
  have e : udb (u.at c) = setw (udb (u.at 0)) 3 (c / 256) (c % 256) := rfl
  have hl : 2 * 3 + 1 < (udb (u.at 0)).length := by rw [udb_len]; omega
  have hk : 3 < cnt (8 + u.body.length) := by unfold cnt; omega
  have hw : wd (udb (u.at 0)) 3 = 0 := rfl
  show foldv (acc (udb (u.at c)) (psv s d 17 (8 + u.body.length : Nat)) (cnt (8 + u.body.length))) = _
  rw [foldv_acc hb _ (by omega) (by omega), e, tot_setw _ _ _ _ _ hl, if_pos hk, hw]
  congr 1
  omega

theorem usum_range (s d : Int) (u : Dg) : 0 ≤ usum s d u ∧ usum s d u ≤ 65535 := by
  have := utot_range s d (u.at 0)
  unfold usum
  split
  · omega
  · split <;> omega
theorem usum_some {u : Dg} (hn : u.body.length ≤ 65527) (s d : Int) : usum s d u ≠ 0 := by
  have := utot_range s d (u.at 0)
  have e := (udbErr_zero u).mpr hn
  unfold usum
  rw [if_neg (by omega)]
  split <;> omega
/-- One with its own checksum is right, with any other not, but for none. -/
theorem uright_at {u : Dg} (h : u.Ok) (hn : u.body.length ≤ 65527) (s d : Int) (hs : 0 ≤ s) (hd : 0 ≤ d) (c : Int) (c0 : 0 ≤ c) (c1 : c ≤ 65535) :
    uright s d (u.at c) = (decide (c = usum s d u) || decide (c = 0)) := by
  obtain ⟨P, hP, hu⟩ := utot_at h hn s d hs hd
  have e := (udbErr_zero u).mpr hn
  have e0 := hu 0 (by omega) (by omega)
  unfold uright
  rw [udErr_at, e, hu c c0 c1]
  unfold usum
  rw [if_neg (by omega), e0, Int.add_zero]
  have key : (foldv (P + c) = 65535 ∧ c ≠ 0) ↔ (c = (if foldv P = 65535 then 65535 else 65535 - foldv P) ∧ c ≠ 0) := by
    have a1 : ¬ P + c = 0 := by omega
    have a2 : ¬ P = 0 := by omega
    unfold foldv
    simp only [if_neg a1, if_neg a2]
    split <;> constructor <;> intro h <;> omega
  have q : (u.at c).sum = c := rfl
  rw [q]
  by_cases z : c = 0
  · simp [z]
  · by_cases f : foldv (P + c) = 65535
    · have := (key.mp ⟨f, z⟩).1
      simp [z, f, ← this]
    · have : ¬ c = (if foldv P = 65535 then 65535 else 65535 - foldv P) := fun x => f (key.mpr ⟨x, z⟩).1
      simp [z, f, this]
end Sm
end Go.Proofs.Ytjalpbkfpjfigab

namespace Go.Proofs.Ytjalpbkfpjfigab
open Go.ChangeShapes Go.WideShapes Go.ChangeAt Go.RowKit Go.Joins
open Sm
set_option linter.unusedVariables false

theorem array5 {α : Type} {cs : Array α} (h : cs.size = 5) : ∃ c0 c1 c2 c3 c4, cs = #[c0, c1, c2, c3, c4] := by
  obtain ⟨l⟩ := cs
  simp only [List.size_toArray] at h
  rcases l with _ | ⟨c0, l⟩
  · simp at h
  rcases l with _ | ⟨c1, l⟩
  · simp at h
  rcases l with _ | ⟨c2, l⟩
  · simp at h
  rcases l with _ | ⟨c3, l⟩
  · simp at h
  rcases l with _ | ⟨c4, l⟩
  · simp at h
  rcases l with _ | ⟨c5, l⟩
  · exact ⟨c0, c1, c2, c3, c4, rfl⟩
  · simp at h

theorem array10 {α : Type} {cs : Array α} (h : cs.size = 10) : ∃ c0 c1 c2 c3 c4 c5 c6 c7 c8 c9, cs = #[c0, c1, c2, c3, c4, c5, c6, c7, c8, c9] := by
  obtain ⟨l⟩ := cs
  simp only [List.size_toArray] at h
  rcases l with _ | ⟨c0, l⟩
  · simp at h
  rcases l with _ | ⟨c1, l⟩
  · simp at h
  rcases l with _ | ⟨c2, l⟩
  · simp at h
  rcases l with _ | ⟨c3, l⟩
  · simp at h
  rcases l with _ | ⟨c4, l⟩
  · simp at h
  rcases l with _ | ⟨c5, l⟩
  · simp at h
  rcases l with _ | ⟨c6, l⟩
  · simp at h
  rcases l with _ | ⟨c7, l⟩
  · simp at h
  rcases l with _ | ⟨c8, l⟩
  · simp at h
  rcases l with _ | ⟨c9, l⟩
  · simp at h
  rcases l with _ | ⟨c10, l⟩
  · exact ⟨c0, c1, c2, c3, c4, c5, c6, c7, c8, c9, rfl⟩
  · simp at h

section
variable {H : Type} {enc : TypeId × Value → H} {W : World} {base : Nat} {held : Bool}

theorem trod_struct5 {t : TypeId} {f0 f1 f2 f3 f4 : Field} {fuel : Nat} {cs : List Value} {x : DataW H × List MemPlace} (ht : Try.prog.underlying t = some (.struct #[f0, f1, f2, f3, f4])) (h : DataW.trod enc Try.prog W base (fun _ => true) held fuel t cs = some x) :
    ∃ y0 y1 y2 y3 y4 n, DataW.trod enc Try.prog W base (fun _ => true) held n f0.type ((cs.drop f0.offset).take (Try.prog.cellsOf f0.type)) = some y0 ∧ DataW.trod enc Try.prog W base (fun _ => true) held n f1.type ((cs.drop f1.offset).take (Try.prog.cellsOf f1.type)) = some y1 ∧ DataW.trod enc Try.prog W base (fun _ => true) held n f2.type ((cs.drop f2.offset).take (Try.prog.cellsOf f2.type)) = some y2 ∧ DataW.trod enc Try.prog W base (fun _ => true) held n f3.type ((cs.drop f3.offset).take (Try.prog.cellsOf f3.type)) = some y3 ∧ DataW.trod enc Try.prog W base (fun _ => true) held n f4.type ((cs.drop f4.offset).take (Try.prog.cellsOf f4.type)) = some y4 := by
  obtain ⟨xs, n, _, _, hl, hlen, hf⟩ := DataW.trod_struct ht h
  match xs, hlen with
  | [y0, y1, y2, y3, y4], _ => exact ⟨y0, y1, y2, y3, y4, n, by simpa using hf 0 f0 rfl, by simpa using hf 1 f1 rfl, by simpa using hf 2 f2 rfl, by simpa using hf 3 f3 rfl, by simpa using hf 4 f4 rfl⟩

theorem trod_struct10 {t : TypeId} {f0 f1 f2 f3 f4 f5 f6 f7 f8 f9 : Field} {fuel : Nat} {cs : List Value} {x : DataW H × List MemPlace} (ht : Try.prog.underlying t = some (.struct #[f0, f1, f2, f3, f4, f5, f6, f7, f8, f9])) (h : DataW.trod enc Try.prog W base (fun _ => true) held fuel t cs = some x) :
    ∃ y0 y1 y2 y3 y4 y5 y6 y7 y8 y9 n, DataW.trod enc Try.prog W base (fun _ => true) held n f0.type ((cs.drop f0.offset).take (Try.prog.cellsOf f0.type)) = some y0 ∧ DataW.trod enc Try.prog W base (fun _ => true) held n f1.type ((cs.drop f1.offset).take (Try.prog.cellsOf f1.type)) = some y1 ∧ DataW.trod enc Try.prog W base (fun _ => true) held n f2.type ((cs.drop f2.offset).take (Try.prog.cellsOf f2.type)) = some y2 ∧ DataW.trod enc Try.prog W base (fun _ => true) held n f3.type ((cs.drop f3.offset).take (Try.prog.cellsOf f3.type)) = some y3 ∧ DataW.trod enc Try.prog W base (fun _ => true) held n f4.type ((cs.drop f4.offset).take (Try.prog.cellsOf f4.type)) = some y4 ∧ DataW.trod enc Try.prog W base (fun _ => true) held n f5.type ((cs.drop f5.offset).take (Try.prog.cellsOf f5.type)) = some y5 ∧ DataW.trod enc Try.prog W base (fun _ => true) held n f6.type ((cs.drop f6.offset).take (Try.prog.cellsOf f6.type)) = some y6 ∧ DataW.trod enc Try.prog W base (fun _ => true) held n f7.type ((cs.drop f7.offset).take (Try.prog.cellsOf f7.type)) = some y7 ∧ DataW.trod enc Try.prog W base (fun _ => true) held n f8.type ((cs.drop f8.offset).take (Try.prog.cellsOf f8.type)) = some y8 ∧ DataW.trod enc Try.prog W base (fun _ => true) held n f9.type ((cs.drop f9.offset).take (Try.prog.cellsOf f9.type)) = some y9 := by
  obtain ⟨xs, n, _, _, hl, hlen, hf⟩ := DataW.trod_struct ht h
  match xs, hlen with
  | [y0, y1, y2, y3, y4, y5, y6, y7, y8, y9], _ => exact ⟨y0, y1, y2, y3, y4, y5, y6, y7, y8, y9, n, by simpa using hf 0 f0 rfl, by simpa using hf 1 f1 rfl, by simpa using hf 2 f2 rfl, by simpa using hf 3 f3 rfl, by simpa using hf 4 f4 rfl, by simpa using hf 5 f5 rfl, by simpa using hf 6 f6 rfl, by simpa using hf 7 f7 rfl, by simpa using hf 8 f8 rfl, by simpa using hf 9 f9 rfl⟩
end
end Go.Proofs.Ytjalpbkfpjfigab

