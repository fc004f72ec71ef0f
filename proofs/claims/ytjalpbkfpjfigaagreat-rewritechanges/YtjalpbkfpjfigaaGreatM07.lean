/-
  Packets of version 4 as lists of numbers: what bytes read as, what a packet is written as, and that each is the other's inverse.
  Datagrams as lists of numbers: what bytes read as, what a datagram is written as, its checksum and whether it is right; each is the other's inverse.
  Of no one layer: a struct of five or of ten fields that comes in.
-/
import Derived.Test.YtjalpbkfpjfigaaGreatM06
import Derived.Test.YtjalpbkfpjfigaaGreatM05
namespace Go.Proofs.YtjalpbkfpjfigaaGreat
open Sm
namespace Sm
set_option linter.unusedVariables false

structure Pk where
  tos : Int
  ttl : Int
  proto : Int
  id : Int
  flags : Int
  off : Int
  src : Int
  dst : Int
  opts : List Int
  body : List Int

def Pk.zero : Pk := ⟨0, 0, 0, 0, 0, 0, 0, 0, [], []⟩

/-- The header's length, and the whole one. -/
def hdl (l : List Int) : Nat := 4 * (l.getD 0 0 % 16).toNat
def whl (l : List Int) : Nat := (w16 l 2).toNat

/-- What P3.1 answers. -/
def ipErr (l : List Int) : Int :=
  if l.length < 20 then 20
  else if ¬ (l.getD 0 0 / 16 = 4 ∧ 20 ≤ hdl l ∧ hdl l ≤ whl l) then 21
  else if l.length < hdl l ∨ l.length < whl l then 20
  else if foldv (tot (l.take (hdl l)) (cnt (hdl l))) ≠ 65535 then 22
  else 0
def ipPk (l : List Int) : Pk :=
  ⟨l.getD 1 0, l.getD 8 0, l.getD 9 0, w16 l 4, w16 l 6 / 8192, w16 l 6 % 8192, w32 l 12, w32 l 16, (l.drop 20).take (hdl l - 20), (l.drop (hdl l)).take (whl l - hdl l)⟩
def ipRes (l : List Int) : Pk := if ipErr l = 0 then ipPk l else Pk.zero

structure Pk.Ok (p : Pk) : Prop where
  tos : 0 ≤ p.tos ∧ p.tos ≤ 255
  ttl : 0 ≤ p.ttl ∧ p.ttl ≤ 255
  proto : 0 ≤ p.proto ∧ p.proto ≤ 255
  id : 0 ≤ p.id ∧ p.id ≤ 65535
  flags : 0 ≤ p.flags ∧ p.flags ≤ 255
  off : 0 ≤ p.off ∧ p.off ≤ 65535
  src : 0 ≤ p.src ∧ p.src ≤ 4294967295
  dst : 0 ≤ p.dst ∧ p.dst ≤ 4294967295
  opts : IsBytes p.opts
  body : IsBytes p.body

/-- What P3.2 answers. -/
def ipbErr (p : Pk) : Int :=
  if p.opts.length % 4 ≠ 0 ∨ 40 < p.opts.length ∨ 7 < p.flags ∨ 8191 < p.off then 21
  else if 65535 < 20 + p.opts.length + p.body.length then 23
  else 0
def hdw (p : Pk) (x y : Int) : List Int :=
  (64 + ((20 + p.opts.length : Nat) : Int) / 4) :: p.tos :: ((20 + p.opts.length + p.body.length : Nat) : Int) / 256 :: ((20 + p.opts.length + p.body.length : Nat) : Int) % 256 :: p.id / 256 :: p.id % 256 ::
  (p.flags * 8192 + p.off) / 256 :: (p.flags * 8192 + p.off) % 256 :: p.ttl :: p.proto :: x :: y ::
  p.src / 16777216 :: p.src / 65536 % 256 :: p.src / 256 % 256 :: p.src % 256 :: p.dst / 16777216 :: p.dst / 65536 % 256 :: p.dst / 256 % 256 :: p.dst % 256 :: p.opts
def ipc (p : Pk) : Int := ofv (hdw p 0 0)
def ipb (p : Pk) : List Int := hdw p (ipc p / 256) (ipc p % 256) ++ p.body
def ipOut (p : Pk) : List Int := if ipbErr p = 0 then ipb p else []

theorem hdw_len (p : Pk) (x y : Int) : (hdw p x y).length = 20 + p.opts.length := by simp [hdw]; omega
theorem ipb_len (p : Pk) : (ipb p).length = 20 + p.opts.length + p.body.length := by simp [ipb, hdw_len]
theorem ipc_range (p : Pk) : 0 ≤ ipc p ∧ ipc p ≤ 65535 := ofv_range _

structure Fits (p : Pk) : Prop where
  o4 : p.opts.length % 4 = 0
  o40 : p.opts.length ≤ 40
  flags : p.flags ≤ 7
  off : p.off ≤ 8191
  n : 20 + p.opts.length + p.body.length ≤ 65535
theorem fits_iff (p : Pk) : ipbErr p = 0 ↔ Fits p := by
  unfold ipbErr
  constructor
  · intro h
    split at h
    · omega
    · split at h
      · omega
      · constructor <;> omega
  · intro ⟨a, b, c, d, e⟩
    rw [if_neg (by omega), if_neg (by omega)]

theorem hdw_bytes {p : Pk} (h : p.Ok) (f : Fits p) {x y : Int} (hx : 0 ≤ x ∧ x ≤ 255) (hy : 0 ≤ y ∧ y ≤ 255) : IsBytes (hdw p x y) := by
  obtain ⟨h1, h2, h3, h4, h5, h6, h7, h8, h9, h10⟩ := h
  obtain ⟨f1, f2, f3, f4, f5⟩ := f
  unfold hdw
  repeat (refine bytes_cons ⟨by omega, by omega⟩ ?_)
  exact h9
theorem ipb_bytes {p : Pk} (h : p.Ok) (f : Fits p) : IsBytes (ipb p) := by
  have := ipc_range p
  exact bytes_append (hdw_bytes h f (by omega) (by omega)) h.body

theorem ipb_get (p : Pk) (r : List Int) (i : Nat) (hi : i < 20) : (ipb p ++ r).getD i 0 = (hdw p (ipc p / 256) (ipc p % 256)).getD i 0 := by
  unfold ipb
  rw [List.append_assoc, getD_append, if_pos (by rw [hdw_len]; omega)]

theorem ipb_hdl {p : Pk} (f : Fits p) (r : List Int) : hdl (ipb p ++ r) = 20 + p.opts.length := by
  obtain ⟨f1, f2, f3, f4, f5⟩ := f
  unfold hdl
  rw [ipb_get p r 0 (by omega)]
  show 4 * ((64 + ((20 + p.opts.length : Nat) : Int) / 4) % 16).toNat = _
  omega
theorem ipb_whl {p : Pk} (f : Fits p) (r : List Int) : whl (ipb p ++ r) = 20 + p.opts.length + p.body.length := by
  obtain ⟨f1, f2, f3, f4, f5⟩ := f
  unfold whl w16
  rw [ipb_get p r 2 (by omega), ipb_get p r 3 (by omega)]
  show (((20 + p.opts.length + p.body.length : Nat) : Int) / 256 * 256 + ((20 + p.opts.length + p.body.length : Nat) : Int) % 256).toNat = _
  omega
theorem ipb_head (p : Pk) (r : List Int) : (ipb p ++ r).take (20 + p.opts.length) = hdw p (ipc p / 256) (ipc p % 256) := by
  unfold ipb
  rw [List.append_assoc, List.take_append_of_le_length (by rw [hdw_len]; exact Nat.le_refl _), List.take_of_length_le (by rw [hdw_len]; exact Nat.le_refl _)]

theorem hdw_stands {p : Pk} (h : p.Ok) (f : Fits p) : foldv (tot (hdw p (ipc p / 256) (ipc p % 256)) (cnt (20 + p.opts.length))) = 65535 := by
  have hb := hdw_bytes h f (x := 0) (y := 0) (by omega) (by omega)
  have := ipc_range p
  have hs := stands hb 5 (by rw [hdw_len]; omega)
  have e1 : setw (hdw p 0 0) 5 0 0 = hdw p 0 0 := rfl
  have e2 : setw (hdw p 0 0) 5 (ipc p / 256) (ipc p % 256) = hdw p (ipc p / 256) (ipc p % 256) := rfl
  have e3 : ofv (hdw p 0 0) = ipc p := rfl
  rw [e1, e3, e2, hdw_len, foldv_acc (hdw_bytes h f (by omega) (by omega)) 0 (by omega) (by omega), Int.zero_add] at hs
  exact hs

theorem back_err {p : Pk} (h : p.Ok) (f : Fits p) (r : List Int) : ipErr (ipb p ++ r) = 0 := by
  have hl : (ipb p ++ r).length = 20 + p.opts.length + p.body.length + r.length := by rw [List.length_append, ipb_len]
  have hv : (ipb p ++ r).getD 0 0 / 16 = 4 := by
    rw [ipb_get p r 0 (by omega)]
    obtain ⟨f1, f2, f3, f4, f5⟩ := f
    show (64 + ((20 + p.opts.length : Nat) : Int) / 4) / 16 = 4
    omega
  unfold ipErr
  rw [ipb_hdl f, ipb_whl f, ipb_head, hdw_stands h f, hl, hv, if_neg (by omega), if_neg (by omega), if_neg (by omega), if_neg (by omega)]

theorem back_pk {p : Pk} (h : p.Ok) (f : Fits p) (r : List Int) : ipPk (ipb p ++ r) = p := by
  have e1 : ((ipb p ++ r).drop 20).take (hdl (ipb p ++ r) - 20) = p.opts := by
    rw [ipb_hdl f]
    have : (ipb p ++ r).drop 20 = p.opts ++ (p.body ++ r) := by
      unfold ipb; rw [List.append_assoc, List.drop_append_of_le_length (by rw [hdw_len]; omega)]; rfl
    rw [this, Nat.add_sub_cancel_left, List.take_append_of_le_length (Nat.le_refl _), List.take_of_length_le (Nat.le_refl _)]
  have e2 : ((ipb p ++ r).drop (hdl (ipb p ++ r))).take (whl (ipb p ++ r) - hdl (ipb p ++ r)) = p.body := by
    rw [ipb_hdl f, ipb_whl f, Nat.add_sub_cancel_left]
    have : (ipb p ++ r).drop (20 + p.opts.length) = p.body ++ r := by
      unfold ipb; rw [List.append_assoc]
      exact List.drop_left' (hdw_len ..)
    rw [this, List.take_append_of_le_length (Nat.le_refl _), List.take_of_length_le (Nat.le_refl _)]
  unfold ipPk
  rw [e1, e2]
  unfold w32 w16
  rw [ipb_get p r 1 (by omega), ipb_get p r 8 (by omega), ipb_get p r 9 (by omega), ipb_get p r 4 (by omega), ipb_get p r (4 + 1) (by omega), ipb_get p r 6 (by omega), ipb_get p r (6 + 1) (by omega),
    ipb_get p r 12 (by omega), ipb_get p r (12 + 1) (by omega), ipb_get p r (12 + 2) (by omega), ipb_get p r (12 + 2 + 1) (by omega), ipb_get p r 16 (by omega), ipb_get p r (16 + 1) (by omega), ipb_get p r (16 + 2) (by omega), ipb_get p r (16 + 2 + 1) (by omega)]
  obtain ⟨h1, h2, h3, h4, h5, h6, h7, h8, h9, h10⟩ := h
  obtain ⟨f1, f2, f3, f4, f5⟩ := f
  obtain ⟨tos, ttl, proto, id, flags, off, src, dst, opts, body⟩ := p
  simp only at h4 h5 h6 h7 h8 f3 f4
  simp only [hdw, List.getD_cons_zero, List.getD_cons_succ, Pk.mk.injEq, and_true, true_and]
  refine ⟨?_, ?_, ?_, ?_, ?_⟩ <;> omega

theorem back_res {p : Pk} (h : p.Ok) (f : Fits p) (r : List Int) : ipRes (ipb p ++ r) = p := by
  unfold ipRes; rw [if_pos (back_err h f r), back_pk h f r]

/-- A packet that is cut off. -/
theorem cut_err {p : Pk} (h : p.Ok) (f : Fits p) (k : Nat) (hk : k < (ipb p).length) : ipErr ((ipb p).take k) = 20 := by
  have e0 := back_err h f []
  rw [List.append_nil] at e0
  have hh := ipb_hdl f []
  have hw := ipb_whl f []
  rw [List.append_nil] at hh hw
  rw [ipb_len] at hk
  have hl : ((ipb p).take k).length = k := by rw [List.length_take, ipb_len]; omega
  unfold ipErr
  rw [hl]
  by_cases hk20 : k < 20
  · rw [if_pos hk20]
  · rw [if_neg hk20]
    have g : ∀ i, i < 20 → ((ipb p).take k).getD i 0 = (ipb p).getD i 0 := fun i hi => by simp [List.getD, show i < k by omega]
    have eh : hdl ((ipb p).take k) = hdl (ipb p) := by unfold hdl; rw [g 0 (by omega)]
    have ew : whl ((ipb p).take k) = whl (ipb p) := by unfold whl w16; rw [g 2 (by omega), g (2 + 1) (by omega)]
    rw [eh, ew, g 0 (by omega), hh, hw]
    unfold ipErr at e0
    rw [hh, hw, ipb_len] at e0
    rw [if_neg (by omega)] at e0
    split at e0
    · omega
    · rename_i hc
      rw [if_neg hc, if_pos (by omega)]

theorem tot_set1 (l : List Int) (j k : Nat) (x : Int) (hj : j < l.length) (hjk : j < 2 * k) : tot (l.set j x) k = tot l k + (x - l.getD j 0) * (if j % 2 = 0 then 256 else 1) := by
  induction k with
  | zero => omega
  | succ k ih =>
    rw [tot_succ, tot_succ]
    unfold wd
    rw [getD_set _ _ _ _ hj, getD_set _ _ _ _ hj]
    by_cases c : j < 2 * k
    · have d1 : ¬ 2 * k = j := by omega
      have d2 : ¬ 2 * k + 1 = j := by omega
      rw [ih c, if_neg d1, if_neg d2]
      generalize (x - l.getD j 0) * (if j % 2 = 0 then 256 else 1) = z
      omega
    · have : tot (l.set j x) k = tot l k := tot_same k (fun i hi => by
        unfold wd; rw [getD_set _ _ _ _ hj, getD_set _ _ _ _ hj, if_neg (by omega), if_neg (by omega)])
      rw [this]
      by_cases e : j = 2 * k
      · subst e; rw [if_pos rfl, if_neg (by omega), if_pos (by omega)]; omega
      · have e' : j = 2 * k + 1 := by omega
        subst e'; rw [if_neg (by omega), if_pos rfl, if_neg (by omega)]; omega

theorem take_set_of_lt (l : List Int) (j n : Nat) (x : Int) (h : j < n) : (l.set j x).take n = (l.take n).set j x := by
  rw [List.take_set]

/-- One byte of a header, but for its first, that is another. -/
theorem bit_err {l : List Int} (hb : IsBytes l) (h0 : ipErr l = 0) (j : Nat) (hj0 : j ≠ 0) (hj : j < hdl l) (x : Int) (hx : 0 ≤ x ∧ x ≤ 255) (hne : x ≠ l.getD j 0) : ipErr (l.set j x) ≠ 0 := by
  intro h1
  have hbj := hb j
  have hjl : j < l.length := by
    unfold ipErr at h0
    repeat (first | omega | split at h0)
  have e0 : (l.set j x).getD 0 0 = l.getD 0 0 := by rw [getD_set _ _ _ _ hjl, if_neg (by omega)]
  have eh : hdl (l.set j x) = hdl l := by unfold hdl; rw [e0]
  have s0 : foldv (tot (l.take (hdl l)) (cnt (hdl l))) = 65535 := by
    unfold ipErr at h0
    repeat (first | omega | split at h0)
  have s1 : foldv (tot ((l.set j x).take (hdl l)) (cnt (hdl l))) = 65535 := by
    unfold ipErr at h1
    rw [eh] at h1
    repeat (first | omega | split at h1)
  have hjt : j < (l.take (hdl l)).length := by rw [List.length_take]; omega
  have hg : (l.take (hdl l)).getD j 0 = l.getD j 0 := by simp [List.getD, hj]
  rw [take_set_of_lt _ _ _ _ hj, tot_set1 _ _ _ _ hjt (by unfold cnt; omega), hg] at s1
  generalize tot (l.take (hdl l)) (cnt (hdl l)) = T at s0 s1
  generalize l.getD j 0 = y at *
  unfold foldv at s0 s1
  by_cases c : j % 2 = 0
  · rw [if_pos c] at s1
    split at s0 <;> split at s1 <;> omega
  · rw [if_neg c] at s1
    split at s0 <;> split at s1 <;> omega
end Sm
end Go.Proofs.YtjalpbkfpjfigaaGreat

namespace Go.Proofs.YtjalpbkfpjfigaaGreat
open Sm
namespace Sm
set_option linter.unusedVariables false

structure Dg where
  src : Int
  dst : Int
  sum : Int
  body : List Int
def Dg.zero : Dg := ⟨0, 0, 0, []⟩
structure Dg.Ok (u : Dg) : Prop where
  src : 0 ≤ u.src ∧ u.src ≤ 65535
  dst : 0 ≤ u.dst ∧ u.dst ≤ 65535
  sum : 0 ≤ u.sum ∧ u.sum ≤ 65535
  body : IsBytes u.body

/-- The length that it tells. -/
def ulen (l : List Int) : Nat := (w16 l 4).toNat
/-- What P4.1 answers. -/
def udErr (l : List Int) : Int := if l.length < 8 then 20 else if ulen l < 8 then 21 else if l.length < ulen l then 20 else 0
def udDg (l : List Int) : Dg := ⟨w16 l 0, w16 l 2, w16 l 6, (l.drop 8).take (ulen l - 8)⟩
def udRes (l : List Int) : Dg := if udErr l = 0 then udDg l else Dg.zero
def udbErr (u : Dg) : Int := if 65527 < u.body.length then 23 else 0
/-- The first eight bytes. -/
def ud8 (n : Nat) (s d c : Int) : List Int := [s / 256, s % 256, d / 256, d % 256, (n : Int) / 256, (n : Int) % 256, c / 256, c % 256]
def udb (u : Dg) : List Int := ud8 (8 + u.body.length) u.src u.dst u.sum ++ u.body
def udOut (u : Dg) : List Int := if udbErr u = 0 then udb u else []

theorem udb_len (u : Dg) : (udb u).length = 8 + u.body.length := by simp [udb, ud8]; omega
theorem udb_bytes {u : Dg} (h : u.Ok) (hn : u.body.length ≤ 65527) : IsBytes (udb u) := by
  obtain ⟨h1, h2, h3, h4⟩ := h
  unfold udb ud8
  simp only [List.cons_append, List.nil_append]
  iterate 8 (refine bytes_cons ⟨by omega, by omega⟩ ?_)
  exact h4
theorem udbErr_zero (u : Dg) : udbErr u = 0 ↔ u.body.length ≤ 65527 := by unfold udbErr; split <;> omega
theorem udOut_facts {u : Dg} (h : u.Ok) : IsBytes (udOut u) ∧ (udOut u).length ≤ 65535 := by
  unfold udOut
  by_cases e : udbErr u = 0
  · rw [if_pos e]; have := (udbErr_zero u).mp e; exact ⟨udb_bytes h this, by rw [udb_len]; omega⟩
  · rw [if_neg e]; exact ⟨bytes_nil, by simp⟩
theorem udRes_ok {l : List Int} (h : IsBytes l) : (udRes l).Ok := by
  unfold udRes
  split
  · exact ⟨w16_range h 0, w16_range h 2, w16_range h 6, bytes_part h _ _⟩
  · exact ⟨by decide, by decide, by decide, bytes_nil⟩

theorem back_ulen (u : Dg) (hn : u.body.length ≤ 65527) : ulen (udb u) = 8 + u.body.length := by
  unfold ulen w16 udb ud8
  simp only [List.cons_append, List.nil_append, List.getD_cons_zero, List.getD_cons_succ]
  omega
theorem back_uerr (u : Dg) (hn : u.body.length ≤ 65527) : udErr (udb u) = 0 := by
  unfold udErr
  rw [back_ulen u hn, udb_len, if_neg (by omega), if_neg (by omega), if_neg (by omega)]
theorem back_ures {u : Dg} (h : u.Ok) (hn : u.body.length ≤ 65527) : udRes (udb u) = u := by
  unfold udRes
  rw [if_pos (back_uerr u hn)]
  unfold udDg
  rw [back_ulen u hn]
  obtain ⟨h1, h2, h3, h4⟩ := h
  obtain ⟨s, d, c, b⟩ := u
  simp only at h1 h2 h3
  have e : ((udb ⟨s, d, c, b⟩).drop 8).take (8 + b.length - 8) = b := by
    have : (udb ⟨s, d, c, b⟩).drop 8 = b := rfl
    rw [this, Nat.add_sub_cancel_left]; exact List.take_of_length_le (Nat.le_refl _)
  rw [e]
  unfold w16 udb ud8
  simp only [List.cons_append, List.nil_append, List.getD_cons_zero, List.getD_cons_succ, Dg.mk.injEq, and_true]
  omega

/-! ### Checksums. -/
/-- All words, with the pseudo ones, folded. -/
def utot (s d : Int) (u : Dg) : Int := foldv (acc (udb u) (psv s d 17 (8 + u.body.length : Nat)) (cnt (8 + u.body.length)))
def Dg.at (u : Dg) (c : Int) : Dg := ⟨u.src, u.dst, c, u.body⟩
/-- What P4.2 answers. -/
def usum (s d : Int) (u : Dg) : Int := if udbErr u ≠ 0 then 0 else if utot s d (u.at 0) = 65535 then 65535 else 65535 - utot s d (u.at 0)
def uright (s d : Int) (u : Dg) : Bool := decide (u.sum = 0) || (decide (udbErr u = 0) && decide (utot s d u = 65535))

theorem psv_range (s d p n : Int) (h0 : 0 ≤ s) (h1 : 0 ≤ d) (h2 : 1 ≤ p) : 1 ≤ psv s d p n ∧ psv s d p n ≤ 65535 := by
  unfold psv foldv
  rw [if_neg (by omega)]
  omega
theorem utot_range (s d : Int) (u : Dg) : 0 ≤ utot s d u ∧ utot s d u ≤ 65535 := foldv_range _
theorem udErr_at (u : Dg) (c : Int) : udbErr (u.at c) = udbErr u := rfl
theorem Dg.Ok.at {u : Dg} (h : u.Ok) {c : Int} (h0 : 0 ≤ c) (h1 : c ≤ 65535) : (u.at c).Ok := ⟨h.src, h.dst, ⟨h0, h1⟩, h.body⟩

theorem utot_at {u : Dg} (h : u.Ok) (hn : u.body.length ≤ 65527) (s d : Int) (hs : 0 ≤ s) (hd : 0 ≤ d) : ∃ P : Int, 1 ≤ P ∧ ∀ c, 0 ≤ c → c ≤ 65535 → utot s d (u.at c) = foldv (P + c) := by
  have hp := psv_range s d 17 (8 + u.body.length : Nat) hs hd (by omega)
  have hb0 := udb_bytes (h.at (c := 0) (by omega) (by omega)) hn
  have ht := tot_nonneg hb0 (cnt (8 + u.body.length))
  refine ⟨psv s d 17 (8 + u.body.length : Nat) + tot (udb (u.at 0)) (cnt (8 + u.body.length)), by omega, fun c c0 c1 => ?_⟩
  have hb := udb_bytes (h.at c0 c1) hn
  have e : udb (u.at c) = setw (udb (u.at 0)) 3 (c / 256) (c % 256) := rfl
  have hl : 2 * 3 + 1 < (udb (u.at 0)).length := by rw [udb_len]; omega
  have hk : 3 < cnt (8 + u.body.length) := by unfold cnt; omega
  have hw : wd (udb (u.at 0)) 3 = 0 := rfl
  show foldv (acc (udb (u.at c)) (psv s d 17 (8 + u.body.length : Nat)) (cnt (8 + u.body.length))) = _
  rw [foldv_acc hb _ (by omega) (by omega), e, tot_setw _ _ _ _ _ hl, if_pos hk, hw]
  congr 1
  omega

theorem usum_range (s d : Int) (u : Dg) : 0 ≤ usum s d u ∧ usum s d u ≤ 65535 := by
  have := utot_range s d (u.at 0)
  unfold usum
  split
  · omega
  · split <;> omega
theorem usum_some {u : Dg} (hn : u.body.length ≤ 65527) (s d : Int) : usum s d u ≠ 0 := by
  have := utot_range s d (u.at 0)
  have e := (udbErr_zero u).mpr hn
  unfold usum
  rw [if_neg (by omega)]
  split <;> omega
/-- One with its own checksum is right, with any other not, but for none. -/
theorem uright_at {u : Dg} (h : u.Ok) (hn : u.body.length ≤ 65527) (s d : Int) (hs : 0 ≤ s) (hd : 0 ≤ d) (c : Int) (c0 : 0 ≤ c) (c1 : c ≤ 65535) :
    uright s d (u.at c) = (decide (c = usum s d u) || decide (c = 0)) := by
  obtain ⟨P, hP, hu⟩ := utot_at h hn s d hs hd
  have e := (udbErr_zero u).mpr hn
  have e0 := hu 0 (by omega) (by omega)
  unfold uright
  rw [udErr_at, e, hu c c0 c1]
  unfold usum
  rw [if_neg (by omega), e0, Int.add_zero]
  have key : (foldv (P + c) = 65535 ∧ c ≠ 0) ↔ (c = (if foldv P = 65535 then 65535 else 65535 - foldv P) ∧ c ≠ 0) := by
    have a1 : ¬ P + c = 0 := by omega
    have a2 : ¬ P = 0 := by omega
    unfold foldv
    simp only [if_neg a1, if_neg a2]
    split <;> constructor <;> intro h <;> omega
  have q : (u.at c).sum = c := rfl
  rw [q]
  by_cases z : c = 0
  · simp [z]
  · by_cases f : foldv (P + c) = 65535
    · have := (key.mp ⟨f, z⟩).1
      simp [z, f, ← this]
    · have : ¬ c = (if foldv P = 65535 then 65535 else 65535 - foldv P) := fun x => f (key.mpr ⟨x, z⟩).1
      simp [z, f, this]
end Sm
end Go.Proofs.YtjalpbkfpjfigaaGreat

namespace Go.Proofs.YtjalpbkfpjfigaaGreat
open Go.ChangeShapes Go.WideShapes Go.ChangeAt Go.RowKit Go.Joins
open Sm
set_option linter.unusedVariables false

theorem array5 {α : Type} {cs : Array α} (h : cs.size = 5) : ∃ c0 c1 c2 c3 c4, cs = #[c0, c1, c2, c3, c4] := by
  obtain ⟨l⟩ := cs
  simp only [List.size_toArray] at h
  rcases l with _ | ⟨c0, l⟩
  · simp at h
  rcases l with _ | ⟨c1, l⟩
  · simp at h
  rcases l with _ | ⟨c2, l⟩
  · simp at h
  rcases l with _ | ⟨c3, l⟩
  · simp at h
  rcases l with _ | ⟨c4, l⟩
  · simp at h
  rcases l with _ | ⟨c5, l⟩
  · exact ⟨c0, c1, c2, c3, c4, rfl⟩
  · simp at h

theorem array10 {α : Type} {cs : Array α} (h : cs.size = 10) : ∃ c0 c1 c2 c3 c4 c5 c6 c7 c8 c9, cs = #[c0, c1, c2, c3, c4, c5, c6, c7, c8, c9] := by
  obtain ⟨l⟩ := cs
  simp only [List.size_toArray] at h
  rcases l with _ | ⟨c0, l⟩
  · simp at h
  rcases l with _ | ⟨c1, l⟩
  · simp at h
  rcases l with _ | ⟨c2, l⟩
  · simp at h
  rcases l with _ | ⟨c3, l⟩
  · simp at h
  rcases l with _ | ⟨c4, l⟩
  · simp at h
  rcases l with _ | ⟨c5, l⟩
  · simp at h
  rcases l with _ | ⟨c6, l⟩
  · simp at h
  rcases l with _ | ⟨c7, l⟩
  · simp at h
  rcases l with _ | ⟨c8, l⟩
  · simp at h
  rcases l with _ | ⟨c9, l⟩
  · simp at h
  rcases l with _ | ⟨c10, l⟩
  · exact ⟨c0, c1, c2, c3, c4, c5, c6, c7, c8, c9, rfl⟩
  · simp at h

section
variable {H : Type} {enc : TypeId × Value → H} {W : World} {base : Nat} {held : Bool}

theorem trod_struct5 {t : TypeId} {f0 f1 f2 f3 f4 : Field} {fuel : Nat} {cs : List Value} {x : DataW H × List MemPlace} (ht : Tryz.prog.underlying t = some (.struct #[f0, f1, f2, f3, f4])) (h : DataW.trod enc Tryz.prog W base (fun _ => true) held fuel t cs = some x) :
    ∃ y0 y1 y2 y3 y4 n, DataW.trod enc Tryz.prog W base (fun _ => true) held n f0.type ((cs.drop f0.offset).take (Tryz.prog.cellsOf f0.type)) = some y0 ∧ DataW.trod enc Tryz.prog W base (fun _ => true) held n f1.type ((cs.drop f1.offset).take (Tryz.prog.cellsOf f1.type)) = some y1 ∧ DataW.trod enc Tryz.prog W base (fun _ => true) held n f2.type ((cs.drop f2.offset).take (Tryz.prog.cellsOf f2.type)) = some y2 ∧ DataW.trod enc Tryz.prog W base (fun _ => true) held n f3.type ((cs.drop f3.offset).take (Tryz.prog.cellsOf f3.type)) = some y3 ∧ DataW.trod enc Tryz.prog W base (fun _ => true) held n f4.type ((cs.drop f4.offset).take (Tryz.prog.cellsOf f4.type)) = some y4 := by
  obtain ⟨xs, n, _, _, hl, hlen, hf⟩ := DataW.trod_struct ht h
  match xs, hlen with
  | [y0, y1, y2, y3, y4], _ => exact ⟨y0, y1, y2, y3, y4, n, by simpa using hf 0 f0 rfl, by simpa using hf 1 f1 rfl, by simpa using hf 2 f2 rfl, by simpa using hf 3 f3 rfl, by simpa using hf 4 f4 rfl⟩

theorem trod_struct10 {t : TypeId} {f0 f1 f2 f3 f4 f5 f6 f7 f8 f9 : Field} {fuel : Nat} {cs : List Value} {x : DataW H × List MemPlace} (ht : Tryz.prog.underlying t = some (.struct #[f0, f1, f2, f3, f4, f5, f6, f7, f8, f9])) (h : DataW.trod enc Tryz.prog W base (fun _ => true) held fuel t cs = some x) :
    ∃ y0 y1 y2 y3 y4 y5 y6 y7 y8 y9 n, DataW.trod enc Tryz.prog W base (fun _ => true) held n f0.type ((cs.drop f0.offset).take (Tryz.prog.cellsOf f0.type)) = some y0 ∧ DataW.trod enc Tryz.prog W base (fun _ => true) held n f1.type ((cs.drop f1.offset).take (Tryz.prog.cellsOf f1.type)) = some y1 ∧ DataW.trod enc Tryz.prog W base (fun _ => true) held n f2.type ((cs.drop f2.offset).take (Tryz.prog.cellsOf f2.type)) = some y2 ∧ DataW.trod enc Tryz.prog W base (fun _ => true) held n f3.type ((cs.drop f3.offset).take (Tryz.prog.cellsOf f3.type)) = some y3 ∧ DataW.trod enc Tryz.prog W base (fun _ => true) held n f4.type ((cs.drop f4.offset).take (Tryz.prog.cellsOf f4.type)) = some y4 ∧ DataW.trod enc Tryz.prog W base (fun _ => true) held n f5.type ((cs.drop f5.offset).take (Tryz.prog.cellsOf f5.type)) = some y5 ∧ DataW.trod enc Tryz.prog W base (fun _ => true) held n f6.type ((cs.drop f6.offset).take (Tryz.prog.cellsOf f6.type)) = some y6 ∧ DataW.trod enc Tryz.prog W base (fun _ => true) held n f7.type ((cs.drop f7.offset).take (Tryz.prog.cellsOf f7.type)) = some y7 ∧ DataW.trod enc Tryz.prog W base (fun _ => true) held n f8.type ((cs.drop f8.offset).take (Tryz.prog.cellsOf f8.type)) = some y8 ∧ DataW.trod enc Tryz.prog W base (fun _ => true) held n f9.type ((cs.drop f9.offset).take (Tryz.prog.cellsOf f9.type)) = some y9 := by
  obtain ⟨xs, n, _, _, hl, hlen, hf⟩ := DataW.trod_struct ht h
  match xs, hlen with
  | [y0, y1, y2, y3, y4, y5, y6, y7, y8, y9], _ => exact ⟨y0, y1, y2, y3, y4, y5, y6, y7, y8, y9, n, by simpa using hf 0 f0 rfl, by simpa using hf 1 f1 rfl, by simpa using hf 2 f2 rfl, by simpa using hf 3 f3 rfl, by simpa using hf 4 f4 rfl, by simpa using hf 5 f5 rfl, by simpa using hf 6 f6 rfl, by simpa using hf 7 f7 rfl, by simpa using hf 8 f8 rfl, by simpa using hf 9 f9 rfl⟩
end
end Go.Proofs.YtjalpbkfpjfigaaGreat

