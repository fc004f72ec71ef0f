/-
  Packets of version 4 as lists of numbers: what bytes read as, what a packet is written as, and that each is the other's inverse.
  Messages as lists of numbers: what bytes read as, what a message is written as, its checksum and whether it is right; each is the other's inverse.
  Of no one layer: what the document's own lychref1.Get16, Get32, cut, Put32 answer, over blocks of the call's own.
-/
import Derived.Test.YtjalpbkfpjfigabM06
import Derived.Test.YtjalpbkfpjfigabM05
namespace Go.Proofs.Ytjalpbkfpjfigab
open Sm
namespace Sm
set_option linter.unusedVariables false

structure Pk where
  tos : Int
  ttl : Int
  proto : Int
  id : Int
  flags : Int
  off : Int
  src : Int
  dst : Int
  opts : List Int
  body : List Int

def Pk.zero : Pk := ⟨0, 0, 0, 0, 0, 0, 0, 0, [], []⟩

/-- The header's length, and the whole one. -/
def hdl (l : List Int) : Nat := 4 * (l.getD 0 0 % 16).toNat
def whl (l : List Int) : Nat := (w16 l 2).toNat

/-- What P3.1 answers. -/
def ipErr (l : List Int) : Int :=
  if l.length < 20 then 20
  else if ¬ (l.getD 0 0 / 16 = 4 ∧ 20 ≤ hdl l ∧ hdl l ≤ whl l) then 21
  else if l.length < hdl l ∨ l.length < whl l then 20
  else if foldv (tot (l.take (hdl l)) (cnt (hdl l))) ≠ 65535 then 22
  else 0
def ipPk (l : List Int) : Pk :=
  ⟨l.getD 1 0, l.getD 8 0, l.getD 9 0, w16 l 4, w16 l 6 / 8192, w16 l 6 % 8192, w32 l 12, w32 l 16, (l.drop 20).take (hdl l - 20), (l.drop (hdl l)).take (whl l - hdl l)⟩
def ipRes (l : List Int) : Pk := if ipErr l = 0 then ipPk l else Pk.zero

structure Pk.Ok (p : Pk) : Prop where
  tos : 0 ≤ p.tos ∧ p.tos ≤ 255
  ttl : 0 ≤ p.ttl ∧ p.ttl ≤ 255
  proto : 0 ≤ p.proto ∧ p.proto ≤ 255
  id : 0 ≤ p.id ∧ p.id ≤ 65535
  flags : 0 ≤ p.flags ∧ p.flags ≤ 255
  off : 0 ≤ p.off ∧ p.off ≤ 65535
  src : 0 ≤ p.src ∧ p.src ≤ 4294967295
  dst : 0 ≤ p.dst ∧ p.dst ≤ 4294967295
  opts : IsBytes p.opts
  body : IsBytes p.body

/-- What P3.2 answers. -/
def ipbErr (p : Pk) : Int :=
  if p.opts.length % 4 ≠ 0 ∨ 40 < p.opts.length ∨ 7 < p.flags ∨ 8191 < p.off then 21
  else if 65535 < 20 + p.opts.length + p.body.length then 23
  else 0
def hdw (p : Pk) (x y : Int) : List Int :=
  (64 + ((20 + p.opts.length : Nat) : Int) / 4) :: p.tos :: ((20 + p.opts.length + p.body.length : Nat) : Int) / 256 :: ((20 + p.opts.length + p.body.length : Nat) : Int) % 256 :: p.id / 256 :: p.id % 256 ::
  (p.flags * 8192 + p.off) / 256 :: (p.flags * 8192 + p.off) % 256 :: p.ttl :: p.proto :: x :: y ::
  p.src / 16777216 :: p.src / 65536 % 256 :: p.src / 256 % 256 :: p.src % 256 :: p.dst / 16777216 :: p.dst / 65536 % 256 :: p.dst / 256 % 256 :: p.dst % 256 :: p.opts
def ipc (p : Pk) : Int := ofv (hdw p 0 0)
def ipb (p : Pk) : List Int := hdw p (ipc p / 256) (ipc p % 256) ++ p.body
def ipOut (p : Pk) : List Int := if ipbErr p = 0 then ipb p else []

theorem hdw_len (p : Pk) (x y : Int) : (hdw p x y).length = 20 + p.opts.length := by simp [hdw]; omega
theorem ipb_len (p : Pk) : (ipb p).length = 20 + p.opts.length + p.body.length := by simp [ipb, hdw_len]
theorem ipc_range (p : Pk) : 0 ≤ ipc p ∧ ipc p ≤ 65535 := ofv_range _

structure Fits (p : Pk) : Prop where
  o4 : p.opts.length % 4 = 0
  o40 : p.opts.length ≤ 40
  flags : p.flags ≤ 7
  off : p.off ≤ 8191
  n : 20 + p.opts.length + p.body.length ≤ 65535
theorem fits_iff (p : Pk) : ipbErr p = 0 ↔ Fits p := by
  unfold ipbErr
  constructor
  · intro h
    split at h
    · omega
    · split at h
      · omega
      · constructor <;> omega
  · intro ⟨a, b, c, d, e⟩
    rw [if_neg (by omega), if_neg (by omega)]

theorem hdw_bytes {p : Pk} (h : p.Ok) (f : Fits p) {x y : Int} (hx : 0 ≤ x ∧ x ≤ 255) (hy : 0 ≤ y ∧ y ≤ 255) : IsBytes (hdw p x y) := by
  obtain ⟨h1, h2, h3, h4, h5, h6, h7, h8, h9, h10⟩ := h
  obtain ⟨f1, f2, f3, f4, f5⟩ := f
  unfold hdw
  repeat (refine bytes_cons ⟨by omega, by omega⟩ ?_)
  exact h9
theorem ipb_bytes {p : Pk} (h : p.Ok) (f : Fits p) : IsBytes (ipb p) := by
  have := ipc_range p
  exact bytes_append (hdw_bytes h f (by omega) (by omega)) h.body

theorem ipb_get (p : Pk) (r : List Int) (i : Nat) (hi : i < 20) : (ipb p ++ r).getD i 0 = (hdw p (ipc p / 256) (ipc p % 256)).getD i 0 := by
  unfold ipb
  rw [List.append_assoc, getD_append, if_pos (by rw [hdw_len]; omega)]

theorem ipb_hdl {p : Pk} (f : Fits p) (r : List Int) : hdl (ipb p ++ r) = 20 + p.opts.length := by
  obtain ⟨f1, f2, f3, f4, f5⟩ := f
  unfold hdl
  rw [ipb_get p r 0 (by omega)]
  show 4 * ((64 + ((20 + p.opts.length : Nat) : Int) / 4) % 16).toNat = _
  omega
theorem ipb_whl {p : Pk} (f : Fits p) (r : List Int) : whl (ipb p ++ r) = 20 + p.opts.length + p.body.length := by
  obtain ⟨f1, f2, f3, f4, f5⟩ := f
  unfold whl w16
  rw [ipb_get p r 2 (by omega), ipb_get p r 3 (by omega)]
  show (((20 + p.opts.length + p.body.length : Nat) : Int) / 256 * 256 + ((20 + p.opts.length + p.body.length : Nat) : Int) % 256).toNat = _
  omega
theorem ipb_head (p : Pk) (r : List Int) : (ipb p ++ r).take (20 + p.opts.length) = hdw p (ipc p / 256) (ipc p % 256) := by
  unfold ipb
  rw [List.append_assoc, List.take_append_of_le_length (by rw [hdw_len]; exact Nat.le_refl _), List.take_of_length_le (by rw [hdw_len]; exact Nat.le_refl _)]

theorem hdw_stands {p : Pk} (h : p.Ok) (f : Fits p) : foldv (tot (hdw p (ipc p / 256) (ipc p % 256)) (cnt (20 + p.opts.length))) = 65535 := by
  have hb := hdw_bytes h f (x := 0) (y := 0) (by omega) (by omega)
  have := ipc_range p
  have hs := stands hb 5 (by rw [hdw_len]; omega)
  have e1 : setw (hdw p 0 0) 5 0 0 = hdw p 0 0 := rfl
  have e2 : setw (hdw p 0 0) 5 (ipc p / 256) (ipc p % 256) = hdw p (ipc p / 256) (ipc p % 256) := rfl
  have e3 : ofv (hdw p 0 0) = ipc p := rfl
  rw [e1, e3, e2, hdw_len, foldv_acc (hdw_bytes h f (by omega) (by omega)) 0 (by omega) (by omega), Int.zero_add] at hs
  exact hs

theorem back_err {p : Pk} (h : p.Ok) (f : Fits p) (r : List Int) : ipErr (ipb p ++ r) = 0 := by
  have hl : (ipb p ++ r).length = 20 + p.opts.length + p.body.length + r.length := by rw [List.length_append, ipb_len]
  have hv : (ipb p ++ r).getD 0 0 / 16 = 4 := by
    rw [ipb_get p r 0 (by omega)]
    obtain ⟨f1, f2, f3, f4, f5⟩ := f
    show (64 + ((20 + p.opts.length : Nat) : Int) / 4) / 16 = 4
    omega
  unfold ipErr
  rw [ipb_hdl f, ipb_whl f, ipb_head, hdw_stands h f, hl, hv, if_neg (by omega), if_neg (by omega), if_neg (by omega), if_neg (by omega)]

theorem back_pk {p : Pk} (h : p.Ok) (f : Fits p) (r : List Int) : ipPk (ipb p ++ r) = p := by
  have e1 : ((ipb p ++ r).drop 20).take (hdl (ipb p ++ r) - 20) = p.opts := by
    rw [ipb_hdl f]
    have : (ipb p ++ r).drop 20 = p.opts ++ (p.body ++ r) := by
      unfold ipb; rw [List.append_assoc, List.drop_append_of_le_length (by rw [hdw_len]; omega)]; rfl
    rw [this, Nat.add_sub_cancel_left, List.take_append_of_le_length (Nat.le_refl _), List.take_of_length_le (Nat.le_refl _)]
  have e2 : ((ipb p ++ r).drop (hdl (ipb p ++ r))).take (whl (ipb p ++ r) - hdl (ipb p ++ r)) = p.body := by
    rw [ipb_hdl f, ipb_whl f, Nat.add_sub_cancel_left]
    have : (ipb p ++ r).drop (20 + p.opts.length) = p.body ++ r := by
      unfold ipb; rw [List.append_assoc]
      exact List.drop_left' (hdw_len ..)
    rw [this, List.take_append_of_le_length (Nat.le_refl _), List.take_of_length_le (Nat.le_refl _)]
  unfold ipPk
  rw [e1, e2]
  unfold w32 w16
  rw [ipb_get p r 1 (by omega), ipb_get p r 8 (by omega), ipb_get p r 9 (by omega), ipb_get p r 4 (by omega), ipb_get p r (4 + 1) (by omega), ipb_get p r 6 (by omega), ipb_get p r (6 + 1) (by omega),
    ipb_get p r 12 (by omega), ipb_get p r (12 + 1) (by omega), ipb_get p r (12 + 2) (by omega), ipb_get p r (12 + 2 + 1) (by omega), ipb_get p r 16 (by omega), ipb_get p r (16 + 1) (by omega), ipb_get p r (16 + 2) (by omega), ipb_get p r (16 + 2 + 1) (by omega)]
  obtain ⟨h1, h2, h3, h4, h5, h6, h7, h8, h9, h10⟩ := h
  obtain ⟨f1, f2, f3, f4, f5⟩ := f
  obtain ⟨tos, ttl, proto, id, flags, off, src, dst, opts, body⟩ := p
  simp only at h4 h5 h6 h7 h8 f3 f4
  simp only [hdw, List.getD_cons_zero, List.getD_cons_succ, Pk.mk.injEq, and_true, true_and]
  refine ⟨?_, ?_, ?_, ?_, ?_⟩ <;> omega

theorem back_res {p : Pk} (h : p.Ok) (f : Fits p) (r : List Int) : ipRes (ipb p ++ r) = p := by
  unfold ipRes; rw [if_pos (back_err h f r), back_pk h f r]

/-- A packet that is cut off. -/
theorem cut_err {p : Pk} (h : p.Ok) (f : Fits p) (k : Nat) (hk : k < (ipb p).length) : ipErr ((ipb p).take k) = 20 := by
  have e0 := back_err h f []
  rw [List.append_nil] at e0
  have hh := ipb_hdl f []
  have hw := ipb_whl f []
  rw [List.append_nil] at hh hw
  rw [ipb_len] at hk
  have hl : ((ipb p).take k).length = k := by rw [List.length_take, ipb_len]; omega
  unfold ipErr
  rw [hl]
  by_cases hk20 : k < 20
  · rw [if_pos hk20]
  · rw [if_neg hk20]
    have g : ∀ i, i < 20 → ((ipb p).take k).getD i 0 = (ipb p).getD i 0 := fun i hi => by simp [List.getD, show i < k by omega]
    have eh : hdl ((ipb p).take k) = hdl (ipb p) := by unfold hdl; rw [g 0 (by omega)]
    have ew : whl ((ipb p).take k) = whl (ipb p) := by unfold whl w16; rw [g 2 (by omega), g (2 + 1) (by omega)]
    rw [eh, ew, g 0 (by omega), hh, hw]
    unfold ipErr at e0
    rw [hh, hw, ipb_len] at e0
    rw [if_neg (by omega)] at e0
    split at e0
    · omega
    · rename_i hc
      rw [if_neg hc, if_pos (by omega)]

theorem tot_set1 (l : List Int) (j k : Nat) (x : Int) (hj : j < l.length) (hjk : j < 2 * k) : tot (l.set j x) k = tot l k + (x - l.getD j 0) * (if j % 2 = 0 then 256 else 1) := by
  induction k with
  | zero => omega
  | succ k ih =>
    rw [tot_succ, tot_succ]
    unfold wd
    rw [getD_set _ _ _ _ hj, getD_set _ _ _ _ hj]
    by_cases c : j < 2 * k
    · have d1 : ¬ 2 * k = j := by omega
      have d2 : ¬ 2 * k + 1 = j := by omega
      rw [ih c, if_neg d1, if_neg d2]
      generalize (x - l.getD j 0) * (if j % 2 = 0 then 256 else 1) = z
      omega
    · have : tot (l.set j x) k = tot l k := tot_same k (fun i hi => by
        unfold wd; rw [getD_set _ _ _ _ hj, getD_set _ _ _ _ hj, if_neg (by omega), if_neg (by omega)])
      rw [this]
      by_cases e : j = 2 * k
      · subst e; rw [if_pos rfl, if_neg (by omega), if_pos (by omega)]; omega
      · have e' : j = 2 * k + 1 := by omega
        subst e'; rw [if_neg (by omega), if_pos rfl, if_neg (by omega)]; omega

theorem take_set_of_lt (l : List Int) (j n : Nat) (x : Int) (h : j < n) : (l.set j x).take n = (l.take n).set j x := by
  rw [List.take_set]

/-- One byte of a header, but for its first, that is another. -/
theorem bit_err {l : List Int} (hb : IsBytes l) (h0 : ipErr l = 0) (j : Nat) (hj0 : j ≠ 0) (hj : j < hdl l) (x : Int) (hx : 0 ≤ x ∧ x ≤ 255) (hne : x ≠ l.getD j 0) : ipErr (l.set j x) ≠ 0 := by
  intro h1
  have hbj := hb j
  have hjl : j < l.length := by
    unfold ipErr at h0
    repeat (first | omega | split at h0)
  have e0 : (l.set j x).getD 0 0 = l.getD 0 0 := by rw [getD_set _ _ _ _ hjl, if_neg (by omega)]
  have eh : hdl (l.set j x) = hdl l := by unfold hdl; rw [e0]
  have s0 : foldv (tot (l.take (hdl l)) (cnt (hdl l))) = 65535 := by
    unfold ipErr at h0
    repeat (first | omega | split at h0)
  have s1 : foldv (tot ((l.set j x).take (hdl l)) (cnt (hdl l))) = 65535 := by
    unfold ipErr at h1
    rw [eh] at h1
    repeat (first | omega | split at h1)
  have hjt : j < (l.take (hdl l)).length := by rw [List.length_take]; omega
  have hg : (l.take (hdl l)).getD j 0 = l.getD j 0 := by simp [List.getD, hj]
  rw [take_set_of_lt _ _ _ _ hj, tot_set1 _ _ _ _ hjt (by unfold cnt; omega), hg] at s1
  generalize tot (l.take (hdl l)) (cnt (hdl l)) = T at s0 s1
  generalize l.getD j 0 = y at *
  unfold foldv at s0 s1
  by_cases c : j % 2 = 0
  · rw [if_pos c] at s1
    split at s0 <;> split at s1 <;> omega
  · rw [if_neg c] at s1
    split at s0 <;> split at s1 <;> omega
end Sm
end Go.Proofs.Ytjalpbkfpjfigab

namespace Go.Proofs.Ytjalpbkfpjfigab
open Sm
namespace Sm
set_option linter.unusedVariables false

structure Mg where
  typ : Int
  code : Int
  sum : Int
  rest : Int
  body : List Int
def Mg.zero : Mg := ⟨0, 0, 0, 0, []⟩
structure Mg.Ok (q : Mg) : Prop where
  typ : 0 ≤ q.typ ∧ q.typ ≤ 255
  code : 0 ≤ q.code ∧ q.code ≤ 255
  sum : 0 ≤ q.sum ∧ q.sum ≤ 65535
  rest : 0 ≤ q.rest ∧ q.rest ≤ 4294967295
  body : IsBytes q.body

/-- What P6.1 answers. -/
def mgErr (l : List Int) : Int := if l.length < 8 then 20 else 0
def mgMg (l : List Int) : Mg := ⟨l.getD 0 0, l.getD 1 0, w16 l 2, w32 l 4, (l.drop 8).take (l.length - 8)⟩
def mgRes (l : List Int) : Mg := if mgErr l = 0 then mgMg l else Mg.zero
def mgbErr (q : Mg) : Int := if 65507 < q.body.length then 23 else 0
/-- The first eight bytes. -/
def mg8 (t k c r : Int) : List Int := [t, k, c / 256, c % 256, r / 16777216, r / 65536 % 256, r / 256 % 256, r % 256]
def mgb (q : Mg) : List Int := mg8 q.typ q.code q.sum q.rest ++ q.body
def mgOut (q : Mg) : List Int := if mgbErr q = 0 then mgb q else []
/-- The whole length. -/
def mlen (q : Mg) : Nat := 8 + q.body.length

theorem mfits_iff (q : Mg) : mgbErr q = 0 ↔ q.body.length ≤ 65507 := by
  unfold mgbErr
  constructor
  · intro h
    split at h <;> omega
  · intro h
    rw [if_neg (by omega)]
theorem mgb_len (q : Mg) : (mgb q).length = mlen q := by simp [mgb, mg8, mlen]; omega
theorem mgb_bytes {q : Mg} (h : q.Ok) : IsBytes (mgb q) := by
  obtain ⟨h1, h2, h3, h4, h5⟩ := h
  unfold mgb mg8
  simp only [List.cons_append, List.nil_append]
  iterate 8 (refine bytes_cons ⟨by omega, by omega⟩ ?_)
  exact h5
theorem mgOut_facts {q : Mg} (h : q.Ok) : IsBytes (mgOut q) ∧ (mgOut q).length ≤ 65515 := by
  unfold mgOut
  by_cases e : mgbErr q = 0
  · rw [if_pos e]; have f := (mfits_iff q).mp e; exact ⟨mgb_bytes h, by rw [mgb_len]; unfold mlen; omega⟩
  · rw [if_neg e]; exact ⟨bytes_nil, by simp⟩
theorem mgRes_ok {l : List Int} (h : IsBytes l) : (mgRes l).Ok := by
  unfold mgRes
  split
  · exact ⟨h 0, h 1, w16_range h 2, w32_range h 4, bytes_part h _ _⟩
  · exact ⟨by decide, by decide, by decide, by decide, bytes_nil⟩

theorem back_merr (q : Mg) : mgErr (mgb q) = 0 := by
  unfold mgErr
  rw [mgb_len, mlen, if_neg (by omega)]
theorem back_mres {q : Mg} (h : q.Ok) : mgRes (mgb q) = q := by
  unfold mgRes
  rw [if_pos (back_merr q)]
  unfold mgMg
  rw [mgb_len]
  obtain ⟨h1, h2, h3, h4, h5⟩ := h
  obtain ⟨t, k, c, r, b⟩ := q
  simp only at h1 h2 h3 h4
  have e0 : ((mgb ⟨t, k, c, r, b⟩).drop 8).take (mlen ⟨t, k, c, r, b⟩ - 8) = b := by
    show b.take (8 + b.length - 8) = b
    rw [Nat.add_sub_cancel_left]; exact List.take_length
  rw [e0]
  unfold w32 w16 mgb mg8
  simp only [List.cons_append, List.nil_append, List.getD_cons_zero, List.getD_cons_succ, Mg.mk.injEq, and_true, true_and]
  refine ⟨?_, ?_⟩ <;> omega

/-! ### Checksums. -/
def Mg.at (q : Mg) (c : Int) : Mg := ⟨q.typ, q.code, c, q.rest, q.body⟩
/-- All words, folded. -/
def mtot (q : Mg) : Int := foldv (acc (mgb q) 0 (cnt (mlen q)))
/-- What P6.1 answers. -/
def msum (q : Mg) : Int := if mgbErr q ≠ 0 then 0 else ofv (mgb (q.at 0))
def mright (q : Mg) : Bool := decide (mgbErr q = 0) && decide (mtot q = 65535)

theorem mgErr_at (q : Mg) (c : Int) : mgbErr (q.at c) = mgbErr q := rfl
theorem mlen_at (q : Mg) (c : Int) : mlen (q.at c) = mlen q := rfl
theorem Mg.Ok.at {q : Mg} (h : q.Ok) {c : Int} (h0 : 0 ≤ c) (h1 : c ≤ 65535) : (q.at c).Ok := ⟨h.typ, h.code, ⟨h0, h1⟩, h.rest, h.body⟩
theorem mtot_range (q : Mg) : 0 ≤ mtot q ∧ mtot q ≤ 65535 := foldv_range _
theorem mtot_at {q : Mg} (h : q.Ok) : ∃ P : Int, 0 ≤ P ∧ ofv (mgb (q.at 0)) = 65535 - foldv P ∧ ∀ c, 0 ≤ c → c ≤ 65535 → mtot (q.at c) = foldv (P + c) := by
  have hb0 := mgb_bytes (h.at (c := 0) (by omega) (by omega))
  refine ⟨tot (mgb (q.at 0)) (cnt (mlen q)), tot_nonneg hb0 _, ?_, fun c c0 c1 => ?_⟩
  · unfold ofv; rw [mgb_len, mlen_at]
  have hb := mgb_bytes (h.at c0 c1)
  have e : mgb (q.at c) = setw (mgb (q.at 0)) 1 (c / 256) (c % 256) := rfl
  have hl : 2 * 1 + 1 < (mgb (q.at 0)).length := by rw [mgb_len]; unfold mlen; omega
  have hk : 1 < cnt (mlen q) := by unfold cnt mlen; omega
  have hw : wd (mgb (q.at 0)) 1 = 0 := rfl
  unfold mtot
  rw [mlen_at, foldv_acc hb _ (by omega) (by omega), e, tot_setw _ _ _ _ _ hl, if_pos hk, hw]
  congr 1
  omega
theorem msum_range (q : Mg) : 0 ≤ msum q ∧ msum q ≤ 65535 := by
  have := ofv_range (mgb (q.at 0))
  unfold msum
  split <;> omega
/-- One with its own checksum is right. -/
theorem mright_own {q : Mg} (h : q.Ok) (f : mgbErr q = 0) : mright (q.at (msum q)) = true := by
  obtain ⟨P, hP, ho, hu⟩ := mtot_at h
  have r := foldv_range P
  have e : msum q = 65535 - foldv P := by unfold msum; rw [if_neg (by omega), ho]
  unfold mright
  rw [mgErr_at, f, e, hu _ (by omega) (by omega)]
  have key : foldv (P + (65535 - foldv P)) = 65535 := by
    unfold foldv
    split <;> split <;> omega
  simp [key]

/-! ### Kinds. -/
/-- What P6.2 answers. -/
def mecho (q : Mg) : Bool := decide (q.typ = 8 ∨ q.typ = 0) && decide (q.code = 0)
def merror (q : Mg) : Bool := decide (q.typ = 3 ∨ q.typ = 11 ∨ q.typ = 12)
end Sm
end Go.Proofs.Ytjalpbkfpjfigab

namespace Go.Proofs.Ytjalpbkfpjfigab
open Go.RowKit
open Sm
set_option linter.unusedVariables false

theorem bytes_four {x y z u : Int} (hx : 0 ≤ x ∧ x ≤ 255) (hy : 0 ≤ y ∧ y ≤ 255) (hz : 0 ≤ z ∧ z ≤ 255) (hu : 0 ≤ u ∧ u ≤ 255) : IsBytes [x, y, z, u] :=
  bytes_cons hx (bytes_cons hy (bytes_cons hz (bytes_cons hu (fun i => by simp))))

set_option maxHeartbeats 1000000 in
theorem put32_any {w : World} {B n : Nat} {v : Value} {xs : List Value} (h : w.ownsRow B 5 1 v n xs) (hB : B ≤ w.heap.size) (hn : n ≤ 1000000) (x : Int) (r0 : 0 ≤ x) (r1 : x ≤ 4294967295) :
    Calls Try.prog 25 #[v, .int .u32 x] w fun e w' => ∃ v', e = .returned v' ∧ w'.ownsRow B 5 1 v' (n + 4) (xs ++ [.int .u8 (x / 16777216), .int .u8 (x / 65536 % 256), .int .u8 (x / 256 % 256), .int .u8 (x % 256)]) ∧ Below B w w' := by
  have u1 : IntKind.u8.wrap (x / 16777216) = x / 16777216 := wrap8_small _ (by omega) (by omega)
  have u2 : IntKind.u8.wrap (x / 65536) = x / 65536 % 256 := by simp [IntKind.wrap, IntKind.bits, IntKind.signed]
  have u3 : IntKind.u8.wrap (x / 256) = x / 256 % 256 := by simp [IntKind.wrap, IntKind.bits, IntKind.signed]
  have u4 : IntKind.u8.wrap x = x % 256 := by simp [IntKind.wrap, IntKind.bits, IntKind.signed]
  have HO : Hid (w.ownsRow B 5 1 v n xs) := h
  clear h
  have hb2 : IsBytes [x / 16777216, x / 65536 % 256, x / 256 % 256, x % 256] := bytes_four (by omega) (by omega) (by omega) (by omega)
  have HB : Hid (IsBytes [x / 16777216, x / 65536 % 256, x / 256 % 256, x % 256]) := hb2
  clear hb2
  go_enter Try.func25, Try.ntmps25
  go_wp2_with (at_builtin; refine wpList_append_more _ rfl (.tmp 5) (.tmp 17) rfl B v n xs rfl (own_after HO.out ((Below.refl _ _).alloc (Nat.le_refl _) _) (Nat.le_refl _)) (some ⟨w.heap.size, 0, none⟩) 4 4 [x / 16777216, x / 65536 % 256, x / 256 % 256, x % 256] rfl rfl (fun e => by cases e) (row_lit w _ HB.out (by simp) 5) (by omega) (by simp; omega) ?_; intro v1 w1 hown hbel)
  go_ret
  exact ⟨_, rfl, hown, ((Below.refl _ _).alloc hB _).trans hbel⟩

theorem put32_inv {T : TypeId} {w W : World} {pA : Array Value} {v : Value} {n : Nat} {L : List Int} (h : Inv T w W pA v n L) (hn : n ≤ 1000000) (x : Int) (r0 : 0 ≤ x) (r1 : x ≤ 4294967295) :
    Calls Try.prog 25 #[v, .int .u32 x] W fun e W' => ∃ v', e = .returned v' ∧ Inv T w W' pA v' (n + 4) (L ++ [x / 16777216, x / 65536 % 256, x / 256 % 256, x % 256]) := by
  refine (put32_any h.own h.size hn x r0 r1).mono ?_
  rintro e W' ⟨v', rfl, ho, hb⟩
  exact ⟨v', rfl, h.next (by rw [List.map_append]; exact ho) hb⟩
end Go.Proofs.Ytjalpbkfpjfigab

