/-
  Of no one layer: what the document's own lychref1.Get16, Get32, cut, Put32 answer, over blocks of the call's own.
  Segments as lists of numbers: what bytes read as, what a segment is written as, its checksum and whether it is right; each is the other's inverse.
  Messages as lists of numbers: what bytes read as, what a message is written as, its checksum and whether it is right; each is the other's inverse.
-/
import Derived.Test.YtjalpbkfpjfigaaGreatM06
namespace Go.Proofs.YtjalpbkfpjfigaaGreat
open Go.RowKit
open Sm
set_option linter.unusedVariables false

set_option maxHeartbeats 1000000 in
theorem get32_row {w : World} {b off : Nat} {l : List Int} (h : Row w (some ⟨b, off, none⟩) l) (i n cap : Nat) (hn : l.length = n) (hi : i + 3 < n) :
    Calls Tryz.prog 70 #[.slice (some ⟨b, off, none⟩) n cap, .int .i64 i] w fun e w' => e = .returned (.int .u32 (w32 l i)) ∧ Mem w w' [] := by
  have hlen := h.len
  have b0 := h.bytes i
  have b1 := h.bytes (i + 1)
  have b2 := h.bytes (i + 2)
  have b3 := h.bytes (i + 3)
  have ra := w16_range h.bytes i
  have rb := w16_range h.bytes (i + 2)
  have c1 := get16_row i _ _ (h.cellAt i (by omega)) (h.cellAt (i + 1) (by omega)) b0.1 b0.2 b1.1 b1.2 n cap (by omega) (by omega)
  have c2 : ∀ q, Calls Tryz.prog 41 #[.slice (some ⟨b, off, none⟩) n cap, .int .i64 ((i : Int) + 2)] (w.drewN q) fun e w' => e = .returned (.int .u16 (w16 l (i + 2))) ∧ ∃ q', w' = (w.drewN q).drewN q' := fun q => by
    have := get16_row (w := w.drewN q) (i + 2) _ _ (h.cellAt (i + 2) (by omega)) (h.cellAt (i + 2 + 1) (by omega)) b2.1 b2.2 b3.1 b3.2 n cap (by omega) (by omega)
    rw [show ((i + 2 : Nat) : Int) = (i : Int) + 2 by omega] at this
    exact this
  have c1' : Calls Tryz.prog 41 #[.slice (some ⟨b, off, none⟩) n cap, .int .i64 i] w fun e w' => e = .returned (.int .u16 (w16 l i)) ∧ ∃ q, w' = w.drewN q := c1
  have hor := sm_long _ _ ra.1 ra.2 rb.1 rb.2
  have w0 := wrap32_small (w16 l i) (by omega) (by omega)
  have w1 := wrap32_small (w16 l (i + 2)) (by omega) (by omega)
  have w2 := wrap32_small (w16 l i * 65536) (by omega) (by omega)
  have hwi : IntKind.i64.wrap ((i : Int) + 2) = (i : Int) + 2 := by rw [IntKind.wrap_i64]; omega
  have HE : Hid (w32 l i = w16 l i * 65536 + w16 l (i + 2)) := rfl
  generalize w16 l i = X at *
  generalize w16 l (i + 2) = Y at *
  generalize w32 l i = Z at *
  have ilim : (i : Int) ≤ 140737488351232 := by omega
  clear c1 b0 b1 b2 b3 ra rb h hn hi hlen
  go_enter Tryz.func70, Tryz.ntmps70
  go_wp2_with fail
  refine c1'.mono ?_
  rintro e w' ⟨rfl, q, rfl⟩
  go_wp2_with fail
  refine (c2 q).mono ?_
  rintro e w' ⟨rfl, q', rfl⟩
  go_wp2
  go_ret
  exact ⟨by rw [HE.out]; rfl, (Mem.nil w).drewN _⟩

theorem bytes_four {x y z u : Int} (hx : 0 ≤ x ∧ x ≤ 255) (hy : 0 ≤ y ∧ y ≤ 255) (hz : 0 ≤ z ∧ z ≤ 255) (hu : 0 ≤ u ∧ u ≤ 255) : IsBytes [x, y, z, u] :=
  bytes_cons hx (bytes_cons hy (bytes_cons hz (bytes_cons hu (fun i => by simp))))

set_option maxHeartbeats 1000000 in
theorem put32_any {w : World} {B n : Nat} {v : Value} {xs : List Value} (h : w.ownsRow B 5 1 v n xs) (hB : B ≤ w.heap.size) (hn : n ≤ 1000000) (x : Int) (r0 : 0 ≤ x) (r1 : x ≤ 4294967295) :
    Calls Tryz.prog 53 #[v, .int .u32 x] w fun e w' => ∃ v', e = .returned v' ∧ w'.ownsRow B 5 1 v' (n + 4) (xs ++ [.int .u8 (x / 16777216), .int .u8 (x / 65536 % 256), .int .u8 (x / 256 % 256), .int .u8 (x % 256)]) ∧ Below B w w' := by
  have u1 : IntKind.u8.wrap (x / 16777216) = x / 16777216 := wrap8_small _ (by omega) (by omega)
  have u2 : IntKind.u8.wrap (x / 65536) = x / 65536 % 256 := by simp [IntKind.wrap, IntKind.bits, IntKind.signed]
  have u3 : IntKind.u8.wrap (x / 256) = x / 256 % 256 := by simp [IntKind.wrap, IntKind.bits, IntKind.signed]
  have u4 : IntKind.u8.wrap x = x % 256 := by simp [IntKind.wrap, IntKind.bits, IntKind.signed]
  have HO : Hid (w.ownsRow B 5 1 v n xs) := h
  clear h
  have hb2 : IsBytes [x / 16777216, x / 65536 % 256, x / 256 % 256, x % 256] := bytes_four (by omega) (by omega) (by omega) (by omega)
  have HB : Hid (IsBytes [x / 16777216, x / 65536 % 256, x / 256 % 256, x % 256]) := hb2
  clear hb2
  go_enter Tryz.func53, Tryz.ntmps53
  go_wp2_with (at_builtin; refine wpList_append_more _ rfl (.tmp 5) (.tmp 17) rfl B v n xs rfl (own_after HO.out ((Below.refl _ _).alloc (Nat.le_refl _) _) (Nat.le_refl _)) (some ⟨w.heap.size, 0, none⟩) 4 4 [x / 16777216, x / 65536 % 256, x / 256 % 256, x % 256] rfl rfl (fun e => by cases e) (row_lit w _ HB.out (by simp) 5) (by omega) (by simp; omega) ?_; intro v1 w1 hown hbel)
  go_ret
  exact ⟨_, rfl, hown, ((Below.refl _ _).alloc hB _).trans hbel⟩

theorem get16_mem {w W : World} {L : List (Nat × Obj)} (hM : Mem w W L) {b off : Nat} {l : List Int} (h : Row w (some ⟨b, off, none⟩) l) (i n cap : Nat) (hn : l.length = n) (hi : i + 1 < n) :
    Calls Tryz.prog 41 #[.slice (some ⟨b, off, none⟩) n cap, .int .i64 i] W fun e w' => e = .returned (.int .u16 (w16 l i)) ∧ Mem w w' L := by
  have hlen := h.len
  have b0 := h.bytes i
  have b1 := h.bytes (i + 1)
  refine (get16_row i _ _ ((hM.row h).cellAt i (by omega)) ((hM.row h).cellAt (i + 1) (by omega)) b0.1 b0.2 b1.1 b1.2 n cap (by omega) (by omega)).mono ?_
  rintro e w' ⟨rfl, q, rfl⟩
  exact ⟨rfl, hM.drewN q⟩
theorem get32_mem {w W : World} {L : List (Nat × Obj)} (hM : Mem w W L) {b off : Nat} {l : List Int} (h : Row w (some ⟨b, off, none⟩) l) (i n cap : Nat) (hn : l.length = n) (hi : i + 3 < n) :
    Calls Tryz.prog 70 #[.slice (some ⟨b, off, none⟩) n cap, .int .i64 i] W fun e w' => e = .returned (.int .u32 (w32 l i)) ∧ Mem w w' L := by
  refine (get32_row (hM.row h) i n cap hn hi).mono ?_
  rintro e w' ⟨rfl, hK⟩
  refine ⟨rfl, ?_⟩
  have := hM.join hK
  rwa [List.append_nil] at this
theorem cut_mem {w W : World} {L : List (Nat × Obj)} (hM : Mem w W L) {b off : Nat} {l : List Int} (h : Row w (some ⟨b, off, none⟩) l) (n cap i m : Nat) (hn : l.length = n) (hc : n ≤ cap) (him : i + m ≤ n) (hsm : m ≤ 70000) :
    Calls Tryz.prog 66 #[.slice (some ⟨b, off, none⟩) n cap, .int .i64 i, .int .i64 ((i + m : Nat) : Int)] W fun e w' => ∃ ao co, e = .returned (.slice ao m co) ∧ Row w' ao ((l.drop i).take m) ∧ (ao = none → co = 0) ∧ (∀ x, ao = some x → W.heap.size ≤ x.block) ∧ Below W.heap.size W w' ∧ Mem w w' L := by
  have hlen := h.len
  refine (cut_row (hM.row h) n cap i m hn hc him hsm).mono ?_
  rintro e w' ⟨v, rfl, hown, hb⟩
  have hl2 : ((l.drop i).take m).length = m := by simp; omega
  have hby : IsBytes ((l.drop i).take m) := (h.part i m (by omega)).bytes
  obtain ⟨ao, co, rfl, hrow, hnil, hfar, -⟩ := own_read hown hl2 hby (by omega)
  exact ⟨ao, co, rfl, hrow, hnil, hfar, hb, hM.after hb⟩

/-- The same, its row of the call's own. -/
theorem cut_own {w W : World} {L : List (Nat × Obj)} (hM : Mem w W L) {b off : Nat} {l : List Int} (h : Row w (some ⟨b, off, none⟩) l) (n cap i m : Nat) (hn : l.length = n) (hc : n ≤ cap) (him : i + m ≤ n) (hsm : m ≤ 70000) :
    Calls Tryz.prog 66 #[.slice (some ⟨b, off, none⟩) n cap, .int .i64 i, .int .i64 ((i + m : Nat) : Int)] W fun e w' => ∃ ao co, e = .returned (.slice ao m co) ∧ w'.ownsRow W.heap.size 5 1 (.slice ao m co) m (((l.drop i).take m).map (Value.int .u8)) ∧ Below W.heap.size W w' ∧ Mem w w' L := by
  refine (cut_row (hM.row h) n cap i m hn hc him hsm).mono ?_
  rintro e w' ⟨v, rfl, hown, hb⟩
  obtain ⟨ao, co, rfl⟩ := own_len hown
  exact ⟨ao, co, rfl, hown, hb, hM.after hb⟩

/-- The same, with its room. -/
theorem cut_cap {w W : World} {L : List (Nat × Obj)} (hM : Mem w W L) {b off : Nat} {l : List Int} (h : Row w (some ⟨b, off, none⟩) l) (n cap i m : Nat) (hn : l.length = n) (hc : n ≤ cap) (him : i + m ≤ n) (hsm : m ≤ 70000) :
    Calls Tryz.prog 66 #[.slice (some ⟨b, off, none⟩) n cap, .int .i64 i, .int .i64 ((i + m : Nat) : Int)] W fun e w' => ∃ ao co, e = .returned (.slice ao m co) ∧ Row w' ao ((l.drop i).take m) ∧ ((ao = none → co = 0) ∧ m ≤ co) ∧ (∀ x, ao = some x → W.heap.size ≤ x.block) ∧ Below W.heap.size W w' ∧ Mem w w' L := by
  have hlen := h.len
  refine (cut_row (hM.row h) n cap i m hn hc him hsm).mono ?_
  rintro e w' ⟨v, rfl, hown, hb⟩
  have hl2 : ((l.drop i).take m).length = m := by simp; omega
  have hby : IsBytes ((l.drop i).take m) := (h.part i m (by omega)).bytes
  obtain ⟨ao, co, rfl, hrow, hnil, hfar, hle⟩ := own_read hown hl2 hby (by omega)
  exact ⟨ao, co, rfl, hrow, ⟨hnil, hle⟩, hfar, hb, hM.after hb⟩

theorem put32_inv {T : TypeId} {w W : World} {pA : Array Value} {v : Value} {n : Nat} {L : List Int} (h : Inv T w W pA v n L) (hn : n ≤ 1000000) (x : Int) (r0 : 0 ≤ x) (r1 : x ≤ 4294967295) :
    Calls Tryz.prog 53 #[v, .int .u32 x] W fun e W' => ∃ v', e = .returned v' ∧ Inv T w W' pA v' (n + 4) (L ++ [x / 16777216, x / 65536 % 256, x / 256 % 256, x % 256]) := by
  refine (put32_any h.own h.size hn x r0 r1).mono ?_
  rintro e W' ⟨v', rfl, ho, hb⟩
  exact ⟨v', rfl, h.next (by rw [List.map_append]; exact ho) hb⟩
end Go.Proofs.YtjalpbkfpjfigaaGreat

namespace Go.Proofs.YtjalpbkfpjfigaaGreat
open Sm
namespace Sm
set_option linter.unusedVariables false

structure Sg where
  src : Int
  dst : Int
  seq : Int
  ack : Int
  flags : Int
  win : Int
  sum : Int
  urg : Int
  opts : List Int
  body : List Int
def Sg.zero : Sg := ⟨0, 0, 0, 0, 0, 0, 0, 0, [], []⟩
structure Sg.Ok (q : Sg) : Prop where
  src : 0 ≤ q.src ∧ q.src ≤ 65535
  dst : 0 ≤ q.dst ∧ q.dst ≤ 65535
  seq : 0 ≤ q.seq ∧ q.seq ≤ 4294967295
  ack : 0 ≤ q.ack ∧ q.ack ≤ 4294967295
  flags : 0 ≤ q.flags ∧ q.flags ≤ 255
  win : 0 ≤ q.win ∧ q.win ≤ 65535
  sum : 0 ≤ q.sum ∧ q.sum ≤ 65535
  urg : 0 ≤ q.urg ∧ q.urg ≤ 65535
  opts : IsBytes q.opts
  body : IsBytes q.body

/-- The header's length that it tells. -/
def thd (l : List Int) : Nat := 4 * (l.getD 12 0 / 16).toNat
/-- What P5.1 answers. -/
def tcErr (l : List Int) : Int := if l.length < 20 then 20 else if thd l < 20 then 21 else if l.length < thd l then 20 else 0
def tcSg (l : List Int) : Sg := ⟨w16 l 0, w16 l 2, w32 l 4, w32 l 8, l.getD 13 0, w16 l 14, w16 l 16, w16 l 18, (l.drop 20).take (thd l - 20), (l.drop (thd l)).take (l.length - thd l)⟩
def tcRes (l : List Int) : Sg := if tcErr l = 0 then tcSg l else Sg.zero
def tcbErr (q : Sg) : Int := if q.opts.length % 4 ≠ 0 ∨ 40 < q.opts.length then 21 else if 65515 < 20 + q.opts.length + q.body.length then 23 else 0
/-- The first twenty bytes. -/
def tc20 (hd : Nat) (s d sq ak fl wi c ur : Int) : List Int :=
  [s / 256, s % 256, d / 256, d % 256, sq / 16777216, sq / 65536 % 256, sq / 256 % 256, sq % 256, ak / 16777216, ak / 65536 % 256, ak / 256 % 256, ak % 256,
   (hd : Int) / 4 * 16, fl, wi / 256, wi % 256, c / 256, c % 256, ur / 256, ur % 256]
def tcb (q : Sg) : List Int := tc20 (20 + q.opts.length) q.src q.dst q.seq q.ack q.flags q.win q.sum q.urg ++ q.opts ++ q.body
def tcOut (q : Sg) : List Int := if tcbErr q = 0 then tcb q else []
/-- The whole length. -/
def tlen (q : Sg) : Nat := 20 + q.opts.length + q.body.length

structure TFits (q : Sg) : Prop where
  o4 : q.opts.length % 4 = 0
  o40 : q.opts.length ≤ 40
  n : 20 + q.opts.length + q.body.length ≤ 65515
theorem tfits_iff (q : Sg) : tcbErr q = 0 ↔ TFits q := by
  unfold tcbErr
  constructor
  · intro h
    split at h
    · omega
    · split at h
      · omega
      · constructor <;> omega
  · intro ⟨a, b, c⟩
    rw [if_neg (by omega), if_neg (by omega)]

theorem tcb_len (q : Sg) : (tcb q).length = tlen q := by simp [tcb, tc20, tlen]; omega
theorem tcb_bytes {q : Sg} (h : q.Ok) (f : TFits q) : IsBytes (tcb q) := by
  obtain ⟨h1, h2, h3, h4, h5, h6, h7, h8, h9, h10⟩ := h
  obtain ⟨f1, f2, f3⟩ := f
  unfold tcb tc20
  refine bytes_append ?_ h10
  simp only [List.cons_append, List.nil_append]
  iterate 20 (refine bytes_cons ⟨by omega, by omega⟩ ?_)
  exact h9
theorem tcOut_facts {q : Sg} (h : q.Ok) : IsBytes (tcOut q) ∧ (tcOut q).length ≤ 65515 := by
  unfold tcOut
  by_cases e : tcbErr q = 0
  · rw [if_pos e]; have f := (tfits_iff q).mp e; exact ⟨tcb_bytes h f, by rw [tcb_len]; exact f.n⟩
  · rw [if_neg e]; exact ⟨bytes_nil, by simp⟩
theorem tcRes_ok {l : List Int} (h : IsBytes l) : (tcRes l).Ok := by
  unfold tcRes
  split
  · exact ⟨w16_range h 0, w16_range h 2, w32_range h 4, w32_range h 8, h 13, w16_range h 14, w16_range h 16, w16_range h 18, bytes_part h _ _, bytes_part h _ _⟩
  · exact ⟨by decide, by decide, by decide, by decide, by decide, by decide, by decide, by decide, bytes_nil, bytes_nil⟩

theorem back_thd (q : Sg) (f : TFits q) : thd (tcb q) = 20 + q.opts.length := by
  obtain ⟨f1, f2, f3⟩ := f
  unfold thd tcb tc20
  simp only [List.cons_append, List.nil_append, List.getD_cons_zero, List.getD_cons_succ]
  omega
theorem back_terr (q : Sg) (f : TFits q) : tcErr (tcb q) = 0 := by
  unfold tcErr
  rw [back_thd q f, tcb_len, tlen, if_neg (by omega), if_neg (by omega), if_neg (by omega)]
theorem back_tres {q : Sg} (h : q.Ok) (f : TFits q) : tcRes (tcb q) = q := by
  unfold tcRes
  rw [if_pos (back_terr q f)]
  unfold tcSg
  rw [back_thd q f, tcb_len]
  obtain ⟨h1, h2, h3, h4, h5, h6, h7, h8, h9, h10⟩ := h
  obtain ⟨s, d, sq, ak, fl, wi, c, ur, o, b⟩ := q
  simp only at h1 h2 h3 h4 h5 h6 h7 h8
  have e0 : (tcb ⟨s, d, sq, ak, fl, wi, c, ur, o, b⟩).drop 20 = o ++ b := rfl
  have e1 : ((tcb ⟨s, d, sq, ak, fl, wi, c, ur, o, b⟩).drop 20).take (20 + o.length - 20) = o := by
    rw [e0, Nat.add_sub_cancel_left]; exact List.take_left' rfl
  have e2 : ((tcb ⟨s, d, sq, ak, fl, wi, c, ur, o, b⟩).drop (20 + o.length)).take (tlen ⟨s, d, sq, ak, fl, wi, c, ur, o, b⟩ - (20 + o.length)) = b := by
    rw [← List.drop_drop, e0, List.drop_left' rfl]
    exact List.take_of_length_le (by unfold tlen; simp)
  rw [e1, e2]
  unfold w32 w16 tcb tc20
  simp only [List.cons_append, List.nil_append, List.getD_cons_zero, List.getD_cons_succ, Sg.mk.injEq, and_true, true_and]
  refine ⟨?_, ?_, ?_, ?_, ?_, ?_, ?_⟩ <;> omega

/-! ### Checksums. -/
/-- All words, with the pseudo ones, folded. -/
def ttot (s d : Int) (q : Sg) : Int := foldv (acc (tcb q) (psv s d 6 (tlen q : Nat)) (cnt (tlen q)))
def Sg.at (q : Sg) (c : Int) : Sg := ⟨q.src, q.dst, q.seq, q.ack, q.flags, q.win, c, q.urg, q.opts, q.body⟩
/-- What P5.2 answers. -/
def tsum (s d : Int) (q : Sg) : Int := if tcbErr q ≠ 0 then 0 else 65535 - ttot s d (q.at 0)
def tright (s d : Int) (q : Sg) : Bool := decide (tcbErr q = 0) && decide (ttot s d q = 65535)

theorem tpsv_range (s d p n : Int) (h0 : 0 ≤ s) (h1 : 0 ≤ d) (h2 : 1 ≤ p) : 1 ≤ psv s d p n ∧ psv s d p n ≤ 65535 := by
  unfold psv foldv
  rw [if_neg (by omega)]
  omega
theorem ttot_range (s d : Int) (q : Sg) : 0 ≤ ttot s d q ∧ ttot s d q ≤ 65535 := foldv_range _
theorem tcErr_at (q : Sg) (c : Int) : tcbErr (q.at c) = tcbErr q := rfl
theorem tlen_at (q : Sg) (c : Int) : tlen (q.at c) = tlen q := rfl
theorem TFits.at {q : Sg} (f : TFits q) (c : Int) : TFits (q.at c) := ⟨f.o4, f.o40, f.n⟩
theorem Sg.Ok.at {q : Sg} (h : q.Ok) {c : Int} (h0 : 0 ≤ c) (h1 : c ≤ 65535) : (q.at c).Ok := ⟨h.src, h.dst, h.seq, h.ack, h.flags, h.win, ⟨h0, h1⟩, h.urg, h.opts, h.body⟩

theorem ttot_at {q : Sg} (h : q.Ok) (f : TFits q) (s d : Int) (hs : 0 ≤ s) (hd : 0 ≤ d) : ∃ P : Int, 1 ≤ P ∧ ∀ c, 0 ≤ c → c ≤ 65535 → ttot s d (q.at c) = foldv (P + c) := by
  have hp := tpsv_range s d 6 (tlen q : Nat) hs hd (by omega)
  have hb0 := tcb_bytes (h.at (c := 0) (by omega) (by omega)) (f.at 0)
  have ht := tot_nonneg hb0 (cnt (tlen q))
  refine ⟨psv s d 6 (tlen q : Nat) + tot (tcb (q.at 0)) (cnt (tlen q)), by omega, fun c c0 c1 => ?_⟩
  have hb := tcb_bytes (h.at c0 c1) (f.at c)
  have e : tcb (q.at c) = setw (tcb (q.at 0)) 8 (c / 256) (c % 256) := rfl
  have hl : 2 * 8 + 1 < (tcb (q.at 0)).length := by rw [tcb_len]; unfold tlen; omega
  have hk : 8 < cnt (tlen q) := by unfold cnt tlen; omega
  have hw : wd (tcb (q.at 0)) 8 = 0 := rfl
  unfold ttot
  rw [tlen_at, foldv_acc hb _ (by omega) (by omega), e, tot_setw _ _ _ _ _ hl, if_pos hk, hw]
  congr 1
  omega
theorem tsum_range (s d : Int) (q : Sg) : 0 ≤ tsum s d q ∧ tsum s d q ≤ 65535 := by
  have := ttot_range s d (q.at 0)
  unfold tsum
  split <;> omega
/-- One with its own checksum is right, with any other not, but for the two noughts. -/
theorem tright_at {q : Sg} (h : q.Ok) (f : TFits q) (s d : Int) (hs : 0 ≤ s) (hd : 0 ≤ d) (c : Int) (c0 : 0 ≤ c) (c1 : c ≤ 65535) :
    tright s d (q.at c) = (decide (c = tsum s d q) || (decide (tsum s d q = 0) && decide (c = 65535)) || (decide (tsum s d q = 65535) && decide (c = 0))) := by
  obtain ⟨P, hP, hu⟩ := ttot_at h f s d hs hd
  have e := (tfits_iff q).mpr f
  have e0 := hu 0 (by omega) (by omega)
  unfold tright
  rw [tcErr_at, e, hu c c0 c1]
  unfold tsum
  rw [if_neg (by omega), e0, Int.add_zero]
  have key : foldv (P + c) = 65535 ↔ (c = 65535 - foldv P ∨ (65535 - foldv P = 0 ∧ c = 65535) ∨ (65535 - foldv P = 65535 ∧ c = 0)) := by
    have a1 : ¬ P + c = 0 := by omega
    have a2 : ¬ P = 0 := by omega
    unfold foldv
    simp only [if_neg a1, if_neg a2]
    constructor <;> intro h <;> omega
  simp only [decide_true, Bool.true_and]
  rw [← Bool.decide_and, ← Bool.decide_and, ← Bool.decide_or, ← Bool.decide_or]
  exact decide_eq_decide.mpr (key.trans (by rw [or_assoc]))
end Sm
end Go.Proofs.YtjalpbkfpjfigaaGreat

namespace Go.Proofs.YtjalpbkfpjfigaaGreat
open Sm
namespace Sm
set_option linter.unusedVariables false

structure Mg where
  typ : Int
  code : Int
  sum : Int
  rest : Int
  body : List Int
def Mg.zero : Mg := ⟨0, 0, 0, 0, []⟩
structure Mg.Ok (q : Mg) : Prop where
  typ : 0 ≤ q.typ ∧ q.typ ≤ 255
  code : 0 ≤ q.code ∧ q.code ≤ 255
  sum : 0 ≤ q.sum ∧ q.sum ≤ 65535
  rest : 0 ≤ q.rest ∧ q.rest ≤ 4294967295
  body : IsBytes q.body

/-- What P6.1 answers. -/
def mgErr (l : List Int) : Int := if l.length < 8 then 20 else 0
def mgMg (l : List Int) : Mg := ⟨l.getD 0 0, l.getD 1 0, w16 l 2, w32 l 4, (l.drop 8).take (l.length - 8)⟩
def mgRes (l : List Int) : Mg := if mgErr l = 0 then mgMg l else Mg.zero
def mgbErr (q : Mg) : Int := if 65507 < q.body.length then 23 else 0
/-- The first eight bytes. -/
def mg8 (t k c r : Int) : List Int := [t, k, c / 256, c % 256, r / 16777216, r / 65536 % 256, r / 256 % 256, r % 256]
def mgb (q : Mg) : List Int := mg8 q.typ q.code q.sum q.rest ++ q.body
def mgOut (q : Mg) : List Int := if mgbErr q = 0 then mgb q else []
/-- The whole length. -/
def mlen (q : Mg) : Nat := 8 + q.body.length

theorem mfits_iff (q : Mg) : mgbErr q = 0 ↔ q.body.length ≤ 65507 := by
  unfold mgbErr
  constructor
  · intro h
    split at h <;> omega
  · intro h
    rw [if_neg (by omega)]
theorem mgb_len (q : Mg) : (mgb q).length = mlen q := by simp [mgb, mg8, mlen]; omega
theorem mgb_bytes {q : Mg} (h : q.Ok) : IsBytes (mgb q) := by
  obtain ⟨h1, h2, h3, h4, h5⟩ := h
  unfold mgb mg8
  simp only [List.cons_append, List.nil_append]
  iterate 8 (refine bytes_cons ⟨by omega, by omega⟩ ?_)
  exact h5
theorem mgOut_facts {q : Mg} (h : q.Ok) : IsBytes (mgOut q) ∧ (mgOut q).length ≤ 65515 := by
  unfold mgOut
  by_cases e : mgbErr q = 0
  · rw [if_pos e]; have f := (mfits_iff q).mp e; exact ⟨mgb_bytes h, by rw [mgb_len]; unfold mlen; omega⟩
  · rw [if_neg e]; exact ⟨bytes_nil, by simp⟩
theorem mgRes_ok {l : List Int} (h : IsBytes l) : (mgRes l).Ok := by
  unfold mgRes
  split
  · exact ⟨h 0, h 1, w16_range h 2, w32_range h 4, bytes_part h _ _⟩
  · exact ⟨by decide, by decide, by decide, by decide, bytes_nil⟩

theorem back_merr (q : Mg) : mgErr (mgb q) = 0 := by
  unfold mgErr
  rw [mgb_len, mlen, if_neg (by omega)]
theorem back_mres {q : Mg} (h : q.Ok) : mgRes (mgb q) = q := by
  unfold mgRes
  rw [if_pos (back_merr q)]
  unfold mgMg
  rw [mgb_len]
  obtain ⟨h1, h2, h3, h4, h5⟩ := h
  obtain ⟨t, k, c, r, b⟩ := q
  simp only at h1 h2 h3 h4
  have e0 : ((mgb ⟨t, k, c, r, b⟩).drop 8).take (mlen ⟨t, k, c, r, b⟩ - 8) = b := by
    show b.take (8 + b.length - 8) = b
    rw [Nat.add_sub_cancel_left]; exact List.take_length
  rw [e0]
  unfold w32 w16 mgb mg8
  simp only [List.cons_append, List.nil_append, List.getD_cons_zero, List.getD_cons_succ, Mg.mk.injEq, and_true, true_and]
  refine ⟨?_, ?_⟩ <;> omega

/-! ### Checksums. -/
def Mg.at (q : Mg) (c : Int) : Mg := ⟨q.typ, q.code, c, q.rest, q.body⟩
/-- All words, folded. -/
def mtot (q : Mg) : Int := foldv (acc (mgb q) 0 (cnt (mlen q)))
/-- What P6.1 answers. -/
def msum (q : Mg) : Int := if mgbErr q ≠ 0 then 0 else ofv (mgb (q.at 0))
def mright (q : Mg) : Bool := decide (mgbErr q = 0) && decide (mtot q = 65535)

theorem mgErr_at (q : Mg) (c : Int) : mgbErr (q.at c) = mgbErr q := rfl
theorem mlen_at (q : Mg) (c : Int) : mlen (q.at c) = mlen q := rfl
theorem Mg.Ok.at {q : Mg} (h : q.Ok) {c : Int} (h0 : 0 ≤ c) (h1 : c ≤ 65535) : (q.at c).Ok := ⟨h.typ, h.code, ⟨h0, h1⟩, h.rest, h.body⟩
theorem mtot_range (q : Mg) : 0 ≤ mtot q ∧ mtot q ≤ 65535 := foldv_range _
theorem mtot_at {q : Mg} (h : q.Ok) : ∃ P : Int, 0 ≤ P ∧ ofv (mgb (q.at 0)) = 65535 - foldv P ∧ ∀ c, 0 ≤ c → c ≤ 65535 → mtot (q.at c) = foldv (P + c) := by
  have hb0 := mgb_bytes (h.at (c := 0) (by omega) (by omega))
  refine ⟨tot (mgb (q.at 0)) (cnt (mlen q)), tot_nonneg hb0 _, ?_, fun c c0 c1 => ?_⟩
  · unfold ofv; rw [mgb_len, mlen_at]
  have hb := mgb_bytes (h.at c0 c1)
  have e : mgb (q.at c) = setw (mgb (q.at 0)) 1 (c / 256) (c % 256) := rfl
  have hl : 2 * 1 + 1 < (mgb (q.at 0)).length := by rw [mgb_len]; unfold mlen; omega
  have hk : 1 < cnt (mlen q) := by unfold cnt mlen; omega
  have hw : wd (mgb (q.at 0)) 1 = 0 := rfl
  unfold mtot
  rw [mlen_at, foldv_acc hb _ (by omega) (by omega), e, tot_setw _ _ _ _ _ hl, if_pos hk, hw]
  congr 1
  omega
theorem msum_range (q : Mg) : 0 ≤ msum q ∧ msum q ≤ 65535 := by
  have := ofv_range (mgb (q.at 0))
  unfold msum
  split <;> omega
/-- One with its own checksum is right. -/
theorem mright_own {q : Mg} (h : q.Ok) (f : mgbErr q = 0) : mright (q.at (msum q)) = true := by
  obtain ⟨P, hP, ho, hu⟩ := mtot_at h
  have r := foldv_range P
  have e : msum q = 65535 - foldv P := by unfold msum; rw [if_neg (by omega), ho]
  unfold mright
  rw [mgErr_at, f, e, hu _ (by omega) (by omega)]
  have key : foldv (P + (65535 - foldv P)) = 65535 := by
    unfold foldv
    split <;> split <;> omega
  simp [key]

/-! ### Kinds. -/
/-- What P6.2 answers. -/
def mecho (q : Mg) : Bool := decide (q.typ = 8 ∨ q.typ = 0) && decide (q.code = 0)
def merror (q : Mg) : Bool := decide (q.typ = 3 ∨ q.typ = 11 ∨ q.typ = 12)
end Sm
end Go.Proofs.YtjalpbkfpjfigaaGreat

