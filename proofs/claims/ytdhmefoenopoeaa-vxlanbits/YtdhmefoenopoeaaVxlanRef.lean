/-
  What the document's own lychref1.Vxlan and lychref1.VxlanBytes answer, whatever they are handed.
-/
import Derived.Test.YtdhmefoenopoeaaVxlanMath
import Derived.Test.YtdhmefoenopoeaaLong
import Derived.OwnWalk
namespace Go.Proofs.Ytdhmefoenopoeaa
open Go.RowKit
open Sm
set_option linter.unusedVariables false

set_option maxHeartbeats 400000 in
theorem rvx_short (a : Option Addr) (n cap : Nat) (w : World) (h : n < 8) :
    Calls Try.prog 9 #[.slice a n cap] w fun e w' => e = .returned (.tuple #[.int .u32 0, .slice none 0 0, .int .i64 20]) ∧ w = w' := by
  have h' : (n : Int) < 8 := by omega
  go_enter Try.func9, Try.ntmps9
  go_wp2
  go_ret3
  exact ⟨rfl, rfl⟩

set_option maxHeartbeats 400000 in
theorem rvx_form {w : World} {b off n cap : Nat} (h : 8 ≤ n) (X : Int) (c0 : w.cell? ⟨b, off, none⟩ = some (.int .u8 X)) (h0 : bits .and .u8 X 8 = 0) :
    Calls Try.prog 9 #[.slice (some ⟨b, off, none⟩) n cap] w fun e w' => e = .returned (.tuple #[.int .u32 0, .slice none 0 0, .int .i64 21]) ∧ w = w' := by
  have h' : (8 : Int) ≤ n := by omega
  have i0 : (0 : Int) < n := by omega
  have i0' : 0 < n := by omega
  go_enter Try.func9, Try.ntmps9
  go_wp2
  go_ret3
  exact ⟨rfl, rfl⟩

set_option maxRecDepth 20000 in
set_option maxHeartbeats 2000000 in
theorem rvx_ok {w : World} {b off n cap : Nat} {l : List Int} (h : Row w (some ⟨b, off, none⟩) l) (hn : l.length = n) (hc : n ≤ cap) (h7 : n ≤ 70000) (m : Nat) (h8 : n = 8 + m) (X0 X4 : Int) (e0 : l.getD 0 0 = X0) (hX0 : bits .and .u8 X0 8 = 8) (e4 : w24 l 4 = X4) (body : List Int) (hbd : (l.drop 8).take m = body) :
    Calls Try.prog 9 #[.slice (some ⟨b, off, none⟩) n cap] w fun r w' => ∃ bo cb, r = .returned (.tuple #[.int .u32 X4, .slice bo m cb, .int .i64 0]) ∧ Row w' bo body ∧ (bo = none → cb = 0) ∧ (∀ x, bo = some x → w.heap.size ≤ x.block) ∧ Below w.heap.size w w' := by
  have h8' : (8 : Int) ≤ n := by omega
  have i0 : (0 : Int) < n := by omega
  have i0' : 0 < n := by omega
  have c0 : w.cell? ⟨b, off, none⟩ = some (.int .u8 X0) := by rw [← e0]; exact h.cellAt 0 (by omega)
  have hg := get32_mem (Mem.nil w) h 4 n cap hn (by omega)
  have e5 : w32 l 4 / 256 = X4 := by rw [w24_w32 h.bytes]; exact e4
  have HC : Hid (∀ W, Mem w W [] → Calls Try.prog 15 #[.slice (some ⟨b, off, none⟩) n cap, .int .i64 8, .int .i64 (n : Int)] W fun e w' => ∃ ao co, e = .returned (.slice ao m co) ∧ Row w' ao body ∧ (ao = none → co = 0) ∧ (∀ x, ao = some x → W.heap.size ≤ x.block) ∧ Below W.heap.size W w' ∧ Mem w w' []) := fun W hM => by
    have := cut_mem hM h n cap 8 m hn hc (by omega) (by omega)
    rw [hbd, ← h8] at this
    exact this
  generalize w32 l 4 = Z at *
  clear h hn hc h7 h8 e0 e4 hbd
  go_enter Try.func9, Try.ntmps9
  go_wp2_with fail
  refine hg.mono ?_
  rintro e w1 ⟨rfl, hM1⟩
  have hcut := HC.out w1 hM1
  have HM1 : Hid _ := hM1
  clear hg HC hM1 c0
  go_wp2_with fail
  refine hcut.mono ?_
  rintro e w2 ⟨bo, cb, rfl, hr, hnil, hfar, hbel, hM2⟩
  have HO : Hid (Row w2 bo body ∧ (bo = none → cb = 0) ∧ (∀ x, bo = some x → w.heap.size ≤ x.block) ∧ Below w.heap.size w w2) := ⟨hr, hnil, fun x hx => Nat.le_trans HM1.out.below.size (hfar x hx), hM2.below⟩
  clear hcut hr hnil hfar hbel hM2
  go_wp2_with fail
  go_ret3
  exact ⟨bo, cb, rfl, HO.out⟩

/-- What lychref1.Vxlan answers, whatever it is handed (up to 70000 bytes). -/
theorem rvx_any {w : World} {a : Option Addr} {n c : Nat} {l : List Int} (hr : Row w a l) (hn : l.length = n) (hc : n ≤ c) (h7 : n ≤ 70000) {E V : Int} {bd : List Int} (hE : vxErr l = E) (hV : vxNet l = V) (hB : vxBody l = bd) {m : Nat} (hm : bd.length = m) :
    Calls Try.prog 9 #[.slice a n c] w fun r w' => ∃ bo cb, r = .returned (.tuple #[.int .u32 V, .slice bo m cb, .int .i64 E]) ∧ Row w' bo bd ∧ (bo = none → cb = 0) ∧ (∀ x, bo = some x → w.heap.size ≤ x.block) ∧ Below w.heap.size w w' := by
  subst hn hE hV hB hm
  by_cases h1 : l.length < 8
  · obtain ⟨q1, q2, q3⟩ := vx_e20 h1
    rw [q1, q2, q3]
    refine (rvx_short a _ c w h1).mono ?_
    rintro r w' ⟨rfl, rfl⟩
    exact ⟨none, 0, rfl, row_nil _, fun _ => rfl, fun x hx => (by cases hx), Below.refl _ _⟩
  rcases hr.cells with e0 | ⟨b, off, rfl, -⟩
  · rw [e0] at h1; simp at h1
  have hb0 := hr.bytes 0
  by_cases h2 : l.getD 0 0 / 8 % 2 = 0
  · obtain ⟨q1, q2, q3⟩ := vx_e21 h1 h2
    rw [q1, q2, q3]
    refine (rvx_form (by omega) _ (hr.cellAt 0 (by omega)) (and8_no _ hb0.1 hb0.2 h2)).mono ?_
    rintro r w' ⟨rfl, rfl⟩
    exact ⟨none, 0, rfl, row_nil _, fun _ => rfl, fun x hx => (by cases hx), Below.refl _ _⟩
  obtain ⟨q1, q2, q3⟩ := vx_e0 h1 h2
  rw [q1, q2, q3]
  have hl : ((l.drop 8).take (l.length - 8)).length = l.length - 8 := by simp
  rw [hl]
  exact rvx_ok hr rfl hc h7 (l.length - 8) (by omega) _ _ rfl (and8_yes _ hb0.1 hb0.2 h2) rfl _ rfl

theorem vx8_puts (v : Int) : [8, 0, 0, 0] ++ [v * 256 / 16777216, v * 256 / 65536 % 256, v * 256 / 256 % 256, v * 256 % 256] = vx8 v := by
  unfold vx8
  rw [show v * 256 / 16777216 = v / 65536 by omega, show v * 256 / 65536 % 256 = v / 256 % 256 by omega, show v * 256 / 256 % 256 = v % 256 by omega, show v * 256 % 256 = 0 by omega]
  rfl

set_option maxRecDepth 20000 in
set_option maxHeartbeats 2000000 in
theorem rvbytes_ok {w : World} {a : Option Addr} {body : List Int} (hr : Row w a body) (m cb : Nat) (hm : body.length = m) (h1 : m ≤ 1592) (hnil : a = none → cb = 0) (v : Int) (hv0 : 0 ≤ v) (hv1 : v ≤ 16777215) :
    Calls Try.prog 12 #[.int .u32 v, .slice a m cb] w fun e w' => ∃ u, e = .returned (.tuple #[u, .int .i64 0]) ∧
      w'.ownsRow w.heap.size 5 1 u (8 + m) ((vx8 v ++ body).map (Value.int .u8)) ∧ Below w.heap.size w w' := by
  have HR : Hid (Row w a body ∧ body.length = m ∧ m ≤ 1592 ∧ (a = none → cb = 0)) := ⟨hr, hm, h1, hnil⟩
  have hmi : (m : Int) ≤ 1592 := by omega
  have w0 := wrap32_small (v * 256) (by omega) (by omega)
  have hM0 := (Mem.nil w).push w.heap.size (.cells (bs [8, 0, 0, 0]) 5) rfl
  have hp := put32_any (mem_owns hM0 0 rfl 4 rfl (by omega)) hM0.below.size (by omega) (v * 256) (by omega) (by omega)
  have HM0 : Hid _ := hM0
  clear hr hm h1 hnil hM0 hv0
  go_enter Try.func12, Try.ntmps12
  go_wp2_with fail
  refine hp.mono ?_
  rintro e w1 ⟨v1, rfl, hown1, hbel1⟩
  have hb1 : Below w.heap.size w w1 := HM0.out.below.trans hbel1
  have hown : w1.ownsRow w.heap.size 5 1 v1 8 ((vx8 v).map (Value.int .u8)) := by
    rw [← vx8_puts]; exact hown1
  have hrow := HR.out.1.below hb1 (Nat.le_refl _)
  clear hp hown1 hbel1 HM0
  go_wp2_with (at_builtin; refine wpList_append_bytes w1 rfl (.tmp 14) (.tmp 15) rfl w.heap.size v1 8 _ rfl hown a cb body (by rw [HR.out.2.1]; rfl) HR.out.2.2.2 hrow (by rw [HR.out.2.1]; omega) hb1.size ?_; intro v2 w2 hown2 hgrow2)
  go_ret2
  refine ⟨_, rfl, ?_, hb1.trans (own_grown hown hgrow2 hb1.size)⟩
  rw [HR.out.2.1] at hown2
  rw [List.map_append]
  exact hown2

set_option maxHeartbeats 400000 in
theorem rvbytes_form (w : World) (a : Option Addr) (m cb : Nat) (v : Int) (h : 16777215 < v) :
    Calls Try.prog 12 #[.int .u32 v, .slice a m cb] w fun e w' => e = .returned (.tuple #[.slice none 0 0, .int .i64 21]) ∧ w = w' := by
  go_enter Try.func12, Try.ntmps12
  go_wp2
  go_ret2
  exact ⟨rfl, rfl⟩
set_option maxHeartbeats 400000 in
theorem rvbytes_big (w : World) (a : Option Addr) (m cb : Nat) (v : Int) (h : v ≤ 16777215) (h1 : 1592 < m) :
    Calls Try.prog 12 #[.int .u32 v, .slice a m cb] w fun e w' => e = .returned (.tuple #[.slice none 0 0, .int .i64 23]) ∧ w = w' := by
  have h' : (1592 : Int) < m := by omega
  go_enter Try.func12, Try.ntmps12
  go_wp2
  go_ret2
  exact ⟨rfl, rfl⟩

/-- What lychref1.VxlanBytes answers, whatever it is handed. -/
theorem rvbytes_any {w : World} {a : Option Addr} {body : List Int} (hr : Row w a body) (m cb : Nat) (hm : body.length = m) (hnil : a = none → cb = 0) (v : Int) (hv0 : 0 ≤ v) {E : Int} {L : List Int} (hE : vxbErr v body = E) (hL : vxOut v body = L) {n : Nat} (hn : L.length = n) :
    Calls Try.prog 12 #[.int .u32 v, .slice a m cb] w fun r w' => ∃ x, r = .returned (.tuple #[x, .int .i64 E]) ∧ w'.ownsRow w.heap.size 5 1 x n (L.map (Value.int .u8)) ∧ Below w.heap.size w w' := by
  subst hm hE hL hn
  by_cases h1 : 16777215 < v
  · have e : vxbErr v body = 21 := by unfold vxbErr; rw [if_pos h1]
    rw [e, vxb_no e (by decide)]
    refine (rvbytes_form w a _ cb v h1).mono ?_
    rintro r w' ⟨rfl, rfl⟩
    exact ⟨_, rfl, World.ownsRow_nil _ _ _ _, Below.refl _ _⟩
  by_cases h2 : 1592 < body.length
  · have e : vxbErr v body = 23 := by unfold vxbErr; rw [if_neg h1, if_pos h2]
    rw [e, vxb_no e (by decide)]
    refine (rvbytes_big w a _ cb v (by omega) h2).mono ?_
    rintro r w' ⟨rfl, rfl⟩
    exact ⟨_, rfl, World.ownsRow_nil _ _ _ _, Below.refl _ _⟩
  have e : vxbErr v body = 0 := (vxfits_iff v body).mpr (by omega)
  have e2 : vxOut v body = vxb v body := if_pos e
  rw [e, e2, vxb_len]
  exact rvbytes_ok hr _ cb rfl (by omega) hnil v hv0 (by omega)
end Go.Proofs.Ytdhmefoenopoeaa
