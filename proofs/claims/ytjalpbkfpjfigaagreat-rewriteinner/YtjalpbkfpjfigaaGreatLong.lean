/-
  Of no one layer: what the document's own lychref1.Get16, Get32, cut, Put32 answer, over blocks of the call's own.
-/
import Derived.Test.YtjalpbkfpjfigaaGreatKit
namespace Go.Proofs.YtjalpbkfpjfigaaGreat
open Go.RowKit
open Sm
set_option linter.unusedVariables false

set_option maxHeartbeats 1000000 in
theorem get32_row {w : World} {b off : Nat} {l : List Int} (h : Row w (some ⟨b, off, none⟩) l) (i n cap : Nat) (hn : l.length = n) (hi : i + 3 < n) :
    Calls Tryz.prog 70 #[.slice (some ⟨b, off, none⟩) n cap, .int .i64 i] w fun e w' => e = .returned (.int .u32 (w32 l i)) ∧ Mem w w' [] := by
  have hlen := h.len
  have b0 := h.bytes i
  have b1 := h.bytes (i + 1)
  have b2 := h.bytes (i + 2)
  have b3 := h.bytes (i + 3)
  have ra := w16_range h.bytes i
  have rb := w16_range h.bytes (i + 2)
  have c1 := get16_row i _ _ (h.cellAt i (by omega)) (h.cellAt (i + 1) (by omega)) b0.1 b0.2 b1.1 b1.2 n cap (by omega) (by omega)
  have c2 : ∀ q, Calls Tryz.prog 41 #[.slice (some ⟨b, off, none⟩) n cap, .int .i64 ((i : Int) + 2)] (w.drewN q) fun e w' => e = .returned (.int .u16 (w16 l (i + 2))) ∧ ∃ q', w' = (w.drewN q).drewN q' := fun q => by
    have := get16_row (w := w.drewN q) (i + 2) _ _ (h.cellAt (i + 2) (by omega)) (h.cellAt (i + 2 + 1) (by omega)) b2.1 b2.2 b3.1 b3.2 n cap (by omega) (by omega)
    rw [show ((i + 2 : Nat) : Int) = (i : Int) + 2 by omega] at this
    exact this
  have c1' : Calls Tryz.prog 41 #[.slice (some ⟨b, off, none⟩) n cap, .int .i64 i] w fun e w' => e = .returned (.int .u16 (w16 l i)) ∧ ∃ q, w' = w.drewN q := c1
  have hor := sm_long _ _ ra.1 ra.2 rb.1 rb.2
  have w0 := wrap32_small (w16 l i) (by omega) (by omega)
  have w1 := wrap32_small (w16 l (i + 2)) (by omega) (by omega)
  have w2 := wrap32_small (w16 l i * 65536) (by omega) (by omega)
  have hwi : IntKind.i64.wrap ((i : Int) + 2) = (i : Int) + 2 := by rw [IntKind.wrap_i64]; omega
  have HE : Hid (w32 l i = w16 l i * 65536 + w16 l (i + 2)) := rfl
  generalize w16 l i = X at *
  generalize w16 l (i + 2) = Y at *
  generalize w32 l i = Z at *
  have ilim : (i : Int) ≤ 140737488351232 := by omega
  clear c1 b0 b1 b2 b3 ra rb h hn hi hlen
  go_enter Tryz.func70, Tryz.ntmps70
  go_wp2_with fail
  refine c1'.mono ?_
  rintro e w' ⟨rfl, q, rfl⟩
  go_wp2_with fail
  refine (c2 q).mono ?_
  rintro e w' ⟨rfl, q', rfl⟩
  go_wp2
  go_ret
  exact ⟨by rw [HE.out]; rfl, (Mem.nil w).drewN _⟩

theorem bytes_four {x y z u : Int} (hx : 0 ≤ x ∧ x ≤ 255) (hy : 0 ≤ y ∧ y ≤ 255) (hz : 0 ≤ z ∧ z ≤ 255) (hu : 0 ≤ u ∧ u ≤ 255) : IsBytes [x, y, z, u] :=
  bytes_cons hx (bytes_cons hy (bytes_cons hz (bytes_cons hu (fun i => by simp))))

set_option maxHeartbeats 1000000 in
theorem put32_any {w : World} {B n : Nat} {v : Value} {xs : List Value} (h : w.ownsRow B 5 1 v n xs) (hB : B ≤ w.heap.size) (hn : n ≤ 1000000) (x : Int) (r0 : 0 ≤ x) (r1 : x ≤ 4294967295) :
    Calls Tryz.prog 53 #[v, .int .u32 x] w fun e w' => ∃ v', e = .returned v' ∧ w'.ownsRow B 5 1 v' (n + 4) (xs ++ [.int .u8 (x / 16777216), .int .u8 (x / 65536 % 256), .int .u8 (x / 256 % 256), .int .u8 (x % 256)]) ∧ Below B w w' := by
  have u1 : IntKind.u8.wrap (x / 16777216) = x / 16777216 := wrap8_small _ (by omega) (by omega)
  have u2 : IntKind.u8.wrap (x / 65536) = x / 65536 % 256 := by simp [IntKind.wrap, IntKind.bits, IntKind.signed]
  have u3 : IntKind.u8.wrap (x / 256) = x / 256 % 256 := by simp [IntKind.wrap, IntKind.bits, IntKind.signed]
  have u4 : IntKind.u8.wrap x = x % 256 := by simp [IntKind.wrap, IntKind.bits, IntKind.signed]
  have HO : Hid (w.ownsRow B 5 1 v n xs) := h
  clear h
  have hb2 : IsBytes [x / 16777216, x / 65536 % 256, x / 256 % 256, x % 256] := bytes_four (by omega) (by omega) (by omega) (by omega)
  have HB : Hid (IsBytes [x / 16777216, x / 65536 % 256, x / 256 % 256, x % 256]) := hb2
  clear hb2
  go_enter Tryz.func53, Tryz.ntmps53
  go_wp2_with (at_builtin; refine wpList_append_more _ rfl (.tmp 5) (.tmp 17) rfl B v n xs rfl (own_after HO.out ((Below.refl _ _).alloc (Nat.le_refl _) _) (Nat.le_refl _)) (some ⟨w.heap.size, 0, none⟩) 4 4 [x / 16777216, x / 65536 % 256, x / 256 % 256, x % 256] rfl rfl (fun e => by cases e) (row_lit w _ HB.out (by simp) 5) (by omega) (by simp; omega) ?_; intro v1 w1 hown hbel)
  go_ret
  exact ⟨_, rfl, hown, ((Below.refl _ _).alloc hB _).trans hbel⟩

theorem get16_mem {w W : World} {L : List (Nat × Obj)} (hM : Mem w W L) {b off : Nat} {l : List Int} (h : Row w (some ⟨b, off, none⟩) l) (i n cap : Nat) (hn : l.length = n) (hi : i + 1 < n) :
    Calls Tryz.prog 41 #[.slice (some ⟨b, off, none⟩) n cap, .int .i64 i] W fun e w' => e = .returned (.int .u16 (w16 l i)) ∧ Mem w w' L := by
  have hlen := h.len
  have b0 := h.bytes i
  have b1 := h.bytes (i + 1)
  refine (get16_row i _ _ ((hM.row h).cellAt i (by omega)) ((hM.row h).cellAt (i + 1) (by omega)) b0.1 b0.2 b1.1 b1.2 n cap (by omega) (by omega)).mono ?_
  rintro e w' ⟨rfl, q, rfl⟩
  exact ⟨rfl, hM.drewN q⟩
theorem get32_mem {w W : World} {L : List (Nat × Obj)} (hM : Mem w W L) {b off : Nat} {l : List Int} (h : Row w (some ⟨b, off, none⟩) l) (i n cap : Nat) (hn : l.length = n) (hi : i + 3 < n) :
    Calls Tryz.prog 70 #[.slice (some ⟨b, off, none⟩) n cap, .int .i64 i] W fun e w' => e = .returned (.int .u32 (w32 l i)) ∧ Mem w w' L := by
  refine (get32_row (hM.row h) i n cap hn hi).mono ?_
  rintro e w' ⟨rfl, hK⟩
  refine ⟨rfl, ?_⟩
  have := hM.join hK
  rwa [List.append_nil] at this
theorem cut_mem {w W : World} {L : List (Nat × Obj)} (hM : Mem w W L) {b off : Nat} {l : List Int} (h : Row w (some ⟨b, off, none⟩) l) (n cap i m : Nat) (hn : l.length = n) (hc : n ≤ cap) (him : i + m ≤ n) (hsm : m ≤ 70000) :
    Calls Tryz.prog 66 #[.slice (some ⟨b, off, none⟩) n cap, .int .i64 i, .int .i64 ((i + m : Nat) : Int)] W fun e w' => ∃ ao co, e = .returned (.slice ao m co) ∧ Row w' ao ((l.drop i).take m) ∧ (ao = none → co = 0) ∧ (∀ x, ao = some x → W.heap.size ≤ x.block) ∧ Below W.heap.size W w' ∧ Mem w w' L := by
  have hlen := h.len
  refine (cut_row (hM.row h) n cap i m hn hc him hsm).mono ?_
  rintro e w' ⟨v, rfl, hown, hb⟩
  have hl2 : ((l.drop i).take m).length = m := by simp; omega
  have hby : IsBytes ((l.drop i).take m) := (h.part i m (by omega)).bytes
  obtain ⟨ao, co, rfl, hrow, hnil, hfar, -⟩ := own_read hown hl2 hby (by omega)
  exact ⟨ao, co, rfl, hrow, hnil, hfar, hb, hM.after hb⟩

/-- The same, its row of the call's own. -/
theorem cut_own {w W : World} {L : List (Nat × Obj)} (hM : Mem w W L) {b off : Nat} {l : List Int} (h : Row w (some ⟨b, off, none⟩) l) (n cap i m : Nat) (hn : l.length = n) (hc : n ≤ cap) (him : i + m ≤ n) (hsm : m ≤ 70000) :
    Calls Tryz.prog 66 #[.slice (some ⟨b, off, none⟩) n cap, .int .i64 i, .int .i64 ((i + m : Nat) : Int)] W fun e w' => ∃ ao co, e = .returned (.slice ao m co) ∧ w'.ownsRow W.heap.size 5 1 (.slice ao m co) m (((l.drop i).take m).map (Value.int .u8)) ∧ Below W.heap.size W w' ∧ Mem w w' L := by
  refine (cut_row (hM.row h) n cap i m hn hc him hsm).mono ?_
  rintro e w' ⟨v, rfl, hown, hb⟩
  obtain ⟨ao, co, rfl⟩ := own_len hown
  exact ⟨ao, co, rfl, hown, hb, hM.after hb⟩

/-- The same, with its room. -/
theorem cut_cap {w W : World} {L : List (Nat × Obj)} (hM : Mem w W L) {b off : Nat} {l : List Int} (h : Row w (some ⟨b, off, none⟩) l) (n cap i m : Nat) (hn : l.length = n) (hc : n ≤ cap) (him : i + m ≤ n) (hsm : m ≤ 70000) :
    Calls Tryz.prog 66 #[.slice (some ⟨b, off, none⟩) n cap, .int .i64 i, .int .i64 ((i + m : Nat) : Int)] W fun e w' => ∃ ao co, e = .returned (.slice ao m co) ∧ Row w' ao ((l.drop i).take m) ∧ ((ao = none → co = 0) ∧ m ≤ co) ∧ (∀ x, ao = some x → W.heap.size ≤ x.block) ∧ Below W.heap.size W w' ∧ Mem w w' L := by
  have hlen := h.len
  refine (cut_row (hM.row h) n cap i m hn hc him hsm).mono ?_
  rintro e w' ⟨v, rfl, hown, hb⟩
  have hl2 : ((l.drop i).take m).length = m := by simp; omega
  have hby : IsBytes ((l.drop i).take m) := (h.part i m (by omega)).bytes
  obtain ⟨ao, co, rfl, hrow, hnil, hfar, hle⟩ := own_read hown hl2 hby (by omega)
  exact ⟨ao, co, rfl, hrow, ⟨hnil, hle⟩, hfar, hb, hM.after hb⟩

theorem put32_inv {T : TypeId} {w W : World} {pA : Array Value} {v : Value} {n : Nat} {L : List Int} (h : Inv T w W pA v n L) (hn : n ≤ 1000000) (x : Int) (r0 : 0 ≤ x) (r1 : x ≤ 4294967295) :
    Calls Tryz.prog 53 #[v, .int .u32 x] W fun e W' => ∃ v', e = .returned v' ∧ Inv T w W' pA v' (n + 4) (L ++ [x / 16777216, x / 65536 % 256, x / 256 % 256, x % 256]) := by
  refine (put32_any h.own h.size hn x r0 r1).mono ?_
  rintro e W' ⟨v', rfl, ho, hb⟩
  exact ⟨v', rfl, h.next (by rw [List.map_append]; exact ho) hb⟩
end Go.Proofs.YtjalpbkfpjfigaaGreat
