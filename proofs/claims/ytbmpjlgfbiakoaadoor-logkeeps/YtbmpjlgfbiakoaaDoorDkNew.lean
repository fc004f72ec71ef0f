/-
  What package disk's New and Copy answer.
-/
import Derived.Test.YtbmpjlgfbiakoaaDoorDkOne
namespace Go.Proofs.YtbmpjlgfbiakoaaDoor
open Go.RowKit
open Sm
set_option linter.unusedVariables false

theorem info31 : (Tryd.prog.info? 22).map (fun i => (i.zero, i.size, i.bytes)) = some (some (.slice none 0 0), 1, 24) := by kernel_rfl
theorem make_slices (n : Nat) (h : n ≤ 1000000) (w : World) : (Instr.makeSlice 33 (.int .i64 (n : Int)) (.int .i64 (n : Int))).run Tryd.prog w = .ok (.slice (some ⟨w.heap.size, 0, none⟩) n n) (w.alloc (.cells (madeCells #[.slice none 0 0] n) 22)) :=
  run_make_row' 33 22 (.slice none 0 0) 24 Tryd.underlying33 info31 rfl .i64 .i64 n (by omega) (by omega) w

/-- So many slices are laid, the rest is nil. -/
def hdP (m n : Nat) (ks : List Bk) : List Value := ks.map (Bk.hd m) ++ List.replicate (n - ks.length) (.slice none 0 0)
structure Half (w W : World) (h m n : Nat) (ks : List Bk) (L : List (Nat × Obj)) : Prop where
  mem : Mem w W ((h, .cells (hdP m n ks).toArray 22 (0, 0)) :: (ks.map Bk.ob ++ L))
  le : ks.length ≤ n
  ok : ∀ k ∈ ks, k.Ok m

theorem half_start {w W : World} {L : List (Nat × Obj)} (hM : Mem w W L) (m n : Nat) : Half w (W.alloc (.cells (madeCells #[.slice none 0 0] n) 22)) W.heap.size m n [] L := by
  refine ⟨?_, by simp, by simp⟩
  have e : (hdP m n []).toArray = madeCells #[.slice none 0 0] n := by
    apply Array.toList_inj.mp; rw [toList_madeCells_one]; simp [hdP]
  rw [e]
  exact (hM.alloc _).perm List.perm_append_comm

theorem half_next {w W : World} {h m n : Nat} {ks : List Bk} {L : List (Nat × Obj)} (H : Half w W h m n ks L) {W1 : World} {g : Nat} {cur : Array Value} {b : List Int} (hk : Mem W W1 [(g, .cells cur 5 (0, 0))])
    (hok : (Bk.mk g m cur b).Ok m) (hlt : ks.length < n) : Half w (W1.setCell ⟨h, ks.length, none⟩ (.slice (some ⟨g, 0, none⟩) m m)) h m n (ks ++ [Bk.mk g m cur b]) L := by
  refine ⟨?_, by simp; omega, fun k hk => ?_⟩
  · have h1 := H.mem.join hk
    have h2 : Mem w W1 ((h, .cells (hdP m n ks).toArray 22 (0, 0)) :: ((ks ++ [Bk.mk g m cur b]).map Bk.ob ++ L)) := by
      refine h1.perm ?_
      simp only [List.cons_append, List.map_append, List.append_assoc]
      exact ((List.perm_append_comm).append_left _).cons _
    have h3 := h2.set 0 rfl ks.length (.slice (some ⟨g, 0, none⟩) m m)
    have e : (hdP m n ks).toArray.setIfInBounds ks.length (.slice (some ⟨g, 0, none⟩) m m) = (hdP m n (ks ++ [Bk.mk g m cur b])).toArray := by
      apply Array.toList_inj.mp
      rw [Array.toList_setIfInBounds]
      simp only [hdP, List.length_append, List.length_cons, List.length_nil, List.map_append, List.map_cons, List.map_nil]
      obtain ⟨d, hd⟩ : ∃ d, n - ks.length = d + 1 := ⟨n - ks.length - 1, by omega⟩
      rw [hd, show n - (ks.length + (0 + 1)) = d by omega, List.replicate_succ, List.set_append_right _ _ (by simp)]
      simp [Bk.hd]
    rw [e] at h3
    exact h3
  · rcases List.mem_append.mp hk with q | q
    · exact H.ok k q
    · simp at q; subst q; exact hok
theorem half_cell {w W : World} {h m n : Nat} {ks : List Bk} {L : List (Nat × Obj)} (H : Half w W h m n ks L) (hlt : ks.length < n) : W.cell? ⟨h, ks.length, none⟩ = some (.slice none 0 0) := by
  rw [H.mem.cell 0 rfl]
  simp [hdP, List.getElem?_append_right, List.getElem?_replicate]
  omega
theorem half_st {w W : World} {h m n : Nat} {ks : List Bk} {L : List (Nat × Obj)} (H : Half w W h m n ks L) (hn : ks.length = n) (D : Dk) :
    St w (W.alloc (.cells (dkA h n D) dkT)) W.heap.size (dkA h ks.length D) dkT h m (hdP m n ks).toArray ks L := by
  subst hn
  refine ⟨?_, ?_, H.ok⟩
  · exact (H.mem.alloc _).perm (List.perm_append_comm (l₂ := [(W.heap.size, _)]))
  · simp only [hdP, Nat.sub_self, List.replicate_zero, List.append_nil]
    exact List.take_of_length_le (by simp)

theorem made_ok (g m : Nat) : (Bk.mk g m (bs (List.replicate m 0)) (List.replicate m 0)).Ok m := by
  refine ⟨Nat.le_refl _, by simp, by simp, by simp, fun i => ?_⟩
  by_cases h : i < m
  · simp [List.getD, h]
  · simp [List.getD, h]

set_option maxRecDepth 20000 in
set_option maxHeartbeats 1000000 in
theorem dnew_any {w W : World} {L : List (Nat × Obj)} (hM : Mem w W L) (x y : Int) :
    Calls Tryd.prog 12 #[.int .i64 x, .int .i64 y] W fun e W' => ∃ p, e = .returned (.pointer (some ⟨p, 0, none⟩)) ∧ ∃ h hc ks, DkAt w W' p h (bd y 64 65536).toNat ⟨false, false, 0, 0⟩ hc ks L ∧
      ks.map Bk.b = List.replicate (bd x 1 64).toNat (List.replicate (bd y 64 65536).toNat 0) := by
  have b1 := bounded_any x 1 64 W
  have b2 : ∀ W, Calls Tryd.prog 27 #[.int .i64 y, .int .i64 64, .int .i64 65536] W _ := fun W => bounded_any y 64 65536 W
  obtain ⟨n, en⟩ : ∃ n : Nat, bd x 1 64 = n := ⟨(bd x 1 64).toNat, by have : 1 ≤ bd x 1 64 := (by unfold bd; omega); omega⟩
  obtain ⟨m, em⟩ : ∃ m : Nat, bd y 64 65536 = m := ⟨(bd y 64 65536).toNat, by have : 1 ≤ bd y 64 65536 := (by unfold bd; omega); omega⟩
  have hn : 1 ≤ n ∧ n ≤ 64 := by unfold bd at en; omega
  have hm : 64 ≤ m ∧ m ≤ 65536 := by unfold bd at em; omega
  rw [en] at b1
  simp only [em] at b2
  rw [en, em, Int.toNat_natCast, Int.toNat_natCast]
  clear en em
  obtain ⟨hn1, hn2⟩ := hn
  obtain ⟨hm1, hm2⟩ := hm
  have hS := make_slices n (by omega) W
  have hH := half_start hM m n
  generalize W.alloc (.cells (madeCells #[.slice none 0 0] n) 22) = w1 at hS hH
  generalize W.heap.size = h at hS hH
  clear hM
  go_enter Tryd.func12, Tryd.ntmps12
  go_wp2_with fail
  refine b1.mono ?_
  rintro e w' ⟨rfl, rfl⟩
  clear b1
  go_wp2_with fail
  go_loopw [6, 12] (fun u v wr => ∃ ks, v = .int .i64 (ks.length : Nat) ∧ Half w wr h m n ks L ∧ ks.map Bk.b = List.replicate ks.length (List.replicate m 0)) (fun _ v _ => n - (intOf v).toNat)
  case atStart => exact ⟨[], rfl, hH, rfl⟩
  case round =>
    obtain ⟨ks, rfl, hK, hB⟩ := hrel
    have hle := hK.le
    by_cases hlt : ks.length < n
    · have c0 := half_cell hK hlt
      have hM := make_bytes m (by omega) wr
      have hk : Mem wr (wr.alloc (.cells (madeCells #[.int .u8 0] m) 5)) [(wr.heap.size, .cells (bs (List.replicate m 0)) 5 (0, 0))] := by rw [← bs_made]; exact (Mem.nil wr).push1 rfl
      have c1 : (wr.alloc (.cells (madeCells #[.int .u8 0] m) 5)).cell? ⟨h, ks.length, none⟩ = some (.slice none 0 0) := by
        have := cell_lt c0
        rw [← c0]; exact hk.below.cell (p := ⟨h, ks.length, none⟩) this
      have HN : Hid (Half w _ h m n (ks ++ [Bk.mk wr.heap.size m _ _]) L) := half_next hK hk (made_ok wr.heap.size m) hlt
      have f1 : (wr.alloc (.cells (madeCells #[.int .u8 0] m) 5)).frozen? ⟨h, ks.length, none⟩ = false := (hK.mem.join hk).free 0 rfl _
      have HB2 : Hid ((ks ++ [Bk.mk wr.heap.size m (bs (List.replicate m 0)) (List.replicate m 0)]).map Bk.b = List.replicate (ks.length + 1) (List.replicate m 0)) := by
        show _ = _
        rw [List.map_append, hB, List.replicate_succ']; rfl
      have q0 : ((ks.length : Nat) : Int) < (n : Int) := by omega
      have HL : Hid ((ks ++ [Bk.mk wr.heap.size m (bs (List.replicate m 0)) (List.replicate m 0)]).length = ks.length + 1) := by show _ = _; simp
      generalize ks ++ [Bk.mk wr.heap.size m (bs (List.replicate m 0)) (List.replicate m 0)] = ks2 at HN HB2 HL
      generalize wr.alloc (.cells (madeCells #[.int .u8 0] m) 5) = w2 at hM c1 HN f1
      generalize wr.heap.size = g at hM HN
      clear hk hK hB c0 hle hH hS
      generalize ks.length = i at *
      go_wp2_with fail
      refine (b2 _).mono ?_
      rintro e w' ⟨rfl, rfl⟩
      go_wp2
      go_roundw
      case rel => exact ⟨ks2, by rw [HL.out]; go_num, HN.out, by rw [HL.out]; exact HB2.out⟩
      case measure => simp [intOf]; omega
    · have hn : ks.length = n := by omega
      have HS : Hid (St w _ _ _ _ h m _ ks L) := half_st hK hn ⟨false, false, 0, 0⟩
      have HN : Hid (ks.length = n) := hn
      rw [hn] at hB
      have q0 : ¬ ((ks.length : Nat) : Int) < (n : Int) := by omega
      clear hK hle hlt hn hH hS
      go_wp2
      go_ret
      refine ⟨wr.heap.size, rfl, h, _, ks, ⟨HS.out, ?_, ?_, hm1, hm2, by decide, ⟨Int.le_refl 0, Int.natCast_nonneg m⟩⟩, hB⟩
      · rw [HN.out]; omega
      · rw [HN.out]; omega
end Go.Proofs.YtbmpjlgfbiakoaaDoor
