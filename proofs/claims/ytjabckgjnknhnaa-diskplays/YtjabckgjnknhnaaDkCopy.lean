/-
  What package disk's Copy answers.
-/
import Derived.Test.YtjabckgjnknhnaaDkNew
namespace Go.Proofs.Ytjabckgjnknhnaa
open Go.RowKit
open Sm
set_option linter.unusedVariables false

theorem half_old {w W : World} {h' m n : Nat} {ks' : List Bk} {p : Nat} {A : Array Value} {T : TypeId} {h : Nat} {hc : Array Value} {ks : List Bk} {L : List (Nat × Obj)} (H : Half w W h' m n ks' (stL p A T h hc ks L))
    (h1 : hc.toList.take ks.length = ks.map (Bk.hd m)) (h2 : ∀ k ∈ ks, k.Ok m) : St w W p A T h m hc ks ((h', .cells (hdP m n ks').toArray 31 (0, 0)) :: (ks'.map Bk.ob ++ L)) := by
  refine ⟨H.mem.perm ?_, h1, h2⟩
  have e : ∀ (a b : List (Nat × Obj)) (x u v : Nat × Obj), (x :: (a ++ u :: v :: (b ++ L))).Perm (u :: v :: (b ++ x :: (a ++ L))) := by
    intro a b x u v
    have q : ((x :: a) ++ ((u :: v :: b) ++ L)).Perm ((u :: v :: b) ++ ((x :: a) ++ L)) := by
      rw [← List.append_assoc, ← List.append_assoc]
      exact (List.perm_append_comm).append_right L
    simpa using q
  exact e _ _ _ _ _
theorem Half.drew {w W : World} {h m n : Nat} {ks : List Bk} {L : List (Nat × Obj)} (H : Half w W h m n ks L) : Half w W.drew h m n ks L := ⟨H.mem.drew, H.le, H.ok⟩
theorem Half.drewN {w W : World} {h m n : Nat} {ks : List Bk} {L : List (Nat × Obj)} (H : Half w W h m n ks L) (q : Nat) : Half w (W.drewN q) h m n ks L := ⟨H.mem.drewN q, H.le, H.ok⟩
theorem same_ok {m : Nat} {k : Bk} (o : k.Ok m) (g : Nat) : (Bk.mk g m (bs k.b) k.b).Ok m :=
  ⟨Nat.le_refl _, by rw [bs_size, o.len]; exact Nat.le_refl _, by show List.take m (List.map _ _) = _; exact List.take_of_length_le (by rw [List.length_map, o.len]; exact Nat.le_refl _), o.len, o.bytes⟩

set_option maxRecDepth 20000 in
set_option maxHeartbeats 1000000 in
theorem dcopy_any {w W : World} {p h m : Nat} {D : Dk} {hc : Array Value} {ks : List Bk} {L : List (Nat × Obj)} (H : DkAt w W p h m D hc ks L) :
    Calls Try.prog 16 #[.pointer (some ⟨p, 0, none⟩)] W fun e W' => ∃ p', e = .returned (.pointer (some ⟨p', 0, none⟩)) ∧ ∃ h' hc' ks', DkAt w W' p' h' m D hc' ks' (stL p (dkA h ks.length D) dkT h hc ks L) ∧ ks'.map Bk.b = ks.map Bk.b := by
  have c0 := H.st.box 0
  simp at c0
  obtain ⟨n, hn⟩ : ∃ n, n = ks.length := ⟨_, rfl⟩
  have ht := H.top
  have hH := half_start H.st.mem m n
  have hS := make_slices n (by omega) W
  have hheads := H.st.heads
  have hoks := H.st.ok
  have HH : Hid (DkAt w W p h m D hc ks L) := H
  have c1 := (half_old hH hheads hoks).box 0
  simp at c1
  rw [← hn] at c0 c1 ht
  have HN : Hid (n = ks.length) := hn
  have HM : Hid (64 ≤ m ∧ m ≤ 65536) := ⟨H.mlo, H.mhi⟩
  generalize W.alloc (.cells (madeCells #[.slice none 0 0] n) 31) = w1 at hS hH c1
  generalize W.heap.size = h' at hS hH
  clear H hn
  go_enter Try.func16, Try.ntmps16
  go_wp2_with fail
  go_loopw [4, 5, 17] (fun u u2 v wr => ∃ ks' : List Bk, v = .int .i64 (ks'.length : Nat) ∧ Half w wr h' m n ks' (stL p (dkA h ks.length D) dkT h hc ks L) ∧ ks'.map Bk.b = (ks.map Bk.b).take ks'.length) (fun _ _ v _ => n - (intOf v).toNat)
  case atStart => exact ⟨[], rfl, hH, by simp⟩
  case round =>
    obtain ⟨ks', rfl, hK, hB⟩ := hrel
    have hle := hK.le
    have hO := half_old hK hheads hoks
    by_cases hlt : ks'.length < n
    · have hi : ks[ks'.length]? = some (ks[ks'.length]'(by have := HN.out; omega)) := List.getElem?_eq_getElem _
      generalize ks[ks'.length]'(by have := HN.out; omega) = k at hi
      have c2 := hO.head hi
      have hr := hO.row hi (by have := HM.out; omega)
      have o := hO.okAt hi
      have hsame := dsame_any o.len hr k.cap
      have c3 := half_cell hK hlt
      have HB2 : Hid (∀ g, (ks' ++ [Bk.mk g m (bs k.b) k.b]).map Bk.b = (ks.map Bk.b).take (ks'.length + 1)) := by
        intro g
        rw [List.map_append, hB, List.take_add_one]
        simp [hi]
      have HNX : Hid (∀ W1 g, Mem wr W1 [(g, .cells (bs k.b) 5 (0, 0))] → Half w (W1.setCell ⟨h', ks'.length, none⟩ (.slice (some ⟨g, 0, none⟩) m m)) h' m n (ks' ++ [Bk.mk g m (bs k.b) k.b]) (stL p (dkA h ks.length D) dkT h hc ks L) ∧ W1.cell? ⟨h', ks'.length, none⟩ = some (.slice none 0 0) ∧ W1.frozen? ⟨h', ks'.length, none⟩ = false) := by
        intro W1 g hm
        refine ⟨half_next hK hm (same_ok o g) hlt, ?_, (hK.mem.join hm).free 0 rfl _⟩
        rw [← c3]; exact hm.below.cell (p := ⟨h', ks'.length, none⟩) (cell_lt c3)
      have q0 : ((ks'.length : Nat) : Int) < (n : Int) := by omega
      have HL : Hid (∀ g, (ks' ++ [Bk.mk g m (bs k.b) k.b]).length = ks'.length + 1) := by intro g; simp
      generalize ks'.length = i at *
      clear hK hB c3 hle hH hS hO hr hi o c1 c0
      go_wp2_with fail
      refine hsame.mono ?_
      rintro e w2 ⟨g, rfl, hm⟩
      obtain ⟨h1, c3, f3⟩ := HNX.out w2 g hm
      have H1 : Hid (Half w (w2.setCell ⟨h', i, none⟩ (.slice (some ⟨g, 0, none⟩) m m)) h' m n (ks' ++ [Bk.mk g m (bs k.b) k.b]) (stL p (dkA h ks.length D) dkT h hc ks L)) := h1
      clear hm h1 HNX hsame
      go_wp2
      go_roundw
      case rel => exact ⟨_, by rw [HL.out g]; go_num, H1.out, by rw [HL.out g]; exact HB2.out g⟩
      case measure => simp [intOf]; omega
    · have hn : ks'.length = n := by omega
      have d1 := hO.box 1
      have d2 := hO.box 2
      have d3 := hO.box 3
      have d4 := hO.box 4
      simp at d1 d2 d3 d4
      have HS : Hid (∀ W1, Half w W1 h' m n ks' (stL p (dkA h ks.length D) dkT h hc ks L) → St w (W1.alloc (.cells (dkA h' n D) dkT)) W1.heap.size (dkA h' ks'.length D) dkT h' m (hdP m n ks').toArray ks' (stL p (dkA h ks.length D) dkT h hc ks L)) := fun W1 hh => half_st hh hn D
      have HK : Hid (Half w wr h' m n ks' (stL p (dkA h ks.length D) dkT h hc ks L)) := hK
      have HN2 : Hid (ks'.length = n) := hn
      have HB : Hid (ks'.map Bk.b = ks.map Bk.b) := by
        rw [hB, hn, HN.out]; exact List.take_of_length_le (by simp)
      have q0 : ¬ ((ks'.length : Nat) : Int) < (n : Int) := by omega
      clear hK hle hlt hn hH hS hO hB c0 c1
      go_wp2
      go_region
      go_wp2
      go_ret
      have H := HH.out
      refine ⟨wr.heap.size, rfl, h', _, ks', ⟨(HS.out wr HK.out).drew, ?_, ?_, H.mlo, H.mhi, H.left, H.pre⟩, HB.out⟩
      · have := H.pos; rw [HN2.out, HN.out]; exact this
      · rw [HN2.out]; exact ht
end Go.Proofs.Ytjabckgjnknhnaa
