/-
  What eth.Bytes answers: the frame's bytes in a row of the call's own, or the error.
-/
import Derived.Test.YtkkpjpelcnebeaaParse
import Derived.Test.YtkkpjpelcnebeaaHelp
namespace Go.Proofs.Ytkkpjpelcnebeaa
open Go.RowKit
open Sm
set_option linter.unusedVariables false

/-- A row's cells. -/
abbrev rowA (l : List Int) : Array Value := (l.map (Value.int .u8)).toArray
theorem made_row (m n : Nat) (h : n = m + 14) : madeCells #[Value.int .u8 0] n = rowA (0 :: 0 :: 0 :: 0 :: 0 :: 0 :: 0 :: 0 :: 0 :: 0 :: 0 :: 0 :: 0 :: 0 :: List.replicate m 0) := by
  subst h
  apply Array.toList_inj.mp
  rw [toList_madeCells_one]
  simp [List.replicate_succ]
theorem two_set (x0 x1 x2 x3 x4 x5 x6 x7 x8 x9 x10 x11 a b : Int) (r : List Int) :
    ((rowA (x0 :: x1 :: x2 :: x3 :: x4 :: x5 :: x6 :: x7 :: x8 :: x9 :: x10 :: x11 :: 0 :: 0 :: r)).setIfInBounds 12 (.int .u8 a)).setIfInBounds 13 (.int .u8 b) = rowA (x0 :: x1 :: x2 :: x3 :: x4 :: x5 :: x6 :: x7 :: x8 :: x9 :: x10 :: x11 :: a :: b :: r) := by
  simp only [rowA, List.map_cons, List.setIfInBounds_toArray, List.set_cons_zero, List.set_cons_succ]

theorem fill_row (p : List Int) (m k : Nat) (body : List Int) (h : body.length = m) (hp : p.length = k) :
    (rowA (p ++ body)).toList = (rowA (p ++ List.replicate m 0)).toList.take k ++ (body.map (Value.int .u8) ++ (rowA (p ++ List.replicate m 0)).toList.drop (k + body.length)) := by
  subst hp
  have e1 : (p.map (Value.int .u8) ++ List.replicate m (Value.int .u8 0)).take p.length = p.map (Value.int .u8) := by
    rw [List.take_append_of_le_length (by simp)]; exact List.take_of_length_le (by simp)
  have e2 : (p.map (Value.int .u8) ++ List.replicate m (Value.int .u8 0)).drop (p.length + body.length) = [] := List.drop_eq_nil_of_le (by simp; omega)
  simp only [List.map_append, List.map_replicate, e1, e2, List.append_nil]
theorem frame_bytes {x0 x1 x2 x3 x4 x5 x6 x7 x8 x9 x10 x11 a b : Int} {body : List Int} (hx : IsBytes [x0, x1, x2, x3, x4, x5, x6, x7, x8, x9, x10, x11]) (hb : IsBytes body) (ha : 0 ≤ a ∧ a ≤ 255) (hc : 0 ≤ b ∧ b ≤ 255) :
    IsBytes (x0 :: x1 :: x2 :: x3 :: x4 :: x5 :: x6 :: x7 :: x8 :: x9 :: x10 :: x11 :: a :: b :: body) := by
  intro i
  match i with
  | 0 => exact hx 0
  | 1 => exact hx 1
  | 2 => exact hx 2
  | 3 => exact hx 3
  | 4 => exact hx 4
  | 5 => exact hx 5
  | 6 => exact hx 6
  | 7 => exact hx 7
  | 8 => exact hx 8
  | 9 => exact hx 9
  | 10 => exact hx 10
  | 11 => exact hx 11
  | 12 => exact ha
  | 13 => exact hc
  | i + 14 => exact hb i

set_option maxHeartbeats 1000000 in
theorem bytes_ok {w : World} {a : Option Addr} {body : List Int} (hr : Row w a body) (m c : Nat) (hm : body.length = m) (h1 : m ≤ 1586) (x0 x1 x2 x3 x4 x5 x6 x7 x8 x9 x10 x11 t : Int) (r0 : 0 ≤ t) (r1 : t ≤ 65535) (n : Nat) (hn : n = m + 14)
    (hx : IsBytes [x0, x1, x2, x3, x4, x5, x6, x7, x8, x9, x10, x11]) :
    Calls Try.prog 11 #[.agg (ethA x0 x1 x2 x3 x4 x5 x6 x7 x8 x9 x10 x11 t (.slice a m c))] w fun e w' => ∃ g, e = .returned (.tuple #[.slice (some ⟨g, 0, none⟩) n n, .int .i64 0]) ∧
      Row w' (some ⟨g, 0, none⟩) (x0 :: x1 :: x2 :: x3 :: x4 :: x5 :: x6 :: x7 :: x8 :: x9 :: x10 :: x11 :: t / 256 :: t % 256 :: body) ∧ Below w.heap.size w w' := by
  have HX : Hid (IsBytes [x0, x1, x2, x3, x4, x5, x6, x7, x8, x9, x10, x11]) := hx
  have HR : Hid (Row w a body) := hr
  have HM : Hid (body.length = m) := hm
  have HN : Hid (n = m + 14) := hn
  have hni : 14 + (m : Int) = n := by omega
  have hnb : (n : Int) ≤ 1600 := by omega
  have hnl : (14 : Int) ≤ n := by omega
  have hn6 : (6 : Int) ≤ n := by omega
  have hn12 : (12 : Int) ≤ n := by omega
  have hl12 : (12 : Int) < n := by omega
  have hl13 : (13 : Int) < n := by omega
  have hnm : n - 14 = m := by omega
  have HZ : Hid (madeCells #[Value.int .u8 0] n = rowA (0 :: 0 :: 0 :: 0 :: 0 :: 0 :: 0 :: 0 :: 0 :: 0 :: 0 :: 0 :: 0 :: 0 :: List.replicate m 0)) := made_row m n hn
  clear hr hm hn hx
  have hmi : (m : Int) ≤ 1586 := by omega
  have hmk := make_bytes n (by omega)
  have u1 : IntKind.u8.wrap (t / 256) = t / 256 := wrap8_small _ (by omega) (by omega)
  have u2 : IntKind.u8.wrap t = t % 256 := by simp [IntKind.wrap, IntKind.bits, IntKind.signed]
  go_enter Try.func11, Try.ntmps11
  go_upto_region 4 with fail
  refine wp_letter (fun W => Mem w W [(w.heap.size, .cells (ethA x0 x1 x2 x3 x4 x5 x6 x7 x8 x9 x10 x11 t (.slice a m c)) 28), (w.heap.size + 1, .cells (rowA (0 :: 0 :: 0 :: 0 :: 0 :: 0 :: 0 :: 0 :: 0 :: 0 :: 0 :: 0 :: 0 :: 0 :: List.replicate m 0)) 5)]) (by rw [← HZ.out]; exact ((Mem.nil w).push w.heap.size _ rfl).push (w.heap.size + 1) _ (by simp)) ?_
  intro w1 hM1
  have HM1 : Hid _ := hM1
  clear hM1 HZ
  go_cut [] from 5 (fun wx => Mem w wx [(w.heap.size, .cells (ethA x0 x1 x2 x3 x4 x5 x6 x7 x8 x9 x10 x11 t (.slice a m c)) 28), (w.heap.size + 1, .cells (rowA (x0 :: x1 :: x2 :: x3 :: x4 :: x5 :: 0 :: 0 :: 0 :: 0 :: 0 :: 0 :: 0 :: 0 :: List.replicate m 0)) 5)])
  case first =>
    have HS : Hid (∀ j v, ([x0, x1, x2, x3, x4, x5].map (Value.int .u8))[j]? = some v → w1.drew.cell? ((⟨w.heap.size, 0, none⟩ : Addr).add j) = some v) := by
      intro j v hj
      rw [Addr.add_lit, HM1.out.drew.cell 0 rfl]
      match j, hj with
      | 0, hj | 1, hj | 2, hj | 3, hj | 4, hj | 5, hj => exact hj
      | j + 6, hj => simp at hj
    go_region_law (refine step_copy_bytes rfl (.tmp 15) (.tmp 17) 22 22 rfl Try.underlying22 (some ⟨w.heap.size + 1, 0, none⟩) (some ⟨w.heap.size, 0, none⟩) 6 6 6 6 (by simp [Act.eval, Act.put]) (by simp [Act.eval, Act.put]) (w.heap.size + 1) 0 _ (rowA (x0 :: x1 :: x2 :: x3 :: x4 :: x5 :: 0 :: 0 :: 0 :: 0 :: 0 :: 0 :: 0 :: 0 :: List.replicate m 0)) 5 (HM1.out.drew.get 1 rfl) [x0, x1, x2, x3, x4, x5] rfl (fun _ => ⟨rfl, _, rfl, HS.out⟩) (by simp) rfl ?_; intro w3 hw3)
    all_goals
      go_wp2_with fail
      go_meet
      case rel => exact HM1.out.drew.wrote 1 rfl hw3
  case rest =>
    have HM2 : Hid _ := hcut
    clear hcut HM1
    go_upto_region 5 with fail
    go_cut [] from 5 (fun wx => Mem w wx [(w.heap.size, .cells (ethA x0 x1 x2 x3 x4 x5 x6 x7 x8 x9 x10 x11 t (.slice a m c)) 28), (w.heap.size + 1, .cells (rowA (x0 :: x1 :: x2 :: x3 :: x4 :: x5 :: x6 :: x7 :: x8 :: x9 :: x10 :: x11 :: 0 :: 0 :: List.replicate m 0)) 5)])
    case first =>
      have HS : Hid (∀ j v, ([x6, x7, x8, x9, x10, x11].map (Value.int .u8))[j]? = some v → wc.drew.cell? ((⟨w.heap.size, 6, none⟩ : Addr).add j) = some v) := by
        intro j v hj
        rw [Addr.add_lit, HM2.out.drew.cell 0 rfl]
        match j, hj with
        | 0, hj | 1, hj | 2, hj | 3, hj | 4, hj | 5, hj => exact hj
        | j + 6, hj => simp at hj
      go_region_law (refine step_copy_bytes rfl (.tmp 20) (.tmp 22) 22 22 rfl Try.underlying22 (some ⟨w.heap.size + 1, 6, none⟩) (some ⟨w.heap.size, 6, none⟩) 6 6 6 6 (by simp [Act.eval, Act.put]) (by simp [Act.eval, Act.put]) (w.heap.size + 1) 6 _ (rowA (x0 :: x1 :: x2 :: x3 :: x4 :: x5 :: x6 :: x7 :: x8 :: x9 :: x10 :: x11 :: 0 :: 0 :: List.replicate m 0)) 5 (HM2.out.drew.get 1 rfl) [x6, x7, x8, x9, x10, x11] rfl (fun _ => ⟨rfl, _, rfl, HS.out⟩) (by simp) rfl ?_; intro w3 hw3)
      all_goals
        go_wp2_with fail
        go_meet
        case rel => exact HM2.out.drew.wrote 1 rfl hw3
    case rest =>
      have HM3 : Hid _ := hcut
      have k12 : wc.cell? ⟨w.heap.size, 12, none⟩ = some (.int .u16 t) := hcut.cell 0 rfl 12
      have o12 : wc.cell? ⟨w.heap.size + 1, 12, none⟩ = some (.int .u8 0) := hcut.cell 1 rfl 12
      have o13 : wc.cell? ⟨w.heap.size + 1, 13, none⟩ = some (.int .u8 0) := hcut.cell 1 rfl 13
      have of : ∀ i, wc.frozen? ⟨w.heap.size + 1, i, none⟩ = false := hcut.free 1 rfl
      clear hcut HM2
      go_upto_region 7 with fail
      refine wp_letter (fun W => Mem w W [(w.heap.size, .cells (ethA x0 x1 x2 x3 x4 x5 x6 x7 x8 x9 x10 x11 t (.slice a m c)) 28), (w.heap.size + 1, .cells (rowA (x0 :: x1 :: x2 :: x3 :: x4 :: x5 :: x6 :: x7 :: x8 :: x9 :: x10 :: x11 :: t / 256 :: t % 256 :: List.replicate m 0)) 5)]) (by rw [← two_set]; exact (HM3.out.set 1 rfl 12 _).set 1 rfl 13 _) ?_
      intro w4 hM4
      have HM4 : Hid _ := hM4
      have k13 : w4.cell? ⟨w.heap.size, 13, none⟩ = some (.slice a m c) := hM4.cell 0 rfl 13
      clear hM4 HM3 k12 o12 o13 of
      go_cut [0, 4] from 5 (fun s0 s4 wx => s4 = .slice (some ⟨w.heap.size + 1, 0, none⟩) n n ∧ Mem w wx [(w.heap.size, .cells (ethA x0 x1 x2 x3 x4 x5 x6 x7 x8 x9 x10 x11 t (.slice a m c)) 28), (w.heap.size + 1, .cells (rowA (x0 :: x1 :: x2 :: x3 :: x4 :: x5 :: x6 :: x7 :: x8 :: x9 :: x10 :: x11 :: t / 256 :: t % 256 :: body)) 5)])
      case first =>
        have HRb := HM4.out.drew.row HR.out
        by_cases hm0 : m = 0
        · have hn14 : n = 14 := by rw [HN.out, hm0]
          have hbn : body = [] := List.eq_nil_of_length_eq_zero (by rw [HM.out]; exact hm0)
          have HE : Hid _ := fill_row [x0, x1, x2, x3, x4, x5, x6, x7, x8, x9, x10, x11, t / 256, t % 256] m 14 body HM.out rfl
          go_region_law (refine step_copy_bytes rfl (.tmp 36) (.tmp 38) 22 22 rfl Try.underlying22 (some ⟨w.heap.size + 1, 0, none⟩) a 0 0 0 c (by simp [Act.eval]) (by simp [Act.eval]) (w.heap.size + 1) 14 _ (rowA (x0 :: x1 :: x2 :: x3 :: x4 :: x5 :: x6 :: x7 :: x8 :: x9 :: x10 :: x11 :: t / 256 :: t % 256 :: body)) 5 (HM4.out.drew.get 1 rfl) body (by rw [hbn]; rfl) (fun hp => by rw [hbn] at hp; simp at hp) (by rw [HM.out]; simp; omega) HE.out ?_; intro w5 hw5)
          all_goals
            go_wp2_with fail
            go_meet
            case rel => exact ⟨by rw [hn14], HM4.out.drew.wrote 1 rfl hw5⟩
        · have hn14 : (14 : Int) < n := by rw [HN.out]; omega
          have hn15 : ¬ n = 14 := by omega
          have HP : Hid (0 < body.length → some (⟨w.heap.size + 1, 14, none⟩ : Addr) = some ⟨w.heap.size + 1, 14, none⟩ ∧ ∃ ad, a = some ad ∧ ∀ j v, (body.map (Value.int .u8))[j]? = some v → w4.drew.cell? (ad.add j) = some v) := by
            intro hp
            have hc := HRb.cells
            rcases hc with e | ⟨b, off, rfl, hc⟩
            · subst e; simp at hp
            · exact ⟨rfl, _, rfl, HRb.news⟩
          have HE : Hid _ := fill_row [x0, x1, x2, x3, x4, x5, x6, x7, x8, x9, x10, x11, t / 256, t % 256] m 14 body HM.out rfl
          clear HRb
          go_region_law (refine step_copy_bytes rfl (.tmp 36) (.tmp 38) 22 22 rfl Try.underlying22 (some ⟨w.heap.size + 1, 14, none⟩) a m m m c (by simp [Act.eval]) (by simp [Act.eval]) (w.heap.size + 1) 14 _ (rowA (x0 :: x1 :: x2 :: x3 :: x4 :: x5 :: x6 :: x7 :: x8 :: x9 :: x10 :: x11 :: t / 256 :: t % 256 :: body)) 5 (HM4.out.drew.get 1 rfl) body (by rw [HM.out]; exact (Nat.min_self m).symm) HP.out (by rw [HM.out]; simp; omega) HE.out ?_; intro w5 hw5)
          all_goals
            go_wp2_with fail
            go_meet
            case rel => exact ⟨rfl, HM4.out.drew.wrote 1 rfl hw5⟩
      case rest =>
        obtain ⟨rfl, hM5⟩ := hcut
        have HM5 : Hid _ := hM5
        clear hM5 HM4
        go_wp2_with fail
        go_ret2
        refine ⟨w.heap.size + 1, rfl, HM5.out.own 1 rfl ?_ ?_, HM5.out.below⟩
        · exact frame_bytes HX.out HR.out.bytes (by omega) (by omega)
        · simp only [List.length_cons, HM.out]; omega

set_option maxHeartbeats 400000 in
theorem bytes_big (w : World) (a : Option Addr) (m c : Nat) (h1 : 1586 < m) (x0 x1 x2 x3 x4 x5 x6 x7 x8 x9 x10 x11 t : Int) :
    Calls Try.prog 11 #[.agg (ethA x0 x1 x2 x3 x4 x5 x6 x7 x8 x9 x10 x11 t (.slice a m c))] w fun e w' => e = .returned (.tuple #[.slice none 0 0, .int .i64 23]) ∧ Below w.heap.size w w' := by
  have h' : (1586 : Int) < m := by omega
  go_enter Try.func11, Try.ntmps11
  go_wp2
  go_ret2
  exact ⟨rfl, (Below.refl _ _).alloc (Nat.le_refl _) _⟩
end Go.Proofs.Ytkkpjpelcnebeaa
