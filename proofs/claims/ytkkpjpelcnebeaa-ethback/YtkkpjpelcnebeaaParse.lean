/-
  What eth.Parse answers: the document's frame with a body of the call's own, or the error.
-/
import Derived.Test.YtkkpjpelcnebeaaCopy
namespace Go.Proofs.Ytkkpjpelcnebeaa
open Go.RowKit
open Sm
set_option linter.unusedVariables false

abbrev eth0 : Array Value := #[.int .u8 0, .int .u8 0, .int .u8 0, .int .u8 0, .int .u8 0, .int .u8 0, .int .u8 0, .int .u8 0, .int .u8 0, .int .u8 0, .int .u8 0, .int .u8 0, .int .u16 0, .slice none 0 0]
abbrev ethA (x0 x1 x2 x3 x4 x5 x6 x7 x8 x9 x10 x11 t : Int) (v : Value) : Array Value :=
  #[.int .u8 x0, .int .u8 x1, .int .u8 x2, .int .u8 x3, .int .u8 x4, .int .u8 x5, .int .u8 x6, .int .u8 x7, .int .u8 x8, .int .u8 x9, .int .u8 x10, .int .u8 x11, .int .u16 t, v]
set_option maxHeartbeats 1000000 in
theorem parse_ok (b off cap : Nat) (w : World) (x0 x1 x2 x3 x4 x5 x6 x7 x8 x9 x10 x11 x12 x13 : Int) (body : List Int)
    (h : Row w (some ⟨b, off, none⟩) (x0 :: x1 :: x2 :: x3 :: x4 :: x5 :: x6 :: x7 :: x8 :: x9 :: x10 :: x11 :: x12 :: x13 :: body)) (n m : Nat) (hm : body.length = m) (hn : n = m + 14) (h1 : m ≤ 1586) (hc : n ≤ cap) :
    Calls Try.prog 8 #[.slice (some ⟨b, off, none⟩) n cap] w fun e w' => ∃ ao c, e = .returned (.tuple #[.agg (ethA x0 x1 x2 x3 x4 x5 x6 x7 x8 x9 x10 x11 (x12 * 256 + x13) (.slice ao m c)), .int .i64 0]) ∧ Row w' ao body ∧ m ≤ c ∧ Below w.heap.size w w' := by
  have c12 : w.cell? ⟨b, off + 12, none⟩ = some (.int .u8 x12) := h.cellAt 12 (by simp)
  have c13 : w.cell? ⟨b, off + 13, none⟩ = some (.int .u8 x13) := h.cellAt 13 (by simp)
  obtain ⟨r00, r01⟩ : 0 ≤ x12 ∧ x12 ≤ 255 := h.bytes 12
  obtain ⟨r10, r11⟩ : 0 ≤ x13 ∧ x13 ≤ 255 := h.bytes 13
  have hor := sm_word x12 x13 r00 r01 r10 r11
  have hb := cell_lt c12
  simp only at hb
  have HR : Hid (Row w (some ⟨b, off, none⟩) (x0 :: x1 :: x2 :: x3 :: x4 :: x5 :: x6 :: x7 :: x8 :: x9 :: x10 :: x11 :: x12 :: x13 :: body)) := h
  have HM : Hid (body.length = m) := hm
  clear h hm
  have w12 := wrap16_small x12 r00 (by omega)
  have w13 := wrap16_small x13 r10 (by omega)
  have w12' := wrap16_small (x12 * 256) (by omega) (by omega)
  have hmk := make_bytes m (by omega)
  have hn1 : (14 : Int) ≤ n := by omega
  have hn2 : (n : Int) ≤ 1600 := by omega
  have hcl : (14 : Int) ≤ cap := by omega
  have hc6 : (6 : Int) ≤ cap := by omega
  have hc12 : (12 : Int) ≤ cap := by omega
  have hnm : n - 14 = m := by omega
  have HN : Hid (n = m + 14) := hn
  clear hn
  go_enter Try.func8, Try.ntmps8
  go_upto_region 6 with fail
  go_cut [0, 5] from 7 (fun s0 s5 wx => s0 = .slice (some ⟨b, off, none⟩) n cap ∧ ∃ so, s5 = .slice (some ⟨b, so, none⟩) m m ∧ (m = 0 ∨ so = off + 14) ∧ Mem w wx [(w.heap.size, .cells eth0 28)])
  case first =>
    by_cases hm0 : m = 0
    · have hn3 : n = 14 := by rw [HN.out, hm0]
      go_wp2_with fail
      go_meet
      case rel => exact ⟨by rw [hn3], off, by rw [hm0], Or.inl hm0, (Mem.nil w).alloc _⟩
    · have hn3 : (14 : Int) < n := by rw [HN.out]; omega
      go_wp2_with fail
      go_meet
      case rel => exact ⟨rfl, _, rfl, Or.inr rfl, (Mem.nil w).alloc _⟩
  case rest =>
    obtain ⟨rfl, so, rfl, hso, hM1⟩ := hcut
    have HM1 : Hid _ := hM1
    have d12 : wc.cell? ⟨b, off + 12, none⟩ = some (.int .u8 x12) := (hM1.old hb).trans c12
    have d13 : wc.cell? ⟨b, off + 13, none⟩ = some (.int .u8 x13) := (hM1.old hb).trans c13
    have ne1 := World.new_ne wc ⟨b, off + 12, none⟩ d12
    clear hM1
    go_upto_region 7 with fail
    go_cut [6] from 7 (fun s6 wx => ∃ gm ge, s6 = .pointer (some ⟨ge, 0, none⟩) ∧ Mem w wx [(w.heap.size, .cells eth0 28), (gm, .cells (madeCells #[.int .u8 0] m) 5), (ge, .cells (ethA 0 0 0 0 0 0 0 0 0 0 0 0 (x12 * 256 + x13) (.slice (some ⟨gm, 0, none⟩) m m)) 28)])
    case first =>
      go_region_held3 (fun w' => w'.cell? ⟨b, off + 12, none⟩ = some (.int .u8 x12) ∧ w'.cell? ⟨b, off + 13, none⟩ = some (.int .u8 x13)) (go_keep) (fail)
      all_goals
        go_wp2_with fail
        go_meet
      case rel => exact ⟨wc.heap.size, wc.heap.size + 1, rfl, ((HM1.out.push wc.heap.size _ rfl).push (wc.heap.size + 1) _ (by simp)).drew⟩
      case rel => exact ⟨wc.heap.size + 1, wc.heap.size, rfl, (((HM1.out.push wc.heap.size _ rfl).push (wc.heap.size + 1) _ (by simp)).drew).perm ((List.Perm.swap _ _ _).cons _)⟩
    case rest =>
      clear HM1 ne1 d12 d13
      obtain ⟨gm, ge, rfl, hM2⟩ := hcut
      have HM2 : Hid _ := hM2
      have hge := hM2.ge 2 rfl
      clear hM2
      go_upto_region 8 with fail
      go_cut [] from 7 (fun wx => Mem w wx [(w.heap.size, .cells eth0 28), (gm, .cells (madeCells #[.int .u8 0] m) 5), (ge, .cells (ethA x0 x1 x2 x3 x4 x5 0 0 0 0 0 0 (x12 * 256 + x13) (.slice (some ⟨gm, 0, none⟩) m m)) 28)])
      case first =>
        go_region_law (refine step_copy_bytes rfl (.tmp 38) (.tmp 40) 22 22 rfl Try.underlying22 (some ⟨ge, 0, none⟩) (some ⟨b, off, none⟩) 6 6 6 6 (by simp [Act.eval, Act.put]) (by simp [Act.eval, Act.put]) ge 0 _ (ethA x0 x1 x2 x3 x4 x5 0 0 0 0 0 0 (x12 * 256 + x13) (.slice (some ⟨gm, 0, none⟩) m m)) 28 (HM2.out.drew.get 2 rfl) [x0, x1, x2, x3, x4, x5] rfl (fun _ => ⟨rfl, _, rfl, (HM2.out.drew.row (HR.out.part 0 6 (by simp))).news⟩) (by simp) rfl ?_; intro w3 hw3)
        all_goals
          go_wp2_with fail
          go_meet
          case rel => exact HM2.out.drew.wrote 2 rfl hw3
      case rest =>
        have HM3 : Hid _ := hcut
        clear hcut HM2
        go_upto_region 9 with fail
        go_cut [] from 7 (fun wx => Mem w wx [(w.heap.size, .cells eth0 28), (gm, .cells (madeCells #[.int .u8 0] m) 5), (ge, .cells (ethA x0 x1 x2 x3 x4 x5 x6 x7 x8 x9 x10 x11 (x12 * 256 + x13) (.slice (some ⟨gm, 0, none⟩) m m)) 28)])
        case first =>
          go_region_law (refine step_copy_bytes rfl (.tmp 43) (.tmp 45) 22 22 rfl Try.underlying22 (some ⟨ge, 6, none⟩) (some ⟨b, off + 6, none⟩) 6 6 6 6 (by simp [Act.eval, Act.put]) (by simp [Act.eval, Act.put]) ge 6 _ (ethA x0 x1 x2 x3 x4 x5 x6 x7 x8 x9 x10 x11 (x12 * 256 + x13) (.slice (some ⟨gm, 0, none⟩) m m)) 28 (HM3.out.drew.get 2 rfl) [x6, x7, x8, x9, x10, x11] rfl (fun _ => ⟨rfl, _, rfl, (HM3.out.drew.row (HR.out.part 6 6 (by simp))).news⟩) (by simp) rfl ?_; intro w3 hw3)
          all_goals
            go_wp2_with fail
            go_meet
            case rel => exact HM3.out.drew.wrote 2 rfl hw3
        case rest =>
          have HM4 : Hid _ := hcut
          have k13 : wc.cell? ⟨ge, 13, none⟩ = some (.slice (some ⟨gm, 0, none⟩) m m) := hcut.cell 2 rfl 13
          clear hcut HM3
          go_upto_region 10 with fail
          go_cut [] from 7 (fun wx => Mem w wx [(w.heap.size, .cells eth0 28), (gm, .cells (body.map (Value.int .u8)).toArray 5), (ge, .cells (ethA x0 x1 x2 x3 x4 x5 x6 x7 x8 x9 x10 x11 (x12 * 256 + x13) (.slice (some ⟨gm, 0, none⟩) m m)) 28)])
          case first =>
            have HS : Hid (0 < body.length → some (⟨gm, 0, none⟩ : Addr) = some ⟨gm, 0, none⟩ ∧ ∃ ad, some (⟨b, so, none⟩ : Addr) = some ad ∧ ∀ j v, (body.map (Value.int .u8))[j]? = some v → wc.cell? (ad.add j) = some v) := by
              intro hp
              have hm' := HM.out
              obtain rfl : so = off + 14 := by rcases hso with e | e <;> omega
              refine ⟨rfl, _, rfl, ?_⟩
              have hr := HM4.out.row (HR.out.part 14 m (by simp; omega))
              rw [show List.take m (List.drop 14 (x0 :: x1 :: x2 :: x3 :: x4 :: x5 :: x6 :: x7 :: x8 :: x9 :: x10 :: x11 :: x12 :: x13 :: body)) = body from List.take_of_length_le (by simp; omega)] at hr
              exact hr.news
            obtain ⟨w5, hr5, hw5⟩ := copy_bytes wc 3 (some ⟨gm, 0, none⟩) (some ⟨b, so, none⟩) m m m m gm 0 _ _ 5 (HM4.out.get 1 rfl) body (by rw [HM.out]; exact (Nat.min_self m).symm) HS.out (by rw [HM.out, size_madeCells]; omega) (made_new m body HM.out)
            go_wp2_with fail
            go_meet
            case rel => exact HM4.out.wrote 1 rfl hw5
          case rest =>
            have HM5 : Hid _ := hcut
            have kc : ∀ i, wc.cell? ⟨ge, i, none⟩ = (ethA x0 x1 x2 x3 x4 x5 x6 x7 x8 x9 x10 x11 (x12 * 256 + x13) (.slice (some ⟨gm, 0, none⟩) m m))[i]? := hcut.cell 2 rfl
            have kr : ∀ i, wc.cell? ⟨w.heap.size, i, none⟩ = eth0[i]? := hcut.cell 0 rfl
            have kf : ∀ i, wc.frozen? ⟨w.heap.size, i, none⟩ = false := hcut.free 0 rfl
            clear hcut HM4
            go_wp2_with fail
            have hMe := (HM5.out.get 1 rfl)
            refine bodyPost_ret (v := .tuple #[.agg (ethA x0 x1 x2 x3 x4 x5 x6 x7 x8 x9 x10 x11 (x12 * 256 + x13) (.slice (some ⟨gm, 0, none⟩) m m)), .int .i64 0]) (by simp [results, Try.results8, go_sem, kr]) rfl ⟨some ⟨gm, 0, none⟩, m, rfl, ?_, Nat.le_refl _, ?_⟩
            · have hne := HM5.out.ne 0 1 rfl rfl (by decide)
              have hb' : IsBytes body := fun i => HR.out.bytes (i + 14)
              repeat (refine Row.setCell ?_ hne _)
              exact HM5.out.own 1 rfl hb' (by rw [HM.out]; omega)
            · iterate 14 (refine below_set ?_ (Nat.le_refl _))
              exact HM5.out.below

set_option maxHeartbeats 400000 in
theorem parse_big (a : Option Addr) (n cap : Nat) (w : World) (h : 1600 < n) :
    Calls Try.prog 8 #[.slice a n cap] w fun e w' => e = .returned (.tuple #[.agg eth0, .int .i64 23]) ∧ Below w.heap.size w w' := by
  have h' : (1600 : Int) < n := by omega
  go_enter Try.func8, Try.ntmps8
  go_wp2
  refine bodyPost_ret (v := .tuple #[.agg eth0, .int .i64 23]) (by simp [results, Try.results8, go_sem]) rfl ⟨rfl, ?_⟩
  exact (Below.refl _ _).alloc (Nat.le_refl _) _

set_option maxHeartbeats 400000 in
theorem parse_short (a : Option Addr) (n cap : Nat) (w : World) (h : n < 14) :
    Calls Try.prog 8 #[.slice a n cap] w fun e w' => e = .returned (.tuple #[.agg eth0, .int .i64 20]) ∧ Below w.heap.size w w' := by
  have h' : (n : Int) < 14 := by omega
  go_enter Try.func8, Try.ntmps8
  go_wp2
  refine bodyPost_ret (v := .tuple #[.agg eth0, .int .i64 20]) (by simp [results, Try.results8, go_sem]) rfl ⟨rfl, ?_⟩
  exact (Below.refl _ _).alloc (Nat.le_refl _) _
end Go.Proofs.Ytkkpjpelcnebeaa
