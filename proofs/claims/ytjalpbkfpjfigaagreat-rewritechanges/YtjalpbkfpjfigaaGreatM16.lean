/-
  What tcp.Bytes answers where it writes a segment: its bytes in a row of the call's own.
  What tcp.Parse answers where it reads a segment: no options, no body.
-/
import Derived.Test.YtjalpbkfpjfigaaGreatM14
import Derived.Test.YtjalpbkfpjfigaaGreatM11
namespace Go.Proofs.YtjalpbkfpjfigaaGreat
open Go.RowKit
open Sm
set_option linter.unusedVariables false

theorem blz_tc20 (n o m hd : Nat) (h : n = 20 + o + m) (s d sq ak fl wi c ur : Int) : blz n [(0, s / 256), (1, s % 256), (2, d / 256), (3, d % 256), (4, sq / 16777216), (5, sq / 65536 % 256), (6, sq / 256 % 256), (7, sq % 256), (8, ak / 16777216), (9, ak / 65536 % 256), (10, ak / 256 % 256), (11, ak % 256), (12, (hd : Int) / 4 * 16), (13, fl), (14, wi / 256), (15, wi % 256), (16, c / 256), (17, c % 256), (18, ur / 256), (19, ur % 256)] = tc20 hd s d sq ak fl wi c ur ++ List.replicate o 0 ++ List.replicate m 0 := by
  have e : List.replicate n (0 : Int) = List.replicate 20 0 ++ (List.replicate o 0 ++ List.replicate m 0) := by rw [h, List.replicate_append_replicate, List.replicate_append_replicate, Nat.add_assoc]
  unfold blz
  rw [e, List.append_assoc]
  generalize List.replicate o (0 : Int) ++ List.replicate m (0 : Int) = R
  simp only [List.foldl_cons, List.foldl_nil, List.replicate, List.cons_append, List.nil_append, List.set_cons_zero, List.set_cons_succ, tc20]

set_option maxRecDepth 20000 in
set_option maxHeartbeats 4000000 in
theorem tbytes_ok {w : World} {ao bo : Option Addr} {opts body : List Int} (hro : Row w ao opts) (hrb : Row w bo body) (o co m cb n hd : Nat) (ho : opts.length = o) (hm : body.length = m) (h4 : o % 4 = 0) (h40 : o ≤ 40) (hn : n = 20 + o + m) (hhd : hd = 20 + o) (h1 : n ≤ 65515) (s d sq ak fl wi c ur : Int)
    (hs : 0 ≤ s ∧ s ≤ 65535) (hd' : 0 ≤ d ∧ d ≤ 65535) (hsq : 0 ≤ sq ∧ sq ≤ 4294967295) (hak : 0 ≤ ak ∧ ak ≤ 4294967295) (hfl : 0 ≤ fl ∧ fl ≤ 255) (hwi : 0 ≤ wi ∧ wi ≤ 65535) (hc : 0 ≤ c ∧ c ≤ 65535) (hur : 0 ≤ ur ∧ ur ≤ 65535) :
    Calls Tryz.prog 61 #[.agg (tcA s d sq ak fl wi c ur (.slice ao o co) (.slice bo m cb))] w fun e w' => e = .returned (.tuple #[.slice (some ⟨w.heap.size + 1, 0, none⟩) n n, .int .i64 0]) ∧
      w'.ownsRow w.heap.size 5 1 (.slice (some ⟨w.heap.size + 1, 0, none⟩) n n) n ((tc20 hd s d sq ak fl wi c ur ++ opts ++ body).map (Value.int .u8)) ∧ Below w.heap.size w w' := by
  have HR : Hid (Row w ao opts ∧ Row w bo body ∧ opts.length = o ∧ body.length = m ∧ n = 20 + o + m ∧ hd = 20 + o ∧ n ≤ 65515 ∧ o ≤ 40) := ⟨hro, hrb, ho, hm, hn, hhd, h1, h40⟩
  have H : Hid ((0 ≤ s ∧ s ≤ 65535) ∧ (0 ≤ d ∧ d ≤ 65535) ∧ (0 ≤ sq ∧ sq ≤ 4294967295) ∧ (0 ≤ ak ∧ ak ≤ 4294967295) ∧ (0 ≤ fl ∧ fl ≤ 255) ∧ (0 ≤ wi ∧ wi ≤ 65535) ∧ (0 ≤ c ∧ c ≤ 65535) ∧ 0 ≤ ur ∧ ur ≤ 65535) := ⟨hs, hd', hsq, hak, hfl, hwi, hc, hur⟩
  have o4 : (o : Int) % 4 = 0 := by omega
  have o40 : (o : Int) ≤ 40 := by omega
  have eh : 20 + (o : Int) = hd := by omega
  have en : (hd : Int) + m = n := by omega
  have mb : (m : Int) ≤ 65515 - hd := by omega
  have nb : (n : Int) ≤ 65515 := by omega
  have n2 : (2 : Int) ≤ n := by omega
  have n4 : (4 : Int) ≤ n := by omega
  have n8 : (8 : Int) ≤ n := by omega
  have n12 : (12 : Int) ≤ n := by omega
  have n16 : (16 : Int) ≤ n := by omega
  have n18 : (18 : Int) ≤ n := by omega
  have n20 : (20 : Int) ≤ n := by omega
  have l12 : (12 : Int) < n := by omega
  have l13 : (13 : Int) < n := by omega
  have hn1 : (hd : Int) ≤ n := by omega
  have hh1 : (20 : Int) ≤ hd := by omega
  have ho1 : hd - 20 = o := by omega
  have hm1 : n - hd = m := by omega
  have hmk := make_bytes n (by omega)
  have q1 : IntKind.u8.wrap ((hd : Int) / 4) = (hd : Int) / 4 := wrap8_small _ (by omega) (by omega)
  have q2 : IntKind.u8.wrap ((hd : Int) / 4 * 16) = (hd : Int) / 4 * 16 := wrap8_small _ (by omega) (by omega)
  have q3 : IntKind.i64.wrap ((hd : Int) / 4) = (hd : Int) / 4 := wrap64_small _ (by omega) (by omega)
  have hdb : (hd : Int) ≤ 60 := by omega
  clear hro hrb ho hm h4 h40 hn hhd h1 hs hd' hsq hak hfl hwi hc hur
  go_enter Tryz.func61, Tryz.ntmps61
  go_upto_region 7 with fail
  refine wp_letter (fun W => Mem w W [(w.heap.size, .cells (tcA s d sq ak fl wi c ur (.slice ao o co) (.slice bo m cb)) tcT), (w.heap.size + 1, .cells (bs (blz n [])) 5)]) (by rw [show bs (blz n []) = madeCells #[Value.int .u8 0] n from (bs_made n).symm]; exact ((Mem.nil w).push w.heap.size _ rfl).push (w.heap.size + 1) _ (by simp)) ?_
  intro w1 hM1
  have HM1 : Hid _ := hM1
  have k1 : w1.cell? ⟨w.heap.size, 0, none⟩ = some (.int .u16 s) := hM1.cell 0 rfl 0
  have p1 := tput_at hM1.drew 1 rfl 0 (by have := HR.out; omega) 2 s H.out.1.1 H.out.1.2
  clear hM1
  go_cut [] from 6 (fun wx => Mem w wx [(w.heap.size, .cells (tcA s d sq ak fl wi c ur (.slice ao o co) (.slice bo m cb)) tcT), (w.heap.size + 1, .cells (bs (blz n [(0, s / 256), (1, s % 256)])) 5)])
  case first =>
    go_region_held3 (fun w' => w'.cell? ⟨w.heap.size, 0, none⟩ = some (.int .u16 s)) (first | go_keep | exact hM5.cell 0 rfl 0)
      (first | (go_at_call 86; refine p1.mono ?_; rintro e w5 ⟨rfl, hM5⟩))
    all_goals
      go_wp2_with fail
      go_meet
      case rel => exact hM5
  case rest =>
  clear k1 p1 HM1
  have hM2 := hcut
  have HM2 : Hid _ := hcut
  clear hcut
  have k2 : wc.cell? ⟨w.heap.size, 1, none⟩ = some (.int .u16 d) := hM2.cell 0 rfl 1
  have p2 := tput_at hM2.drew 1 rfl 2 (by have := HR.out; omega) 2 d H.out.2.1.1 H.out.2.1.2
  clear hM2
  go_upto_region 8 with fail
  go_cut [] from 6 (fun wx => Mem w wx [(w.heap.size, .cells (tcA s d sq ak fl wi c ur (.slice ao o co) (.slice bo m cb)) tcT), (w.heap.size + 1, .cells (bs (blz n [(0, s / 256), (1, s % 256), (2, d / 256), (3, d % 256)])) 5)])
  case first =>
    go_region_held3 (fun w' => w'.cell? ⟨w.heap.size, 1, none⟩ = some (.int .u16 d)) (first | go_keep | exact hM5.cell 0 rfl 1)
      (first | (go_at_call 86; refine p2.mono ?_; rintro e w5 ⟨rfl, hM5⟩))
    all_goals
      go_wp2_with fail
      go_meet
      case rel => exact hM5
  case rest =>
  clear k2 p2 HM2
  have hM3 := hcut
  have HM3 : Hid _ := hcut
  clear hcut
  have k3 : wc.cell? ⟨w.heap.size, 2, none⟩ = some (.int .u32 sq) := hM3.cell 0 rfl 2
  have p3 := tputLong_at hM3.drew 1 rfl 4 (by have := HR.out; omega) sq H.out.2.2.1.1 H.out.2.2.1.2
  clear hM3
  go_upto_region 9 with fail
  go_cut [] from 6 (fun wx => Mem w wx [(w.heap.size, .cells (tcA s d sq ak fl wi c ur (.slice ao o co) (.slice bo m cb)) tcT), (w.heap.size + 1, .cells (bs (blz n [(0, s / 256), (1, s % 256), (2, d / 256), (3, d % 256), (4, sq / 16777216), (5, sq / 65536 % 256), (6, sq / 256 % 256), (7, sq % 256)])) 5)])
  case first =>
    go_region_held3 (fun w' => w'.cell? ⟨w.heap.size, 2, none⟩ = some (.int .u32 sq)) (first | go_keep | exact hM5.cell 0 rfl 2)
      (first | (go_at_call 87; refine p3.mono ?_; rintro e w5 ⟨rfl, hM5⟩))
    all_goals
      go_wp2_with fail
      go_meet
      case rel => exact hM5
  case rest =>
  clear k3 p3 HM3
  have hM4 := hcut
  have HM4 : Hid _ := hcut
  clear hcut
  have k4 : wc.cell? ⟨w.heap.size, 3, none⟩ = some (.int .u32 ak) := hM4.cell 0 rfl 3
  have p4 := tputLong_at hM4.drew 1 rfl 8 (by have := HR.out; omega) ak H.out.2.2.2.1.1 H.out.2.2.2.1.2
  clear hM4
  go_upto_region 10 with fail
  go_cut [] from 6 (fun wx => Mem w wx [(w.heap.size, .cells (tcA s d sq ak fl wi c ur (.slice ao o co) (.slice bo m cb)) tcT), (w.heap.size + 1, .cells (bs (blz n [(0, s / 256), (1, s % 256), (2, d / 256), (3, d % 256), (4, sq / 16777216), (5, sq / 65536 % 256), (6, sq / 256 % 256), (7, sq % 256), (8, ak / 16777216), (9, ak / 65536 % 256), (10, ak / 256 % 256), (11, ak % 256)])) 5)])
  case first =>
    go_region_held3 (fun w' => w'.cell? ⟨w.heap.size, 3, none⟩ = some (.int .u32 ak)) (first | go_keep | exact hM5.cell 0 rfl 3)
      (first | (go_at_call 87; refine p4.mono ?_; rintro e w5 ⟨rfl, hM5⟩))
    all_goals
      go_wp2_with fail
      go_meet
      case rel => exact hM5
  case rest =>
  clear k4 p4 HM4
  have hM5 := hcut
  have HM5 : Hid _ := hcut
  clear hcut
  obtain ⟨z12, k12⟩ := hM5.spot 1 rfl 12 (by have := HR.out; omega)
  obtain ⟨z13, k13⟩ := hM5.spot 1 rfl 13 (by have := HR.out; omega)
  have kl : wc.cell? ⟨w.heap.size, 4, none⟩ = some (.int .u8 fl) := hM5.cell 0 rfl 4
  have kf : ∀ i, wc.frozen? ⟨w.heap.size + 1, i, none⟩ = false := hM5.free 1 rfl
  clear hM5
  go_upto_region 13 with fail
  refine wp_letter (fun W => Mem w W [(w.heap.size, .cells (tcA s d sq ak fl wi c ur (.slice ao o co) (.slice bo m cb)) tcT), (w.heap.size + 1, .cells (bs (blz n [(0, s / 256), (1, s % 256), (2, d / 256), (3, d % 256), (4, sq / 16777216), (5, sq / 65536 % 256), (6, sq / 256 % 256), (7, sq % 256), (8, ak / 16777216), (9, ak / 65536 % 256), (10, ak / 256 % 256), (11, ak % 256), (12, (hd : Int) / 4 * 16), (13, fl)])) 5)]) ((HM5.out.put 1 rfl 12 ((hd : Int) / 4 * 16)).put 1 rfl 13 fl) ?_
  clear k12 k13 kl kf HM5
  intro w6 hM6
  have HM6 : Hid _ := hM6
  have k6 : w6.cell? ⟨w.heap.size, 5, none⟩ = some (.int .u16 wi) := hM6.cell 0 rfl 5
  have p6 := tput_at hM6.drew 1 rfl 14 (by have := HR.out; omega) 2 wi H.out.2.2.2.2.2.1.1 H.out.2.2.2.2.2.1.2
  clear hM6
  go_cut [] from 6 (fun wx => Mem w wx [(w.heap.size, .cells (tcA s d sq ak fl wi c ur (.slice ao o co) (.slice bo m cb)) tcT), (w.heap.size + 1, .cells (bs (blz n [(0, s / 256), (1, s % 256), (2, d / 256), (3, d % 256), (4, sq / 16777216), (5, sq / 65536 % 256), (6, sq / 256 % 256), (7, sq % 256), (8, ak / 16777216), (9, ak / 65536 % 256), (10, ak / 256 % 256), (11, ak % 256), (12, (hd : Int) / 4 * 16), (13, fl), (14, wi / 256), (15, wi % 256)])) 5)])
  case first =>
    go_region_held3 (fun w' => w'.cell? ⟨w.heap.size, 5, none⟩ = some (.int .u16 wi)) (first | go_keep | exact hM5.cell 0 rfl 5)
      (first | (go_at_call 86; refine p6.mono ?_; rintro e w5 ⟨rfl, hM5⟩))
    all_goals
      go_wp2_with fail
      go_meet
      case rel => exact hM5
  case rest =>
  clear k6 p6 HM6
  have hM7 := hcut
  have HM7 : Hid _ := hcut
  clear hcut
  have k7 : wc.cell? ⟨w.heap.size, 6, none⟩ = some (.int .u16 c) := hM7.cell 0 rfl 6
  have p7 := tput_at hM7.drew 1 rfl 16 (by have := HR.out; omega) 2 c H.out.2.2.2.2.2.2.1.1 H.out.2.2.2.2.2.2.1.2
  clear hM7
  go_upto_region 14 with fail
  go_cut [] from 6 (fun wx => Mem w wx [(w.heap.size, .cells (tcA s d sq ak fl wi c ur (.slice ao o co) (.slice bo m cb)) tcT), (w.heap.size + 1, .cells (bs (blz n [(0, s / 256), (1, s % 256), (2, d / 256), (3, d % 256), (4, sq / 16777216), (5, sq / 65536 % 256), (6, sq / 256 % 256), (7, sq % 256), (8, ak / 16777216), (9, ak / 65536 % 256), (10, ak / 256 % 256), (11, ak % 256), (12, (hd : Int) / 4 * 16), (13, fl), (14, wi / 256), (15, wi % 256), (16, c / 256), (17, c % 256)])) 5)])
  case first =>
    go_region_held3 (fun w' => w'.cell? ⟨w.heap.size, 6, none⟩ = some (.int .u16 c)) (first | go_keep | exact hM5.cell 0 rfl 6)
      (first | (go_at_call 86; refine p7.mono ?_; rintro e w5 ⟨rfl, hM5⟩))
    all_goals
      go_wp2_with fail
      go_meet
      case rel => exact hM5
  case rest =>
  clear k7 p7 HM7
  have hM8 := hcut
  have HM8 : Hid _ := hcut
  clear hcut
  have k8 : wc.cell? ⟨w.heap.size, 7, none⟩ = some (.int .u16 ur) := hM8.cell 0 rfl 7
  have p8 := tput_at hM8.drew 1 rfl 18 (by have := HR.out; omega) 2 ur H.out.2.2.2.2.2.2.2.1 H.out.2.2.2.2.2.2.2.2
  clear hM8
  go_upto_region 15 with fail
  go_cut [] from 6 (fun wx => Mem w wx [(w.heap.size, .cells (tcA s d sq ak fl wi c ur (.slice ao o co) (.slice bo m cb)) tcT), (w.heap.size + 1, .cells (bs (tc20 hd s d sq ak fl wi c ur ++ List.replicate o 0 ++ List.replicate m 0)) 5)])
  case first =>
    go_region_held3 (fun w' => w'.cell? ⟨w.heap.size, 7, none⟩ = some (.int .u16 ur)) (first | go_keep | exact hM5.cell 0 rfl 7)
      (first | (go_at_call 86; refine p8.mono ?_; rintro e w5 ⟨rfl, hM5⟩))
    all_goals
      go_wp2_with fail
      go_meet
      case rel => rw [← blz_tc20 n o m hd HR.out.2.2.2.2.1]; exact hM5
  case rest =>
  clear k8 p8 HM8
  have hM9 := hcut
  have HM9 : Hid _ := hcut
  clear hcut
  have k8 : wc.cell? ⟨w.heap.size, 8, none⟩ = some (.slice ao o co) := hM9.cell 0 rfl 8
  clear hM9
  go_upto_region 16 with fail
  go_cut [0, 4, 5] from 6 (fun s0 s4 s5 wx => s4 = .int .i64 (hd : Int) ∧ s5 = .slice (some ⟨w.heap.size + 1, 0, none⟩) n n ∧ Mem w wx [(w.heap.size, .cells (tcA s d sq ak fl wi c ur (.slice ao o co) (.slice bo m cb)) tcT), (w.heap.size + 1, .cells (bs (tc20 hd s d sq ak fl wi c ur ++ opts ++ List.replicate m 0)) 5)])
  case first =>
    have HRb := HM9.out.drew.row HR.out.1
    have HE : Hid _ := bs_fill (tc20 hd s d sq ak fl wi c ur) opts (List.replicate m 0) (List.replicate o 0) (by rw [List.length_replicate]; exact HR.out.2.2.1.symm)
    have HF : Hid (20 + opts.length ≤ (bs (tc20 hd s d sq ak fl wi c ur ++ List.replicate o 0 ++ List.replicate m 0)).size) := by
      have q := HR.out
      show _ ≤ _
      rw [bs_size, List.length_append, List.length_append, List.length_replicate, List.length_replicate, q.2.2.1]
      exact Nat.le_add_right _ _
    by_cases ho0 : o = 0
    · have hh0 : hd = 20 := by have := HR.out; omega
      have hbn : opts = [] := List.eq_nil_of_length_eq_zero (by rw [HR.out.2.2.1]; exact ho0)
      clear HRb
      go_region_law (refine step_copy_bytes rfl (.tmp 81) (.tmp 83) 22 22 rfl Tryz.underlying22 (some ⟨w.heap.size + 1, 0, none⟩) ao 0 0 0 co (by simp [Act.eval]) (by simp [Act.eval]) (w.heap.size + 1) 20 _ (bs (tc20 hd s d sq ak fl wi c ur ++ opts ++ List.replicate m 0)) 5 (HM9.out.drew.get 1 rfl) opts (by rw [hbn]; rfl) (fun hp => by rw [hbn] at hp; simp at hp) HF.out HE.out ?_; intro w5 hw5)
      all_goals
        go_wp2_with fail
        go_meet
        case rel => exact ⟨by rw [hh0] <;> rfl, rfl, HM9.out.drew.wrote 1 rfl hw5⟩
    · have hh0 : (20 : Int) < hd := by omega
      have hh2 : ¬ hd = 20 := by omega
      have HP : Hid (0 < opts.length → some (⟨w.heap.size + 1, 20, none⟩ : Addr) = some ⟨w.heap.size + 1, 20, none⟩ ∧ ∃ ad, ao = some ad ∧ ∀ j v, (opts.map (Value.int .u8))[j]? = some v → wc.drew.cell? (ad.add j) = some v) := by
        intro hp
        have hc := HRb.cells
        rcases hc with e | ⟨b, off, rfl, hc⟩
        · subst e; simp at hp
        · exact ⟨rfl, _, rfl, HRb.news⟩
      clear HRb
      go_region_law (refine step_copy_bytes rfl (.tmp 81) (.tmp 83) 22 22 rfl Tryz.underlying22 (some ⟨w.heap.size + 1, 20, none⟩) ao o o o co (by simp [Act.eval]) (by simp [Act.eval]) (w.heap.size + 1) 20 _ (bs (tc20 hd s d sq ak fl wi c ur ++ opts ++ List.replicate m 0)) 5 (HM9.out.drew.get 1 rfl) opts (by rw [HR.out.2.2.1]; exact (Nat.min_self o).symm) HP.out HF.out HE.out ?_; intro w5 hw5)
      all_goals
        go_wp2_with fail
        go_meet
        case rel => exact ⟨rfl, rfl, HM9.out.drew.wrote 1 rfl hw5⟩
  case rest =>
  obtain ⟨rfl, rfl, hM10⟩ := hcut
  have HM10 : Hid _ := hM10
  have k9 : wc.cell? ⟨w.heap.size, 9, none⟩ = some (.slice bo m cb) := hM10.cell 0 rfl 9
  clear hM10 HM9 k8
  go_upto_region 17 with fail
  go_cut [0, 4, 5] from 6 (fun s0 s4 s5 wx => s5 = .slice (some ⟨w.heap.size + 1, 0, none⟩) n n ∧ Mem w wx [(w.heap.size, .cells (tcA s d sq ak fl wi c ur (.slice ao o co) (.slice bo m cb)) tcT), (w.heap.size + 1, .cells (bs (tc20 hd s d sq ak fl wi c ur ++ opts ++ body)) 5)])
  case first =>
    have HRb := HM10.out.drew.row HR.out.2.1
    have HLp : Hid ((tc20 hd s d sq ak fl wi c ur ++ opts).length = hd) := by
      have q := HR.out
      show _ = _
      rw [List.length_append, q.2.2.1, q.2.2.2.2.2.1]; rfl
    have HE : Hid _ := bs_tail (tc20 hd s d sq ak fl wi c ur ++ opts) body hd m HLp.out HR.out.2.2.2.1
    have HF : Hid (hd + body.length ≤ (bs (tc20 hd s d sq ak fl wi c ur ++ opts ++ List.replicate m 0)).size) := by
      have q := HR.out
      show _ ≤ _
      rw [bs_size, List.length_append, HLp.out, List.length_replicate, q.2.2.2.1]
      exact Nat.le_refl _
    by_cases hm0 : m = 0
    · have hn0 : n = hd := by have := HR.out; omega
      have hbn : body = [] := List.eq_nil_of_length_eq_zero (by rw [HR.out.2.2.2.1]; exact hm0)
      clear HRb
      go_region_law (refine step_copy_bytes rfl (.tmp 87) (.tmp 89) 22 22 rfl Tryz.underlying22 (some ⟨w.heap.size + 1, 0, none⟩) bo 0 0 0 cb (by simp [Act.eval]) (by simp [Act.eval]) (w.heap.size + 1) hd _ (bs (tc20 hd s d sq ak fl wi c ur ++ opts ++ body)) 5 (HM10.out.drew.get 1 rfl) body (by rw [hbn]; rfl) (fun hp => by rw [hbn] at hp; simp at hp) HF.out HE.out ?_; intro w5 hw5)
      all_goals
        go_wp2_with fail
        go_meet
        case rel => exact ⟨by rw [hn0], HM10.out.drew.wrote 1 rfl hw5⟩
    · have hn0 : (hd : Int) < n := by omega
      have hn3 : ¬ n = hd := by omega
      have HP : Hid (0 < body.length → some (⟨w.heap.size + 1, hd, none⟩ : Addr) = some ⟨w.heap.size + 1, hd, none⟩ ∧ ∃ ad, bo = some ad ∧ ∀ j v, (body.map (Value.int .u8))[j]? = some v → wc.drew.cell? (ad.add j) = some v) := by
        intro hp
        have hc := HRb.cells
        rcases hc with e | ⟨b, off, rfl, hc⟩
        · subst e; simp at hp
        · exact ⟨rfl, _, rfl, HRb.news⟩
      clear HRb
      go_region_law (refine step_copy_bytes rfl (.tmp 87) (.tmp 89) 22 22 rfl Tryz.underlying22 (some ⟨w.heap.size + 1, hd, none⟩) bo m m m cb (by simp [Act.eval]) (by simp [Act.eval]) (w.heap.size + 1) hd _ (bs (tc20 hd s d sq ak fl wi c ur ++ opts ++ body)) 5 (HM10.out.drew.get 1 rfl) body (by rw [HR.out.2.2.2.1]; exact (Nat.min_self m).symm) HP.out HF.out HE.out ?_; intro w5 hw5)
      all_goals
        go_wp2_with fail
        go_meet
        case rel => exact ⟨rfl, HM10.out.drew.wrote 1 rfl hw5⟩
  case rest =>
  obtain ⟨rfl, hM11⟩ := hcut
  have HM11 : Hid _ := hM11
  clear hM11 HM10 k9
  go_wp2_with fail
  go_ret2
  exact ⟨rfl, mem_owns HM11.out 1 rfl n (by have q := HR.out; rw [List.length_append, List.length_append, q.2.2.1, q.2.2.2.1, q.2.2.2.2.1]; rfl) (by omega), HM11.out.below⟩
end Go.Proofs.YtjalpbkfpjfigaaGreat

namespace Go.Proofs.YtjalpbkfpjfigaaGreat
open Go.RowKit
open Sm
set_option linter.unusedVariables false

set_option maxRecDepth 20000 in
set_option maxHeartbeats 4000000 in
theorem tparse_okD {w : World} {b off  cap : Nat}  {l : List Int} (h : Row w (some ⟨b, off, none⟩) l) (hn : l.length = 20) (hc : 20 ≤ cap) (k : Nat) (hk : l.getD 12 0 / 16 = k) (hK : 20 = 4 * k)  (q : Sg)
    (e0 : w16 l 0 = q.src) (e2 : w16 l 2 = q.dst) (e4 : w32 l 4 = q.seq) (e8 : w32 l 8 = q.ack) (e13 : l.getD 13 0 = q.flags) (e14 : w16 l 14 = q.win) (e16 : w16 l 16 = q.sum) (e18 : w16 l 18 = q.urg) (eo : (l.drop 20).take 0 = q.opts) (eb : (l.drop 20).take 0 = q.body) :
    Calls Tryz.prog 77 #[.slice (some ⟨b, off, none⟩) 20 cap] w fun r w' => ∃ v, r = .returned (.tuple #[v, .int .i64 0]) ∧ TcV w' w.heap.size v q ∧ Below w.heap.size w w' := by
  obtain ⟨X0, X2, X4, X8, X13, X14, X16, X18, op, bd⟩ := q
  simp only at e0 e2 e4 e8 e13 e14 e16 e18 eo eb
  have hln := h.len
  have hb : b < w.heap.size := cell_lt (h.cellAt 0 (by omega))
  have r12 := h.bytes 12
  obtain ⟨x, hx⟩ : ∃ x : Nat, l.getD 12 0 = x := ⟨(l.getD 12 0).toNat, by omega⟩
  have c12 : w.cell? ⟨b, off + 12, none⟩ = some (.int .u8 x) := by rw [← hx]; exact h.cellAt 12 (by omega)
  have c13 : w.cell? ⟨b, off + 13, none⟩ = some (.int .u8 X13) := by rw [← e13]; exact h.cellAt 13 (by omega)
  have hM := (Mem.nil w).push w.heap.size (.cells tc0 tcT) rfl
  have c12' : (w.alloc (.cells tc0 tcT)).cell? ⟨b, off + 12, none⟩ = some (.int .u8 x) := (hM.old hb).trans c12
  have HM0 : Hid (Mem w (w.alloc (.cells tc0 tcT)) [(w.heap.size, .cells tc0 tcT)]) := hM
  rw [hx] at hk r12
  have hdv : (x : Int) / 16 = k := by omega
  have v1 : IntKind.i64.wrap (k : Int) = k := wrap64_small _ (by omega) (by omega)
  have v2 : IntKind.i64.wrap (4 * (k : Int)) = 4 * (k : Int) := wrap64_small _ (by omega) (by omega)
  have HK : Hid (4 * (k : Int) = 20) := by show 4 * (k : Int) = 20; omega
  have g0 : ∀ W L, Mem w W L → Calls Tryz.prog 105 #[.slice (some ⟨b, off, none⟩) 2 2] W fun e w' => e = .returned (.int .u16 X0) ∧ Mem w w' L := fun W L hM => by
    refine (tword_at (hM.row h) 0 (off) rfl (by omega) X0 e0 2).mono ?_; rintro e w' ⟨rfl, q, rfl⟩; exact ⟨rfl, hM.drewN q⟩
  have g2 : ∀ W L, Mem w W L → Calls Tryz.prog 105 #[.slice (some ⟨b, off + 2, none⟩) 2 2] W fun e w' => e = .returned (.int .u16 X2) ∧ Mem w w' L := fun W L hM => by
    refine (tword_at (hM.row h) 2 (off + 2) rfl (by omega) X2 e2 2).mono ?_; rintro e w' ⟨rfl, q, rfl⟩; exact ⟨rfl, hM.drewN q⟩
  have g4 : ∀ W L, Mem w W L → Calls Tryz.prog 106 #[.slice (some ⟨b, off + 4, none⟩) 4 4] W fun e w' => e = .returned (.int .u32 X4) ∧ Mem w w' L := fun W L hM => by
    refine (tlong_at (hM.row h) 4 (off + 4) rfl (by omega) X4 e4).mono ?_; rintro e w' ⟨rfl, q, rfl⟩; exact ⟨rfl, hM.drewN q⟩
  have g8 : ∀ W L, Mem w W L → Calls Tryz.prog 106 #[.slice (some ⟨b, off + 8, none⟩) 4 4] W fun e w' => e = .returned (.int .u32 X8) ∧ Mem w w' L := fun W L hM => by
    refine (tlong_at (hM.row h) 8 (off + 8) rfl (by omega) X8 e8).mono ?_; rintro e w' ⟨rfl, q, rfl⟩; exact ⟨rfl, hM.drewN q⟩
  have g14 : ∀ W L, Mem w W L → Calls Tryz.prog 105 #[.slice (some ⟨b, off + 14, none⟩) 2 2] W fun e w' => e = .returned (.int .u16 X14) ∧ Mem w w' L := fun W L hM => by
    refine (tword_at (hM.row h) 14 (off + 14) rfl (by omega) X14 e14 2).mono ?_; rintro e w' ⟨rfl, q, rfl⟩; exact ⟨rfl, hM.drewN q⟩
  have g16 : ∀ W L, Mem w W L → Calls Tryz.prog 105 #[.slice (some ⟨b, off + 16, none⟩) 2 2] W fun e w' => e = .returned (.int .u16 X16) ∧ Mem w w' L := fun W L hM => by
    refine (tword_at (hM.row h) 16 (off + 16) rfl (by omega) X16 e16 2).mono ?_; rintro e w' ⟨rfl, q, rfl⟩; exact ⟨rfl, hM.drewN q⟩
  have g18 : ∀ W L, Mem w W L → Calls Tryz.prog 105 #[.slice (some ⟨b, off + 18, none⟩) 2 2] W fun e w' => e = .returned (.int .u16 X18) ∧ Mem w w' L := fun W L hM => by
    refine (tword_at (hM.row h) 18 (off + 18) rfl (by omega) X18 e18 2).mono ?_; rintro e w' ⟨rfl, q, rfl⟩; exact ⟨rfl, hM.drewN q⟩
  have lo : op.length = 0 := by rw [← eo]; simp; try omega
  have lb : bd.length = 0 := by rw [← eb]; simp; try omega
  have t1 : ∀ W L, Mem w W L → Calls Tryz.prog 107 #[.slice (some ⟨b, off, none⟩) 0 0] W fun e w' => e = .returned (.slice (some ⟨W.heap.size, 0, none⟩) 0 0) ∧ Mem w w' (L ++ [(W.heap.size, .cells (bs op) 5)]) := fun W L hM => by
    have hr := hM.row (h.part 0 0 (by omega))
    rw [show (l.drop 0).take 0 = op by rw [← eo]; simp] at hr
    refine (tfresh_any hr 0 0 lo).mono ?_; rintro e w' ⟨rfl, hK⟩; exact ⟨rfl, hM.join hK⟩
  have t2 : ∀ W L, Mem w W L → Calls Tryz.prog 107 #[.slice (some ⟨b, off, none⟩) 0 0] W fun e w' => e = .returned (.slice (some ⟨W.heap.size, 0, none⟩) 0 0) ∧ Mem w w' (L ++ [(W.heap.size, .cells (bs bd) 5)]) := fun W L hM => by
    have hr := hM.row (h.part 0 0 (by omega))
    rw [show (l.drop 0).take 0 = bd by rw [← eb]; simp] at hr
    refine (tfresh_any hr 0 0 lb).mono ?_; rintro e w' ⟨rfl, hK⟩; exact ⟨rfl, hM.join hK⟩
  have HP : Hid (op.length = 0 ∧ bd.length = 0 ∧ IsBytes op ∧ IsBytes bd ∧ 0 ≤ 40 ∧ 0 ≤ 140737488351232) := ⟨lo, lb, by rw [← eo]; exact bytes_part h.bytes _ _, by rw [← eb]; exact bytes_part h.bytes _ _, by omega, by omega⟩
  have n2 : (2 : Int) ≤ cap := by omega
  have n4 : (4 : Int) ≤ cap := by omega
  have n8 : (8 : Int) ≤ cap := by omega
  have n12 : (12 : Int) ≤ cap := by omega
  have n16 : (16 : Int) ≤ cap := by omega
  have n18 : (18 : Int) ≤ cap := by omega
  have n20 : (20 : Int) ≤ cap := by omega
  have G0 : Hid _ := g0
  have G2 : Hid _ := g2
  have G4 : Hid _ := g4
  have G8 : Hid _ := g8
  have G14 : Hid _ := g14
  have G16 : Hid _ := g16
  have G18 : Hid _ := g18
  have T1 : Hid _ := t1
  have T2 : Hid _ := t2
  have nb : w.heap.size ≠ b := by omega
  have nb' : b ≠ w.heap.size := by omega
  clear g0 g2 g4 g8 g14 g16 g18 t1 t2 h hn hc hk hK  e0 e2 e4 e8 e13 e14 e16 e18 eo eb hln hx c12 r12 hM lo lb
  go_enter Tryz.func77, Tryz.ntmps77
  go_upto_region 3 with fail
  go_cut [4] from 5 (fun s4 wx => s4 = .int .i64 20 ∧ wx = w.alloc (.cells tc0 tcT))
  case first =>
    go_wp2_with fail
    go_meet
    case rel => exact ⟨by rw [← HK.out], rfl⟩
  case rest =>
  obtain ⟨rfl, rfl⟩ := hcut
  clear c12' hdv v1 v2 HK
  go_upto_region 8 with fail
  refine wp_letter (fun W => Mem w W [(w.heap.size, .cells tc0 tcT)]) HM0.out ?_
  intro w1 hM1
  have HM1 : Hid _ := hM1.drew
  have d13 : w1.cell? ⟨b, off + 13, none⟩ = some (.int .u8 X13) := (hM1.old hb).trans c13
  clear hM1 HM0
  go_region_held3 (fun w' => w'.cell? ⟨b, off + 13, none⟩ = some (.int .u8 X13))
    (first | go_keep | with_reducible exact (Mem.old (by with_reducible assumption) hb).trans c13)
    (first
      | (go_at_call 105; with_reducible refine (G0.out _ _ HM1.out).mono ?_; rintro e w2 ⟨rfl, hM2⟩)
      | (go_at_call 105; with_reducible refine (G2.out w2 _ hM2).mono ?_; rintro e w3 ⟨rfl, hM3⟩)
      | (go_at_call 106; with_reducible refine (G4.out w3 _ hM3).mono ?_; rintro e w4 ⟨rfl, hM4⟩)
      | (go_at_call 106; with_reducible refine (G8.out w4 _ hM4).mono ?_; rintro e w5 ⟨rfl, hM5⟩)
      | (go_at_call 105; with_reducible refine (G14.out w5 _ hM5).mono ?_; rintro e w6 ⟨rfl, hM6⟩)
      | (go_at_call 105; with_reducible refine (G16.out w6 _ hM6).mono ?_; rintro e w7 ⟨rfl, hM7⟩)
      | (go_at_call 105; with_reducible refine (G18.out w7 _ hM7).mono ?_; rintro e w8 ⟨rfl, hM8⟩)
      | (go_at_call 107; with_reducible refine (T1.out w8 _ hM8).mono ?_; rintro e w9 ⟨rfl, hM9⟩)
      | (go_at_call 107; with_reducible refine (T2.out w9 _ hM9).mono ?_; rintro e w10 ⟨rfl, hM10⟩; have kr : ∀ i, w10.cell? ⟨w.heap.size, i, none⟩ = tc0[i]? := hM10.cell 0 rfl; have kf : ∀ i, w10.frozen? ⟨w.heap.size, i, none⟩ = false := hM10.free 0 rfl))
  have HM10 : Hid (Mem w w10 [(w.heap.size, .cells tc0 tcT), (w8.heap.size, .cells (bs op) 5), (w9.heap.size, .cells (bs bd) 5)]) := hM10
  clear hM2 hM3 hM4 hM5 hM6 hM7 hM8 hM9 hM10 G0 G2 G4 G8 G14 G16 G18 T1 T2
  go_wp2_with fail
  refine bodyPost_ret (v := .tuple #[.agg (tcA X0 X2 X4 X8 X13 X14 X16 X18 (.slice (some ⟨w8.heap.size, 0, none⟩) 0 0) (.slice (some ⟨w9.heap.size, 0, none⟩) 0 0)), .int .i64 0]) (by simp [results, Tryz.results77, go_sem, kr]) rfl ⟨_, rfl, ?_, ?_⟩
  · obtain ⟨p1, p2, p3, p4, p5, p6⟩ := HP.out
    have z1 := HM10.out.ne 0 1 rfl rfl (by decide)
    have z2 := HM10.out.ne 0 2 rfl rfl (by decide)
    refine ⟨some ⟨w8.heap.size, 0, none⟩, 0, some ⟨w9.heap.size, 0, none⟩, 0, ?_, ?_, ?_, fun e => (by cases e), fun e => (by cases e), fun x hx => (by cases hx; exact HM10.out.ge 1 rfl), fun x hx => (by cases hx; exact HM10.out.ge 2 rfl)⟩
    · simp only [p1, p2]
    · iterate 10 (refine Row.setCell ?_ z1 _)
      exact HM10.out.own 1 rfl p3 (by rw [p1]; omega)
    · iterate 10 (refine Row.setCell ?_ z2 _)
      exact HM10.out.own 2 rfl p4 (by rw [p2]; omega)
  · iterate 10 (refine below_set ?_ (Nat.le_refl _))
    exact HM10.out.below
end Go.Proofs.YtjalpbkfpjfigaaGreat

