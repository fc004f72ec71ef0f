/-
  What tcp.Bytes answers where it writes a segment: its bytes in a row of the call's own.
-/
import Derived.Test.YtjalpbkfpjfigaaGreatTcpPut
namespace Go.Proofs.YtjalpbkfpjfigaaGreat
open Go.RowKit
open Sm
set_option linter.unusedVariables false

theorem blz_tc20 (n o m hd : Nat) (h : n = 20 + o + m) (s d sq ak fl wi c ur : Int) : blz n [(0, s / 256), (1, s % 256), (2, d / 256), (3, d % 256), (4, sq / 16777216), (5, sq / 65536 % 256), (6, sq / 256 % 256), (7, sq % 256), (8, ak / 16777216), (9, ak / 65536 % 256), (10, ak / 256 % 256), (11, ak % 256), (12, (hd : Int) / 4 * 16), (13, fl), (14, wi / 256), (15, wi % 256), (16, c / 256), (17, c % 256), (18, ur / 256), (19, ur % 256)] = tc20 hd s d sq ak fl wi c ur ++ List.replicate o 0 ++ List.replicate m 0 := by
  have e : List.replicate n (0 : Int) = List.replicate 20 0 ++ (List.replicate o 0 ++ List.replicate m 0) := by rw [h, List.replicate_append_replicate, List.replicate_append_replicate, Nat.add_assoc]
  unfold blz
  rw [e, List.append_assoc]
  generalize List.replicate o (0 : Int) ++ List.replicate m (0 : Int) = R
  simp only [List.foldl_cons, List.foldl_nil, List.replicate, List.cons_append, List.nil_append, List.set_cons_zero, List.set_cons_succ, tc20]

set_option maxRecDepth 20000 in
set_option maxHeartbeats 4000000 in
theorem tbytes_ok {w : World} {ao bo : Option Addr} {opts body : List Int} (hro : Row w ao opts) (hrb : Row w bo body) (o co m cb n hd : Nat) (ho : opts.length = o) (hm : body.length = m) (h4 : o % 4 = 0) (h40 : o ≤ 40) (hn : n = 20 + o + m) (hhd : hd = 20 + o) (h1 : n ≤ 65515) (s d sq ak fl wi c ur : Int)
    (hs : 0 ≤ s ∧ s ≤ 65535) (hd' : 0 ≤ d ∧ d ≤ 65535) (hsq : 0 ≤ sq ∧ sq ≤ 4294967295) (hak : 0 ≤ ak ∧ ak ≤ 4294967295) (hfl : 0 ≤ fl ∧ fl ≤ 255) (hwi : 0 ≤ wi ∧ wi ≤ 65535) (hc : 0 ≤ c ∧ c ≤ 65535) (hur : 0 ≤ ur ∧ ur ≤ 65535) :
    Calls Tryz.prog 61 #[.agg (tcA s d sq ak fl wi c ur (.slice ao o co) (.slice bo m cb))] w fun e w' => e = .returned (.tuple #[.slice (some ⟨w.heap.size + 1, 0, none⟩) n n, .int .i64 0]) ∧
      w'.ownsRow w.heap.size 5 1 (.slice (some ⟨w.heap.size + 1, 0, none⟩) n n) n ((tc20 hd s d sq ak fl wi c ur ++ opts ++ body).map (Value.int .u8)) ∧ Below w.heap.size w w' := by
  have HR : Hid (Row w ao opts ∧ Row w bo body ∧ opts.length = o ∧ body.length = m ∧ n = 20 + o + m ∧ hd = 20 + o ∧ n ≤ 65515 ∧ o ≤ 40) := ⟨hro, hrb, ho, hm, hn, hhd, h1, h40⟩
  have H : Hid ((0 ≤ s ∧ s ≤ 65535) ∧ (0 ≤ d ∧ d ≤ 65535) ∧ (0 ≤ sq ∧ sq ≤ 4294967295) ∧ (0 ≤ ak ∧ ak ≤ 4294967295) ∧ (0 ≤ fl ∧ fl ≤ 255) ∧ (0 ≤ wi ∧ wi ≤ 65535) ∧ (0 ≤ c ∧ c ≤ 65535) ∧ 0 ≤ ur ∧ ur ≤ 65535) := ⟨hs, hd', hsq, hak, hfl, hwi, hc, hur⟩
  have o4 : (o : Int) % 4 = 0 := by omega
  have o40 : (o : Int) ≤ 40 := by omega
  have eh : 20 + (o : Int) = hd := by omega
  have en : (hd : Int) + m = n := by omega
  have mb : (m : Int) ≤ 65515 - hd := by omega
  have nb : (n : Int) ≤ 65515 := by omega
  have n2 : (2 : Int) ≤ n := by omega
  have n4 : (4 : Int) ≤ n := by omega
  have n8 : (8 : Int) ≤ n := by omega
  have n12 : (12 : Int) ≤ n := by omega
  have n16 : (16 : Int) ≤ n := by omega
  have n18 : (18 : Int) ≤ n := by omega
  have n20 : (20 : Int) ≤ n := by omega
  have l12 : (12 : Int) < n := by omega
  have l13 : (13 : Int) < n := by omega
  have hn1 : (hd : Int) ≤ n := by omega
  have hh1 : (20 : Int) ≤ hd := by omega
  have ho1 : hd - 20 = o := by omega
  have hm1 : n - hd = m := by omega
  have hmk := make_bytes n (by omega)
  have q1 : IntKind.u8.wrap ((hd : Int) / 4) = (hd : Int) / 4 := wrap8_small _ (by omega) (by omega)
  have q2 : IntKind.u8.wrap ((hd : Int) / 4 * 16) = (hd : Int) / 4 * 16 := wrap8_small _ (by omega) (by omega)
  have q3 : IntKind.i64.wrap ((hd : Int) / 4) = (hd : Int) / 4 := wrap64_small _ (by omega) (by omega)
  have hdb : (hd : Int) ≤ 60 := by omega
  clear hro hrb ho hm h4 h40 hn hhd h1 hs hd' hsq hak hfl hwi hc hur
  go_enter Tryz.func61, Tryz.ntmps61
  go_upto_region 7 with fail
  refine wp_letter (fun W => Mem w W [(w.heap.size, .cells (tcA s d sq ak fl wi c ur (.slice ao o co) (.slice bo m cb)) tcT), (w.heap.size + 1, .cells (bs (blz n [])) 5)]) (by rw [show bs (blz n []) = madeCells #[Value.int .u8 0] n from (bs_made n).symm]; exact ((Mem.nil w).push w.heap.size _ rfl).push (w.heap.size + 1) _ (by simp)) ?_
  intro w1 hM1
  have HM1 : Hid _ := hM1
  have k1 : w1.cell? ⟨w.heap.size, 0, none⟩ = some (.int .u16 s) := hM1.cell 0 rfl 0
  have p1 := tput_at hM1.drew 1 rfl 0 (by have := HR.out; omega) 2 s H.out.1.1 H.out.1.2
  clear hM1
  go_cut [] from 6 (fun wx => Mem w wx [(w.heap.size, .cells (tcA s d sq ak fl wi c ur (.slice ao o co) (.slice bo m cb)) tcT), (w.heap.size + 1, .cells (bs (blz n [(0, s / 256), (1, s % 256)])) 5)])
  case first =>
    go_region_held3 (fun w' => w'.cell? ⟨w.heap.size, 0, none⟩ = some (.int .u16 s)) (first | go_keep | exact hM5.cell 0 rfl 0)
      (first | (go_at_call 86; refine p1.mono ?_; rintro e w5 ⟨rfl, hM5⟩))
    all_goals
      go_wp2_with fail
      go_meet
      case rel => exact hM5
  case rest =>
  clear k1 p1 HM1
  have hM2 := hcut
  have HM2 : Hid _ := hcut
  clear hcut
  have k2 : wc.cell? ⟨w.heap.size, 1, none⟩ = some (.int .u16 d) := hM2.cell 0 rfl 1
  have p2 := tput_at hM2.drew 1 rfl 2 (by have := HR.out; omega) 2 d H.out.2.1.1 H.out.2.1.2
  clear hM2
  go_upto_region 8 with fail
  go_cut [] from 6 (fun wx => Mem w wx [(w.heap.size, .cells (tcA s d sq ak fl wi c ur (.slice ao o co) (.slice bo m cb)) tcT), (w.heap.size + 1, .cells (bs (blz n [(0, s / 256), (1, s % 256), (2, d / 256), (3, d % 256)])) 5)])
  case first =>
    go_region_held3 (fun w' => w'.cell? ⟨w.heap.size, 1, none⟩ = some (.int .u16 d)) (first | go_keep | exact hM5.cell 0 rfl 1)
      (first | (go_at_call 86; refine p2.mono ?_; rintro e w5 ⟨rfl, hM5⟩))
    all_goals
      go_wp2_with fail
      go_meet
      case rel => exact hM5
  case rest =>
  clear k2 p2 HM2
  have hM3 := hcut
  have HM3 : Hid _ := hcut
  clear hcut
  have k3 : wc.cell? ⟨w.heap.size, 2, none⟩ = some (.int .u32 sq) := hM3.cell 0 rfl 2
  have p3 := tputLong_at hM3.drew 1 rfl 4 (by have := HR.out; omega) sq H.out.2.2.1.1 H.out.2.2.1.2
  clear hM3
  go_upto_region 9 with fail
  go_cut [] from 6 (fun wx => Mem w wx [(w.heap.size, .cells (tcA s d sq ak fl wi c ur (.slice ao o co) (.slice bo m cb)) tcT), (w.heap.size + 1, .cells (bs (blz n [(0, s / 256), (1, s % 256), (2, d / 256), (3, d % 256), (4, sq / 16777216), (5, sq / 65536 % 256), (6, sq / 256 % 256), (7, sq % 256)])) 5)])
  case first =>
    go_region_held3 (fun w' => w'.cell? ⟨w.heap.size, 2, none⟩ = some (.int .u32 sq)) (first | go_keep | exact hM5.cell 0 rfl 2)
      (first | (go_at_call 87; refine p3.mono ?_; rintro e w5 ⟨rfl, hM5⟩))
    all_goals
      go_wp2_with fail
      go_meet
      case rel => exact hM5
  case rest =>
  clear k3 p3 HM3
  have hM4 := hcut
  have HM4 : Hid _ := hcut
  clear hcut
  have k4 : wc.cell? ⟨w.heap.size, 3, none⟩ = some (.int .u32 ak) := hM4.cell 0 rfl 3
  have p4 := tputLong_at hM4.drew 1 rfl 8 (by have := HR.out; omega) ak H.out.2.2.2.1.1 H.out.2.2.2.1.2
  clear hM4
  go_upto_region 10 with fail
  go_cut [] from 6 (fun wx => Mem w wx [(w.heap.size, .cells (tcA s d sq ak fl wi c ur (.slice ao o co) (.slice bo m cb)) tcT), (w.heap.size + 1, .cells (bs (blz n [(0, s / 256), (1, s % 256), (2, d / 256), (3, d % 256), (4, sq / 16777216), (5, sq / 65536 % 256), (6, sq / 256 % 256), (7, sq % 256), (8, ak / 16777216), (9, ak / 65536 % 256), (10, ak / 256 % 256), (11, ak % 256)])) 5)])
  case first =>
    go_region_held3 (fun w' => w'.cell? ⟨w.heap.size, 3, none⟩ = some (.int .u32 ak)) (first | go_keep | exact hM5.cell 0 rfl 3)
      (first | (go_at_call 87; refine p4.mono ?_; rintro e w5 ⟨rfl, hM5⟩))
    all_goals
      go_wp2_with fail
      go_meet
      case rel => exact hM5
  case rest =>
  clear k4 p4 HM4
  have hM5 := hcut
  have HM5 : Hid _ := hcut
  clear hcut
  obtain ⟨z12, k12⟩ := hM5.spot 1 rfl 12 (by have := HR.out; omega)
  obtain ⟨z13, k13⟩ := hM5.spot 1 rfl 13 (by have := HR.out; omega)
  have kl : wc.cell? ⟨w.heap.size, 4, none⟩ = some (.int .u8 fl) := hM5.cell 0 rfl 4
  have kf : ∀ i, wc.frozen? ⟨w.heap.size + 1, i, none⟩ = false := hM5.free 1 rfl
  clear hM5
  go_upto_region 13 with fail
  refine wp_letter (fun W => Mem w W [(w.heap.size, .cells (tcA s d sq ak fl wi c ur (.slice ao o co) (.slice bo m cb)) tcT), (w.heap.size + 1, .cells (bs (blz n [(0, s / 256), (1, s % 256), (2, d / 256), (3, d % 256), (4, sq / 16777216), (5, sq / 65536 % 256), (6, sq / 256 % 256), (7, sq % 256), (8, ak / 16777216), (9, ak / 65536 % 256), (10, ak / 256 % 256), (11, ak % 256), (12, (hd : Int) / 4 * 16), (13, fl)])) 5)]) ((HM5.out.put 1 rfl 12 ((hd : Int) / 4 * 16)).put 1 rfl 13 fl) ?_
  clear k12 k13 kl kf HM5
  intro w6 hM6
  have HM6 : Hid _ := hM6
  have k6 : w6.cell? ⟨w.heap.size, 5, none⟩ = some (.int .u16 wi) := hM6.cell 0 rfl 5
  have p6 := tput_at hM6.drew 1 rfl 14 (by have := HR.out; omega) 2 wi H.out.2.2.2.2.2.1.1 H.out.2.2.2.2.2.1.2
  clear hM6
  go_cut [] from 6 (fun wx => Mem w wx [(w.heap.size, .cells (tcA s d sq ak fl wi c ur (.slice ao o co) (.slice bo m cb)) tcT), (w.heap.size + 1, .cells (bs (blz n [(0, s / 256), (1, s % 256), (2, d / 256), (3, d % 256), (4, sq / 16777216), (5, sq / 65536 % 256), (6, sq / 256 % 256), (7, sq % 256), (8, ak / 16777216), (9, ak / 65536 % 256), (10, ak / 256 % 256), (11, ak % 256), (12, (hd : Int) / 4 * 16), (13, fl), (14, wi / 256), (15, wi % 256)])) 5)])
  case first =>
    go_region_held3 (fun w' => w'.cell? ⟨w.heap.size, 5, none⟩ = some (.int .u16 wi)) (first | go_keep | exact hM5.cell 0 rfl 5)
      (first | (go_at_call 86; refine p6.mono ?_; rintro e w5 ⟨rfl, hM5⟩))
    all_goals
      go_wp2_with fail
      go_meet
      case rel => exact hM5
  case rest =>
  clear k6 p6 HM6
  have hM7 := hcut
  have HM7 : Hid _ := hcut
  clear hcut
  have k7 : wc.cell? ⟨w.heap.size, 6, none⟩ = some (.int .u16 c) := hM7.cell 0 rfl 6
  have p7 := tput_at hM7.drew 1 rfl 16 (by have := HR.out; omega) 2 c H.out.2.2.2.2.2.2.1.1 H.out.2.2.2.2.2.2.1.2
  clear hM7
  go_upto_region 14 with fail
  go_cut [] from 6 (fun wx => Mem w wx [(w.heap.size, .cells (tcA s d sq ak fl wi c ur (.slice ao o co) (.slice bo m cb)) tcT), (w.heap.size + 1, .cells (bs (blz n [(0, s / 256), (1, s % 256), (2, d / 256), (3, d % 256), (4, sq / 16777216), (5, sq / 65536 % 256), (6, sq / 256 % 256), (7, sq % 256), (8, ak / 16777216), (9, ak / 65536 % 256), (10, ak / 256 % 256), (11, ak % 256), (12, (hd : Int) / 4 * 16), (13, fl), (14, wi / 256), (15, wi % 256), (16, c / 256), (17, c % 256)])) 5)])
  case first =>
    go_region_held3 (fun w' => w'.cell? ⟨w.heap.size, 6, none⟩ = some (.int .u16 c)) (first | go_keep | exact hM5.cell 0 rfl 6)
      (first | (go_at_call 86; refine p7.mono ?_; rintro e w5 ⟨rfl, hM5⟩))
    all_goals
      go_wp2_with fail
      go_meet
      case rel => exact hM5
  case rest =>
  clear k7 p7 HM7
  have hM8 := hcut
  have HM8 : Hid _ := hcut
  clear hcut
  have k8 : wc.cell? ⟨w.heap.size, 7, none⟩ = some (.int .u16 ur) := hM8.cell 0 rfl 7
  have p8 := tput_at hM8.drew 1 rfl 18 (by have := HR.out; omega) 2 ur H.out.2.2.2.2.2.2.2.1 H.out.2.2.2.2.2.2.2.2
  clear hM8
  go_upto_region 15 with fail
  go_cut [] from 6 (fun wx => Mem w wx [(w.heap.size, .cells (tcA s d sq ak fl wi c ur (.slice ao o co) (.slice bo m cb)) tcT), (w.heap.size + 1, .cells (bs (tc20 hd s d sq ak fl wi c ur ++ List.replicate o 0 ++ List.replicate m 0)) 5)])
  case first =>
    go_region_held3 (fun w' => w'.cell? ⟨w.heap.size, 7, none⟩ = some (.int .u16 ur)) (first | go_keep | exact hM5.cell 0 rfl 7)
      (first | (go_at_call 86; refine p8.mono ?_; rintro e w5 ⟨rfl, hM5⟩))
    all_goals
      go_wp2_with fail
      go_meet
      case rel => rw [← blz_tc20 n o m hd HR.out.2.2.2.2.1]; exact hM5
  case rest =>
  clear k8 p8 HM8
  have hM9 := hcut
  have HM9 : Hid _ := hcut
  clear hcut
  have k8 : wc.cell? ⟨w.heap.size, 8, none⟩ = some (.slice ao o co) := hM9.cell 0 rfl 8
  clear hM9
  go_upto_region 16 with fail
  go_cut [0, 4, 5] from 6 (fun s0 s4 s5 wx => s4 = .int .i64 (hd : Int) ∧ s5 = .slice (some ⟨w.heap.size + 1, 0, none⟩) n n ∧ Mem w wx [(w.heap.size, .cells (tcA s d sq ak fl wi c ur (.slice ao o co) (.slice bo m cb)) tcT), (w.heap.size + 1, .cells (bs (tc20 hd s d sq ak fl wi c ur ++ opts ++ List.replicate m 0)) 5)])
  case first =>
    have HRb := HM9.out.drew.row HR.out.1
    have HE : Hid _ := bs_fill (tc20 hd s d sq ak fl wi c ur) opts (List.replicate m 0) (List.replicate o 0) (by rw [List.length_replicate]; exact HR.out.2.2.1.symm)
    have HF : Hid (20 + opts.length ≤ (bs (tc20 hd s d sq ak fl wi c ur ++ List.replicate o 0 ++ List.replicate m 0)).size) := by
      have q := HR.out
      show _ ≤ _
      rw [bs_size, List.length_append, List.length_append, List.length_replicate, List.length_replicate, q.2.2.1]
      exact Nat.le_add_right _ _
    by_cases ho0 : o = 0
    · have hh0 : hd = 20 := by have := HR.out; omega
      have hbn : opts = [] := List.eq_nil_of_length_eq_zero (by rw [HR.out.2.2.1]; exact ho0)
      clear HRb
      go_region_law (refine step_copy_bytes rfl (.tmp 81) (.tmp 83) 22 22 rfl Tryz.underlying22 (some ⟨w.heap.size + 1, 0, none⟩) ao 0 0 0 co (by simp [Act.eval]) (by simp [Act.eval]) (w.heap.size + 1) 20 _ (bs (tc20 hd s d sq ak fl wi c ur ++ opts ++ List.replicate m 0)) 5 (HM9.out.drew.get 1 rfl) opts (by rw [hbn]; rfl) (fun hp => by rw [hbn] at hp; simp at hp) HF.out HE.out ?_; intro w5 hw5)
      all_goals
        go_wp2_with fail
        go_meet
        case rel => exact ⟨by rw [hh0] <;> rfl, rfl, HM9.out.drew.wrote 1 rfl hw5⟩
    · have hh0 : (20 : Int) < hd := by omega
      have hh2 : ¬ hd = 20 := by omega
      have HP : Hid (0 < opts.length → some (⟨w.heap.size + 1, 20, none⟩ : Addr) = some ⟨w.heap.size + 1, 20, none⟩ ∧ ∃ ad, ao = some ad ∧ ∀ j v, (opts.map (Value.int .u8))[j]? = some v → wc.drew.cell? (ad.add j) = some v) := by
        intro hp
        have hc := HRb.cells
        rcases hc with e | ⟨b, off, rfl, hc⟩
        · subst e; simp at hp
        · exact ⟨rfl, _, rfl, HRb.news⟩
      clear HRb
      go_region_law (refine step_copy_bytes rfl (.tmp 81) (.tmp 83) 22 22 rfl Tryz.underlying22 (some ⟨w.heap.size + 1, 20, none⟩) ao o o o co (by simp [Act.eval]) (by simp [Act.eval]) (w.heap.size + 1) 20 _ (bs (tc20 hd s d sq ak fl wi c ur ++ opts ++ List.replicate m 0)) 5 (HM9.out.drew.get 1 rfl) opts (by rw [HR.out.2.2.1]; exact (Nat.min_self o).symm) HP.out HF.out HE.out ?_; intro w5 hw5)
      all_goals
        go_wp2_with fail
        go_meet
        case rel => exact ⟨rfl, rfl, HM9.out.drew.wrote 1 rfl hw5⟩
  case rest =>
  obtain ⟨rfl, rfl, hM10⟩ := hcut
  have HM10 : Hid _ := hM10
  have k9 : wc.cell? ⟨w.heap.size, 9, none⟩ = some (.slice bo m cb) := hM10.cell 0 rfl 9
  clear hM10 HM9 k8
  go_upto_region 17 with fail
  go_cut [0, 4, 5] from 6 (fun s0 s4 s5 wx => s5 = .slice (some ⟨w.heap.size + 1, 0, none⟩) n n ∧ Mem w wx [(w.heap.size, .cells (tcA s d sq ak fl wi c ur (.slice ao o co) (.slice bo m cb)) tcT), (w.heap.size + 1, .cells (bs (tc20 hd s d sq ak fl wi c ur ++ opts ++ body)) 5)])
  case first =>
    have HRb := HM10.out.drew.row HR.out.2.1
    have HLp : Hid ((tc20 hd s d sq ak fl wi c ur ++ opts).length = hd) := by
      have q := HR.out
      show _ = _
      rw [List.length_append, q.2.2.1, q.2.2.2.2.2.1]; rfl
    have HE : Hid _ := bs_tail (tc20 hd s d sq ak fl wi c ur ++ opts) body hd m HLp.out HR.out.2.2.2.1
    have HF : Hid (hd + body.length ≤ (bs (tc20 hd s d sq ak fl wi c ur ++ opts ++ List.replicate m 0)).size) := by
      have q := HR.out
      show _ ≤ _
      rw [bs_size, List.length_append, HLp.out, List.length_replicate, q.2.2.2.1]
      exact Nat.le_refl _
    by_cases hm0 : m = 0
    · have hn0 : n = hd := by have := HR.out; omega
      have hbn : body = [] := List.eq_nil_of_length_eq_zero (by rw [HR.out.2.2.2.1]; exact hm0)
      clear HRb
      go_region_law (refine step_copy_bytes rfl (.tmp 87) (.tmp 89) 22 22 rfl Tryz.underlying22 (some ⟨w.heap.size + 1, 0, none⟩) bo 0 0 0 cb (by simp [Act.eval]) (by simp [Act.eval]) (w.heap.size + 1) hd _ (bs (tc20 hd s d sq ak fl wi c ur ++ opts ++ body)) 5 (HM10.out.drew.get 1 rfl) body (by rw [hbn]; rfl) (fun hp => by rw [hbn] at hp; simp at hp) HF.out HE.out ?_; intro w5 hw5)
      all_goals
        go_wp2_with fail
        go_meet
        case rel => exact ⟨by rw [hn0], HM10.out.drew.wrote 1 rfl hw5⟩
    · have hn0 : (hd : Int) < n := by omega
      have hn3 : ¬ n = hd := by omega
      have HP : Hid (0 < body.length → some (⟨w.heap.size + 1, hd, none⟩ : Addr) = some ⟨w.heap.size + 1, hd, none⟩ ∧ ∃ ad, bo = some ad ∧ ∀ j v, (body.map (Value.int .u8))[j]? = some v → wc.drew.cell? (ad.add j) = some v) := by
        intro hp
        have hc := HRb.cells
        rcases hc with e | ⟨b, off, rfl, hc⟩
        · subst e; simp at hp
        · exact ⟨rfl, _, rfl, HRb.news⟩
      clear HRb
      go_region_law (refine step_copy_bytes rfl (.tmp 87) (.tmp 89) 22 22 rfl Tryz.underlying22 (some ⟨w.heap.size + 1, hd, none⟩) bo m m m cb (by simp [Act.eval]) (by simp [Act.eval]) (w.heap.size + 1) hd _ (bs (tc20 hd s d sq ak fl wi c ur ++ opts ++ body)) 5 (HM10.out.drew.get 1 rfl) body (by rw [HR.out.2.2.2.1]; exact (Nat.min_self m).symm) HP.out HF.out HE.out ?_; intro w5 hw5)
      all_goals
        go_wp2_with fail
        go_meet
        case rel => exact ⟨rfl, HM10.out.drew.wrote 1 rfl hw5⟩
  case rest =>
  obtain ⟨rfl, hM11⟩ := hcut
  have HM11 : Hid _ := hM11
  clear hM11 HM10 k9
  go_wp2_with fail
  go_ret2
  exact ⟨rfl, mem_owns HM11.out 1 rfl n (by have q := HR.out; rw [List.length_append, List.length_append, q.2.2.1, q.2.2.2.1, q.2.2.2.2.1]; rfl) (by omega), HM11.out.below⟩
end Go.Proofs.YtjalpbkfpjfigaaGreat
