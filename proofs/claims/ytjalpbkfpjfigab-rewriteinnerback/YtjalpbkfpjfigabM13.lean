/-
  What udp.Bytes answers: the datagram's bytes in a row of the call's own, or the error.
  What package ip's split answers: a packet's header and body as pieces of its bytes, or a failure.
-/
import Derived.Test.YtjalpbkfpjfigabM09
import Derived.Test.YtjalpbkfpjfigabM10
import Derived.Test.YtjalpbkfpjfigabM03
namespace Go.Proofs.Ytjalpbkfpjfigab
open Go.RowKit
open Sm
set_option linter.unusedVariables false

set_option maxHeartbeats 1000000 in
theorem uput_ok {W : World} {g j : Nat} (z0 z1 : Int) (k0 : W.cell? ⟨g, j, none⟩ = some (.int .u8 z0)) (k1 : W.cell? ⟨g, j + 1, none⟩ = some (.int .u8 z1)) (kf : ∀ i, W.frozen? ⟨g, i, none⟩ = false) (c : Nat) (x : Int) (r0 : 0 ≤ x) (r1 : x ≤ 65535) :
    Calls Try.prog 78 #[.slice (some ⟨g, j, none⟩) 2 c, .int .u16 x] W fun e w' => e = .returned (.tuple #[]) ∧ w' = (W.setCell ⟨g, j, none⟩ (.int .u8 (x / 256))).setCell ⟨g, j + 1, none⟩ (.int .u8 (x % 256)) := by
  have u1 : IntKind.u8.wrap (x / 256) = x / 256 := wrap8_small _ (by omega) (by omega)
  have u2 : IntKind.u8.wrap x = x % 256 := by simp [IntKind.wrap, IntKind.bits, IntKind.signed]
  go_enter Try.func78, Try.ntmps78
  go_wp2
  go_end0
  exact ⟨rfl, rfl⟩

theorem uput_at {w W : World} {L : List (Nat × Obj)} (hM : Mem w W L) (i : Nat) {g N : Nat} {xs : List (Nat × Int)} (hi : L[i]? = some (g, .cells (bs (blz N xs)) 5 (0, 0))) (j : Nat) (hj : j + 1 < N) (c : Nat) (x : Int) (r0 : 0 ≤ x) (r1 : x ≤ 65535) :
    Calls Try.prog 78 #[.slice (some ⟨g, j, none⟩) 2 c, .int .u16 x] W fun e w' => e = .returned (.tuple #[]) ∧ Mem w w' (L.set i (g, .cells (bs (blz N (xs ++ [(j, x / 256), (j + 1, x % 256)]))) 5 (0, 0))) := by
  obtain ⟨z0, k0⟩ := hM.spot i hi j (by omega)
  obtain ⟨z1, k1⟩ := hM.spot i hi (j + 1) (by omega)
  refine (uput_ok z0 z1 k0 k1 (hM.free i hi) c x r0 r1).mono ?_
  rintro e w' ⟨rfl, hw⟩
  exact ⟨rfl, hM.put2 i hi j _ _ hw⟩

theorem blz_ud8 (n m : Nat) (h : n = 8 + m) (s d c : Int) : blz n [(0, s / 256), (1, s % 256), (2, d / 256), (3, d % 256), (4, (n : Int) / 256), (5, (n : Int) % 256), (6, c / 256), (7, c % 256)] = ud8 n s d c ++ List.replicate m 0 := by
  have e : List.replicate n (0 : Int) = List.replicate 8 0 ++ List.replicate m 0 := by rw [h, List.replicate_append_replicate]
  unfold blz
  rw [e]
  generalize List.replicate m (0 : Int) = R
  simp only [List.foldl_cons, List.foldl_nil, List.replicate, List.cons_append, List.nil_append, List.set_cons_zero, List.set_cons_succ, ud8]

set_option maxHeartbeats 2000000 in
theorem ubytes_ok {w : World} {a : Option Addr} {body : List Int} (hr : Row w a body) (m cb n : Nat) (hm : body.length = m) (h1 : m ≤ 65527) (hn : n = 8 + m) (s d c : Int) (hs : 0 ≤ s ∧ s ≤ 65535) (hd : 0 ≤ d ∧ d ≤ 65535) (hc : 0 ≤ c ∧ c ≤ 65535) :
    Calls Try.prog 50 #[.agg (udA s d c (.slice a m cb))] w fun e w' => e = .returned (.tuple #[.slice (some ⟨w.heap.size + 1, 0, none⟩) n n, .int .i64 0]) ∧
      w'.ownsRow w.heap.size 5 1 (.slice (some ⟨w.heap.size + 1, 0, none⟩) n n) n ((ud8 n s d c ++ body).map (Value.int .u8)) ∧ Below w.heap.size w w' := by
  have HR : Hid (Row w a body ∧ body.length = m ∧ n = 8 + m ∧ m ≤ 65527 ∧ (0 ≤ s ∧ s ≤ 65535) ∧ (0 ≤ d ∧ d ≤ 65535) ∧ 0 ≤ c ∧ c ≤ 65535) := ⟨hr, hm, hn, h1, hs, hd, hc⟩
  have hmi : (m : Int) ≤ 65527 := by omega
  have hni : 8 + (m : Int) = n := by omega
  have hnb : (n : Int) ≤ 65535 := by omega
  have hn2 : (2 : Int) ≤ n := by omega
  have hn4 : (4 : Int) ≤ n := by omega
  have hn6 : (6 : Int) ≤ n := by omega
  have hn8 : (8 : Int) ≤ n := by omega
  have hnm : n - 8 = m := by omega
  have hmk := make_bytes n (by omega)
  have hnw : IntKind.u16.wrap (n : Int) = n := wrap16_small _ (by omega) (by omega)
  clear hr hm hs hd hc hn h1
  go_enter Try.func50, Try.ntmps50
  go_upto_region 4 with fail
  refine wp_letter (fun W => Mem w W [(w.heap.size, .cells (udA s d c (.slice a m cb)) udT), (w.heap.size + 1, .cells (bs (blz n [])) 5)]) (by rw [show bs (blz n []) = madeCells #[Value.int .u8 0] n from (bs_made n).symm]; exact ((Mem.nil w).push w.heap.size _ rfl).push (w.heap.size + 1) _ (by simp)) ?_
  intro w1 hM1
  have HM1 : Hid _ := hM1
  have k0 : w1.cell? ⟨w.heap.size, 0, none⟩ = some (.int .u16 s) := hM1.cell 0 rfl 0
  have p1 := uput_at hM1.drew 1 rfl 0 (by have := HR.out; omega) 2 s HR.out.2.2.2.2.1.1 HR.out.2.2.2.2.1.2
  clear hM1
  go_cut [] from 5 (fun wx => Mem w wx [(w.heap.size, .cells (udA s d c (.slice a m cb)) udT), (w.heap.size + 1, .cells (bs (blz n [(0, s / 256), (1, s % 256)])) 5)])
  case first =>
    go_region_held3 (fun w' => w'.cell? ⟨w.heap.size, 0, none⟩ = some (.int .u16 s)) (first | go_keep | exact hM5.cell 0 rfl 0)
      (first | (go_at_call 78; refine p1.mono ?_; rintro e w5 ⟨rfl, hM5⟩))
    all_goals
      go_wp2_with fail
      go_meet
      case rel => exact hM5
  case rest =>
  have HM2 : Hid _ := hcut
  have k1 : wc.cell? ⟨w.heap.size, 1, none⟩ = some (.int .u16 d) := hcut.cell 0 rfl 1
  have p2 := uput_at hcut.drew 1 rfl 2 (by have := HR.out; omega) 2 d HR.out.2.2.2.2.2.1.1 HR.out.2.2.2.2.2.1.2
  clear hcut HM1 k0 p1
  go_upto_region 5 with fail
  go_cut [] from 5 (fun wx => Mem w wx [(w.heap.size, .cells (udA s d c (.slice a m cb)) udT), (w.heap.size + 1, .cells (bs (blz n [(0, s / 256), (1, s % 256), (2, d / 256), (3, d % 256)])) 5)])
  case first =>
    go_region_held3 (fun w' => w'.cell? ⟨w.heap.size, 1, none⟩ = some (.int .u16 d)) (first | go_keep | exact hM5.cell 0 rfl 1)
      (first | (go_at_call 78; refine p2.mono ?_; rintro e w5 ⟨rfl, hM5⟩))
    all_goals
      go_wp2_with fail
      go_meet
      case rel => exact hM5
  case rest =>
  have p3 := uput_at hcut 1 rfl 4 (by have := HR.out; omega) 2 n (by omega) hnb
  clear hcut HM2 k1 p2
  go_wp2_with fail
  refine p3.mono ?_
  rintro e w4 ⟨rfl, hM4⟩
  clear p3
  have HM4 : Hid (Mem w w4 [(w.heap.size, .cells (udA s d c (.slice a m cb)) udT), (w.heap.size + 1, .cells (bs (blz n [(0, s / 256), (1, s % 256), (2, d / 256), (3, d % 256), (4, (n : Int) / 256), (5, (n : Int) % 256)])) 5)]) := hM4
  have k2 : w4.cell? ⟨w.heap.size, 2, none⟩ = some (.int .u16 c) := hM4.cell 0 rfl 2
  have p4 := uput_at HM4.out.drew 1 rfl 6 (by have := HR.out; omega) 2 c HR.out.2.2.2.2.2.2.1 HR.out.2.2.2.2.2.2.2
  clear hM4
  go_upto_region 7 with fail
  go_cut [] from 5 (fun wx => Mem w wx [(w.heap.size, .cells (udA s d c (.slice a m cb)) udT), (w.heap.size + 1, .cells (bs (ud8 n s d c ++ List.replicate m 0)) 5)])
  case first =>
    go_region_held3 (fun w' => w'.cell? ⟨w.heap.size, 2, none⟩ = some (.int .u16 c)) (first | go_keep | exact hM5.cell 0 rfl 2)
      (first | (go_at_call 78; refine p4.mono ?_; rintro e w5 ⟨rfl, hM5⟩))
    all_goals
      go_wp2_with fail
      go_meet
      case rel => rw [← blz_ud8 n m HR.out.2.2.1]; exact hM5
  case rest =>
  have HM5 : Hid _ := hcut
  have k3 : wc.cell? ⟨w.heap.size, 3, none⟩ = some (.slice a m cb) := hcut.cell 0 rfl 3
  clear hcut HM4 k2 p4
  go_upto_region 8 with fail
  go_cut [0, 4] from 5 (fun s0 s4 wx => s4 = .slice (some ⟨w.heap.size + 1, 0, none⟩) n n ∧ Mem w wx [(w.heap.size, .cells (udA s d c (.slice a m cb)) udT), (w.heap.size + 1, .cells (bs (ud8 n s d c ++ body)) 5)])
  case first =>
    have HRb := HM5.out.drew.row HR.out.1
    have HE : Hid _ := bs_tail (ud8 n s d c) body 8 m rfl HR.out.2.1
    have HF : Hid (8 + body.length ≤ (bs (ud8 n s d c ++ List.replicate m 0)).size) := by
      show _ ≤ _
      rw [bs_size, List.length_append, List.length_replicate, HR.out.2.1]; exact Nat.le_refl _
    by_cases hm0 : m = 0
    · have hn0 : n = 8 := by have := HR.out; omega
      have hbn : body = [] := List.eq_nil_of_length_eq_zero (by rw [HR.out.2.1]; exact hm0)
      go_region_law (refine step_copy_bytes rfl (.tmp 36) (.tmp 38) 29 29 rfl Try.underlying29 (some ⟨w.heap.size + 1, 0, none⟩) a 0 0 0 cb (by simp [Act.eval]) (by simp [Act.eval]) (w.heap.size + 1) 8 _ (bs (ud8 n s d c ++ body)) 5 (HM5.out.drew.get 1 rfl) body (by rw [hbn]; rfl) (fun hp => by rw [hbn] at hp; simp at hp) HF.out HE.out ?_; intro w5 hw5)
      all_goals
        go_wp2_with fail
        go_meet
        case rel => exact ⟨by rw [hn0], HM5.out.drew.wrote 1 rfl hw5⟩
    · have hn0 : (8 : Int) < n := by omega
      have hn1 : ¬ n = 8 := by omega
      have HP : Hid (0 < body.length → some (⟨w.heap.size + 1, 8, none⟩ : Addr) = some ⟨w.heap.size + 1, 8, none⟩ ∧ ∃ ad, a = some ad ∧ ∀ j v, (body.map (Value.int .u8))[j]? = some v → wc.drew.cell? (ad.add j) = some v) := by
        intro hp
        have hc := HRb.cells
        rcases hc with e | ⟨b, off, rfl, hc⟩
        · subst e; simp at hp
        · exact ⟨rfl, _, rfl, HRb.news⟩
      clear HRb
      go_region_law (refine step_copy_bytes rfl (.tmp 36) (.tmp 38) 29 29 rfl Try.underlying29 (some ⟨w.heap.size + 1, 8, none⟩) a m m m cb (by simp [Act.eval]) (by simp [Act.eval]) (w.heap.size + 1) 8 _ (bs (ud8 n s d c ++ body)) 5 (HM5.out.drew.get 1 rfl) body (by rw [HR.out.2.1]; exact (Nat.min_self m).symm) HP.out HF.out HE.out ?_; intro w5 hw5)
      all_goals
        go_wp2_with fail
        go_meet
        case rel => exact ⟨rfl, HM5.out.drew.wrote 1 rfl hw5⟩
  case rest =>
  obtain ⟨rfl, hM6⟩ := hcut
  have HM6 : Hid _ := hM6
  clear hM6 HM5
  go_wp2_with fail
  go_ret2
  exact ⟨rfl, mem_owns HM6.out 1 rfl n (by rw [List.length_append, HR.out.2.1, HR.out.2.2.1]; rfl) (by omega), HM6.out.below⟩

set_option maxHeartbeats 400000 in
theorem ubytes_big (w : World) (a : Option Addr) (m cb : Nat) (h1 : 65527 < m) (s d c : Int) :
    Calls Try.prog 50 #[.agg (udA s d c (.slice a m cb))] w fun e w' => e = .returned (.tuple #[.slice none 0 0, .int .i64 23]) ∧ Below w.heap.size w w' := by
  have h' : (65527 : Int) < m := by omega
  go_enter Try.func50, Try.ntmps50
  go_wp2
  go_ret2
  exact ⟨rfl, (Below.refl _ _).alloc (Nat.le_refl _) _⟩

/-- What udp.Bytes answers, whatever it is handed. -/
theorem ubytes_any {w : World} {B : Nat} {v : Value} {u : Dg} (hu : u.Ok) (hv : UdV w B v u) :
    Calls Try.prog 50 #[v] w fun r w' => ∃ x, r = .returned (.tuple #[x, .int .i64 (udbErr u)]) ∧ w'.ownsRow w.heap.size 5 1 x (udOut u).length ((udOut u).map (Value.int .u8)) ∧ Below w.heap.size w w' := by
  obtain ⟨bo, cb, rfl, hr, -, -⟩ := hv
  by_cases h : 65527 < u.body.length
  · have e : udbErr u = 23 := by unfold udbErr; rw [if_pos h]
    have e2 : udOut u = [] := by unfold udOut; rw [e]; rfl
    rw [e, e2]
    refine (ubytes_big w bo _ cb h _ _ _).mono ?_
    rintro r w' ⟨rfl, hb⟩
    exact ⟨_, rfl, World.ownsRow_nil _ _ _ _, hb⟩
  · have e : udbErr u = 0 := by unfold udbErr; rw [if_neg h]
    have e2 : udOut u = udb u := if_pos e
    rw [e, e2, udb_len]
    refine (ubytes_ok hr _ cb (8 + u.body.length) rfl (by omega) rfl u.src u.dst u.sum hu.src hu.dst hu.sum).mono ?_
    rintro r w' ⟨rfl, ho, hb⟩
    exact ⟨_, rfl, ho, hb⟩
end Go.Proofs.Ytjalpbkfpjfigab

namespace Go.Proofs.Ytjalpbkfpjfigab
open Go.RowKit
open Sm
set_option linter.unusedVariables false
set_option maxRecDepth 20000

theorem wraps_i64 (n : Int) (h0 : 0 ≤ n) (h1 : n < 2 ^ 63) : IntKind.i64.wrap n = n := by rw [IntKind.wrap_i64]; omega
theorem sm_low4 (x : Int) (h0 : 0 ≤ x) (h1 : x ≤ 255) : bits .and .u8 x 15 = x % 16 := bits_mask .u8 8 (by decide) wraps_u8 4 (by decide) x h0 (by omega)
theorem sm_word64 (x y : Int) (h0 : 0 ≤ x) (h1 : x ≤ 255) (h2 : 0 ≤ y) (h3 : y ≤ 255) : bits .or .i64 (x * 256) y = x * 256 + y :=
  bits_join .i64 63 (by decide) wraps_i64 8 (x * 256) y (by omega) (by omega) (by omega) h2 (by omega) (by omega)
theorem rd_mem (w : World) (v : Value) : Mem w (w.alloc (.cells #[v] rdT)) [(w.heap.size, .cells #[v] rdT (0, 0))] := (Mem.nil w).push w.heap.size (.cells #[v] rdT) rfl

set_option maxHeartbeats 1000000 in
theorem split_few {w : World} (a : Option Addr) (n c : Nat) (h : n < 20) :
    Calls Try.prog 70 #[.slice a n c] w fun r w' => r = .panicked (failing 20) ∧ Below w.heap.size w w' := by
  go_enter Try.func70, Try.ntmps70
  go_upto_region 2 with fail
  refine wp_letter (fun W => Mem w W [(w.heap.size, .cells #[.slice a n c] rdT (0, 0))]) (rd_mem ..) ?_
  intro w1 hM1
  have hn := need_no (hM1.cell 0 rfl 0) 20 h
  have HM1 : Hid _ := hM1
  clear hM1
  go_wp2_with fail
  refine hn.mono ?_
  rintro e w' ⟨rfl, rfl⟩
  exact ⟨rfl, rfl, HM1.out.below⟩

/-- What the walks of split know of the first bytes. -/
structure Front (w : World) (b off n : Nat) (x0 x2 x3 : Int) (k wl : Nat) : Prop where
  c0 : w.cell? ⟨b, off, none⟩ = some (.int .u8 x0)
  c2 : w.cell? ⟨b, off + 2, none⟩ = some (.int .u8 x2)
  c3 : w.cell? ⟨b, off + 3, none⟩ = some (.int .u8 x3)
  r0 : 0 ≤ x0 ∧ x0 ≤ 255
  r2 : 0 ≤ x2 ∧ x2 ≤ 255
  r3 : 0 ≤ x3 ∧ x3 ≤ 255
  hk : x0 % 16 = k
  hw : x2 * 256 + x3 = wl
  n0 : 20 ≤ n
  n1 : n ≤ 140737488351232

set_option maxHeartbeats 2000000 in
theorem split_form {w : World} {b off n : Nat} {x0 x2 x3 : Int} {k wl : Nat} (F : Front w b off n x0 x2 x3 k wl) (c : Nat) (h : ¬ (x0 / 16 = 4 ∧ 20 ≤ 4 * k ∧ 4 * k ≤ wl)) :
    Calls Try.prog 70 #[.slice (some ⟨b, off, none⟩) n c] w fun r w' => r = .panicked (failing 21) ∧ Below w.heap.size w w' := by
  obtain ⟨c0, c2, c3, ⟨r00, r01⟩, ⟨r20, r21⟩, ⟨r30, r31⟩, hk, hw, n0, n1⟩ := F
  have hand := sm_low4 x0 r00 r01
  rw [hk] at hand
  have hor := sm_word64 x2 x3 r20 r21 r30 r31
  rw [hw] at hor
  have k1 : (k : Int) ≤ 15 := by omega
  have wl1 : (wl : Int) ≤ 65535 := by omega
  have hb := cell_lt c0
  simp only at hb
  have v0 := wrap64_small x2 r20 (by omega)
  have v1 := wrap64_small x3 r30 (by omega)
  have v2 := wrap64_small (x2 * 256) (by omega) (by omega)
  have v3 := wrap64_small (k : Int) (by omega) (by omega)
  have v4 := wrap64_small (4 * (k : Int)) (by omega) (by omega)
  have i0 : (0 : Int) < n := by omega
  have i2 : (2 : Int) < n := by omega
  have i3 : (3 : Int) < n := by omega
  have HN0 : Hid (20 ≤ n) := n0
  have cases3 : x0 / 16 ≠ 4 ∨ (x0 / 16 = 4 ∧ ¬ (20 : Int) ≤ 4 * (k : Int)) ∨ (x0 / 16 = 4 ∧ (20 : Int) ≤ 4 * (k : Int) ∧ ¬ 4 * (k : Int) ≤ wl) := by omega
  clear hk hw h n0 n1
  rcases cases3 with hv | ⟨hv, h20⟩ | ⟨hv, h20, hle⟩
  all_goals
    go_enter Try.func70, Try.ntmps70
    go_upto_region 2 with fail
    refine wp_letter (fun W => Mem w W [(w.heap.size, .cells (rdr b off n c) rdT (0, 0))]) (rd_mem ..) ?_
    intro w1 hM1
    have hn := need_yes (hM1.cell 0 rfl 0) 20 HN0.out
    have d0 := (hM1.old (i := off) hb).trans c0
    have d2 := (hM1.old (i := off + 2) hb).trans c2
    have d3 := (hM1.old (i := off + 3) hb).trans c3
    have HM1 : Hid _ := hM1
    clear hM1
    go_wp2_with fail
    refine hn.mono ?_
    rintro e w' ⟨rfl, rfl⟩
    go_wp2_with fail
    go_quiet (fail)
    go_wp2_with fail
    first
      | refine (must_no 21 _).mono ?_
      | (rw [decide_eq_false (Int.not_le.mpr hle)]; refine (must_no 21 _).mono ?_)
    rintro e w' ⟨rfl, rfl⟩
    exact ⟨rfl, rfl, (HM1.out.drewN _).below⟩

set_option maxHeartbeats 2000000 in
theorem split_rest {w : World} {b off n : Nat} {x0 x2 x3 : Int} {k wl : Nat} (F : Front w b off n x0 x2 x3 k wl) (c : Nat) (hc : n ≤ c) (hv : x0 / 16 = 4) (h20 : 20 ≤ 4 * k) (hle : 4 * k ≤ wl) :
    Calls Try.prog 70 #[.slice (some ⟨b, off, none⟩) n c] w fun r w' => Below w.heap.size w w' ∧
      ((r = .panicked (failing 20) ∧ (n < 4 * k ∨ n < wl)) ∨
       (∃ o2, r = .returned (.tuple #[.slice (some ⟨b, off, none⟩) (4 * k) c, .slice (some ⟨b, o2, none⟩) (wl - 4 * k) (c - 4 * k)]) ∧ 4 * k ≤ n ∧ wl ≤ n ∧ (4 * k < n → o2 = off + 4 * k))) := by
  obtain ⟨c0, c2, c3, ⟨r00, r01⟩, ⟨r20, r21⟩, ⟨r30, r31⟩, hk, hw, n0, n1⟩ := F
  have hand := sm_low4 x0 r00 r01
  rw [hk] at hand
  have hor := sm_word64 x2 x3 r20 r21 r30 r31
  rw [hw] at hor
  have k1 : (k : Int) ≤ 15 := by omega
  have wl1 : (wl : Int) ≤ 65535 := by omega
  have hb := cell_lt c0
  simp only at hb
  have v0 := wrap64_small x2 r20 (by omega)
  have v1 := wrap64_small x3 r30 (by omega)
  have v2 := wrap64_small (x2 * 256) (by omega) (by omega)
  have v3 := wrap64_small (k : Int) (by omega) (by omega)
  have v4 := wrap64_small (4 * (k : Int)) (by omega) (by omega)
  have v5 := wrap64_small ((wl : Int) - 4 * (k : Int)) (by omega) (by omega)
  have i0 : (0 : Int) < n := by omega
  have i2 : (2 : Int) < n := by omega
  have i3 : (3 : Int) < n := by omega
  have HN0 : Hid (20 ≤ n ∧ n ≤ 140737488351232 ∧ n ≤ c ∧ 4 * k ≤ wl) := ⟨n0, n1, hc, hle⟩
  have h20' : (20 : Int) ≤ 4 * (k : Int) := by omega
  have hle' : 4 * (k : Int) ≤ wl := by omega
  have e1 : 4 * (k : Int) = ((4 * k : Nat) : Int) := by omega
  have e2 : (wl : Int) - 4 * (k : Int) = ((wl - 4 * k : Nat) : Int) := by omega
  have HE1 : Hid (4 * (k : Int) = ((4 * k : Nat) : Int)) := e1
  have HE2 : Hid ((wl : Int) - 4 * (k : Int) = ((wl - 4 * k : Nat) : Int)) := e2
  clear hk hw n0 n1 hc h20 hle e1 e2
  go_enter Try.func70, Try.ntmps70
  go_upto_region 2 with fail
  refine wp_letter (fun W => Mem w W [(w.heap.size, .cells (rdr b off n c) rdT (0, 0))]) (rd_mem ..) ?_
  intro w1 hM1
  have hn := need_yes (hM1.cell 0 rfl 0) 20 HN0.out.1
  have d0 := (hM1.old (i := off) hb).trans c0
  have d2 := (hM1.old (i := off + 2) hb).trans c2
  have d3 := (hM1.old (i := off + 3) hb).trans c3
  have HM1 : Hid _ := hM1
  clear hM1
  go_wp2_with fail
  refine hn.mono ?_
  rintro e w' ⟨rfl, rfl⟩
  go_wp2_with fail
  go_quiet (fail)
  go_wp2_with fail
  refine (must_yes 21 _).mono ?_
  rintro e w' ⟨rfl, rfl⟩
  have HM2 : Hid _ := HM1.out.drewN nq
  generalize w1.drewN nq = w2 at HM2 ⊢
  clear HM1 hn d0 d2 d3
  go_wp2_with fail
  rw [HE1.out]
  by_cases h1 : 4 * k ≤ n
  · refine (take_wrote (HM2.out.get 0 rfl) (4 * k) h1 HN0.out.2.2.1 HN0.out.2.1).mono ?_
    rintro e w3 ⟨rfl, o2, ho2, hw3⟩
    have HM3 : Hid _ := HM2.out.wrote 0 rfl hw3
    have HO2 : Hid _ := ho2
    clear HM2 hw3 ho2
    go_wp2_with fail
    rw [HE2.out]
    by_cases h2 : wl ≤ n
    · refine (take_wrote (HM3.out.get 0 rfl) (wl - 4 * k) (by omega) (by have := HN0.out; omega) (by have := HN0.out; omega)).mono ?_
      rintro e w4 ⟨rfl, o3, ho3, hw4⟩
      have HM4 : Hid _ := HM3.out.wrote 0 rfl hw4
      clear HM3 hw4 ho3
      go_wp2_with fail
      go_ret2
      exact ⟨HM4.out.below, Or.inr ⟨o2, rfl, h1, h2, HO2.out⟩⟩
    · refine (take_no (HM3.out.cell 0 rfl 0) (wl - 4 * k) (by have := HN0.out; omega)).mono ?_
      rintro e w4 ⟨rfl, rfl⟩
      exact ⟨rfl, HM3.out.below, Or.inl ⟨rfl, Or.inr (by omega)⟩⟩
  · refine (take_no (HM2.out.cell 0 rfl 0) (4 * k) (by omega)).mono ?_
    rintro e w4 ⟨rfl, rfl⟩
    exact ⟨rfl, HM2.out.below, Or.inl ⟨rfl, Or.inl (by omega)⟩⟩
end Go.Proofs.Ytjalpbkfpjfigab

