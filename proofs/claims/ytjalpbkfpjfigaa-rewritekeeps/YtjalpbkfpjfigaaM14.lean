/-
  What udp.Bytes answers: the datagram's bytes in a row of the call's own, or the error.
  What icmp.Bytes answers: the message's bytes in a row of the call's own, or the error.
  What tcp.Parse answers where it refuses.
-/
import Derived.Test.YtjalpbkfpjfigaaM09
import Derived.Test.YtjalpbkfpjfigaaM10
namespace Go.Proofs.Ytjalpbkfpjfigaa
open Go.RowKit
open Sm
set_option linter.unusedVariables false

set_option maxHeartbeats 1000000 in
theorem uput_ok {W : World} {g j : Nat} (z0 z1 : Int) (k0 : W.cell? ⟨g, j, none⟩ = some (.int .u8 z0)) (k1 : W.cell? ⟨g, j + 1, none⟩ = some (.int .u8 z1)) (kf : ∀ i, W.frozen? ⟨g, i, none⟩ = false) (c : Nat) (x : Int) (r0 : 0 ≤ x) (r1 : x ≤ 65535) :
    Calls Try.prog 76 #[.slice (some ⟨g, j, none⟩) 2 c, .int .u16 x] W fun e w' => e = .returned (.tuple #[]) ∧ w' = (W.setCell ⟨g, j, none⟩ (.int .u8 (x / 256))).setCell ⟨g, j + 1, none⟩ (.int .u8 (x % 256)) := by
  have u1 : IntKind.u8.wrap (x / 256) = x / 256 := wrap8_small _ (by omega) (by omega)
  have u2 : IntKind.u8.wrap x = x % 256 := by simp [IntKind.wrap, IntKind.bits, IntKind.signed]
  go_enter Try.func76, Try.ntmps76
  go_wp2
  go_end0
  exact ⟨rfl, rfl⟩

theorem uput_at {w W : World} {L : List (Nat × Obj)} (hM : Mem w W L) (i : Nat) {g N : Nat} {xs : List (Nat × Int)} (hi : L[i]? = some (g, .cells (bs (blz N xs)) 5 (0, 0))) (j : Nat) (hj : j + 1 < N) (c : Nat) (x : Int) (r0 : 0 ≤ x) (r1 : x ≤ 65535) :
    Calls Try.prog 76 #[.slice (some ⟨g, j, none⟩) 2 c, .int .u16 x] W fun e w' => e = .returned (.tuple #[]) ∧ Mem w w' (L.set i (g, .cells (bs (blz N (xs ++ [(j, x / 256), (j + 1, x % 256)]))) 5 (0, 0))) := by
  obtain ⟨z0, k0⟩ := hM.spot i hi j (by omega)
  obtain ⟨z1, k1⟩ := hM.spot i hi (j + 1) (by omega)
  refine (uput_ok z0 z1 k0 k1 (hM.free i hi) c x r0 r1).mono ?_
  rintro e w' ⟨rfl, hw⟩
  exact ⟨rfl, hM.put2 i hi j _ _ hw⟩

theorem blz_ud8 (n m : Nat) (h : n = 8 + m) (s d c : Int) : blz n [(0, s / 256), (1, s % 256), (2, d / 256), (3, d % 256), (4, (n : Int) / 256), (5, (n : Int) % 256), (6, c / 256), (7, c % 256)] = ud8 n s d c ++ List.replicate m 0 := by
  have e : List.replicate n (0 : Int) = List.replicate 8 0 ++ List.replicate m 0 := by rw [h, List.replicate_append_replicate]
  unfold blz
  rw [e]
  generalize List.replicate m (0 : Int) = R
  simp only [List.foldl_cons, List.foldl_nil, List.replicate, List.cons_append, List.nil_append, List.set_cons_zero, List.set_cons_succ, ud8]

set_option maxHeartbeats 2000000 in
theorem ubytes_ok {w : World} {a : Option Addr} {body : List Int} (hr : Row w a body) (m cb n : Nat) (hm : body.length = m) (h1 : m ≤ 65527) (hn : n = 8 + m) (s d c : Int) (hs : 0 ≤ s ∧ s ≤ 65535) (hd : 0 ≤ d ∧ d ≤ 65535) (hc : 0 ≤ c ∧ c ≤ 65535) :
    Calls Try.prog 54 #[.agg (udA s d c (.slice a m cb))] w fun e w' => e = .returned (.tuple #[.slice (some ⟨w.heap.size + 1, 0, none⟩) n n, .int .i64 0]) ∧
      w'.ownsRow w.heap.size 5 1 (.slice (some ⟨w.heap.size + 1, 0, none⟩) n n) n ((ud8 n s d c ++ body).map (Value.int .u8)) ∧ Below w.heap.size w w' := by
  have HR : Hid (Row w a body ∧ body.length = m ∧ n = 8 + m ∧ m ≤ 65527 ∧ (0 ≤ s ∧ s ≤ 65535) ∧ (0 ≤ d ∧ d ≤ 65535) ∧ 0 ≤ c ∧ c ≤ 65535) := ⟨hr, hm, hn, h1, hs, hd, hc⟩
  have hmi : (m : Int) ≤ 65527 := by omega
  have hni : 8 + (m : Int) = n := by omega
  have hnb : (n : Int) ≤ 65535 := by omega
  have hn2 : (2 : Int) ≤ n := by omega
  have hn4 : (4 : Int) ≤ n := by omega
  have hn6 : (6 : Int) ≤ n := by omega
  have hn8 : (8 : Int) ≤ n := by omega
  have hnm : n - 8 = m := by omega
  have hmk := make_bytes n (by omega)
  have hnw : IntKind.u16.wrap (n : Int) = n := wrap16_small _ (by omega) (by omega)
  clear hr hm hs hd hc hn h1
  go_enter Try.func54, Try.ntmps54
  go_upto_region 4 with fail
  refine wp_letter (fun W => Mem w W [(w.heap.size, .cells (udA s d c (.slice a m cb)) udT), (w.heap.size + 1, .cells (bs (blz n [])) 5)]) (by rw [show bs (blz n []) = madeCells #[Value.int .u8 0] n from (bs_made n).symm]; exact ((Mem.nil w).push w.heap.size _ rfl).push (w.heap.size + 1) _ (by simp)) ?_
  intro w1 hM1
  have HM1 : Hid _ := hM1
  have k0 : w1.cell? ⟨w.heap.size, 0, none⟩ = some (.int .u16 s) := hM1.cell 0 rfl 0
  have p1 := uput_at hM1.drew 1 rfl 0 (by have := HR.out; omega) 2 s HR.out.2.2.2.2.1.1 HR.out.2.2.2.2.1.2
  clear hM1
  go_cut [] from 5 (fun wx => Mem w wx [(w.heap.size, .cells (udA s d c (.slice a m cb)) udT), (w.heap.size + 1, .cells (bs (blz n [(0, s / 256), (1, s % 256)])) 5)])
  case first =>
    go_region_held3 (fun w' => w'.cell? ⟨w.heap.size, 0, none⟩ = some (.int .u16 s)) (first | go_keep | exact hM5.cell 0 rfl 0)
      (first | (go_at_call 76; refine p1.mono ?_; rintro e w5 ⟨rfl, hM5⟩))
    all_goals
      go_wp2_with fail
      go_meet
      case rel => exact hM5
  case rest =>
  have HM2 : Hid _ := hcut
  have k1 : wc.cell? ⟨w.heap.size, 1, none⟩ = some (.int .u16 d) := hcut.cell 0 rfl 1
  have p2 := uput_at hcut.drew 1 rfl 2 (by have := HR.out; omega) 2 d HR.out.2.2.2.2.2.1.1 HR.out.2.2.2.2.2.1.2
  clear hcut HM1 k0 p1
  go_upto_region 5 with fail
  go_cut [] from 5 (fun wx => Mem w wx [(w.heap.size, .cells (udA s d c (.slice a m cb)) udT), (w.heap.size + 1, .cells (bs (blz n [(0, s / 256), (1, s % 256), (2, d / 256), (3, d % 256)])) 5)])
  case first =>
    go_region_held3 (fun w' => w'.cell? ⟨w.heap.size, 1, none⟩ = some (.int .u16 d)) (first | go_keep | exact hM5.cell 0 rfl 1)
      (first | (go_at_call 76; refine p2.mono ?_; rintro e w5 ⟨rfl, hM5⟩))
    all_goals
      go_wp2_with fail
      go_meet
      case rel => exact hM5
  case rest =>
  have p3 := uput_at hcut 1 rfl 4 (by have := HR.out; omega) 2 n (by omega) hnb
  clear hcut HM2 k1 p2
  go_wp2_with fail
  refine p3.mono ?_
  rintro e w4 ⟨rfl, hM4⟩
  clear p3
  have HM4 : Hid (Mem w w4 [(w.heap.size, .cells (udA s d c (.slice a m cb)) udT), (w.heap.size + 1, .cells (bs (blz n [(0, s / 256), (1, s % 256), (2, d / 256), (3, d % 256), (4, (n : Int) / 256), (5, (n : Int) % 256)])) 5)]) := hM4
  have k2 : w4.cell? ⟨w.heap.size, 2, none⟩ = some (.int .u16 c) := hM4.cell 0 rfl 2
  have p4 := uput_at HM4.out.drew 1 rfl 6 (by have := HR.out; omega) 2 c HR.out.2.2.2.2.2.2.1 HR.out.2.2.2.2.2.2.2
  clear hM4
  go_upto_region 7 with fail
  go_cut [] from 5 (fun wx => Mem w wx [(w.heap.size, .cells (udA s d c (.slice a m cb)) udT), (w.heap.size + 1, .cells (bs (ud8 n s d c ++ List.replicate m 0)) 5)])
  case first =>
    go_region_held3 (fun w' => w'.cell? ⟨w.heap.size, 2, none⟩ = some (.int .u16 c)) (first | go_keep | exact hM5.cell 0 rfl 2)
      (first | (go_at_call 76; refine p4.mono ?_; rintro e w5 ⟨rfl, hM5⟩))
    all_goals
      go_wp2_with fail
      go_meet
      case rel => rw [← blz_ud8 n m HR.out.2.2.1]; exact hM5
  case rest =>
  have HM5 : Hid _ := hcut
  have k3 : wc.cell? ⟨w.heap.size, 3, none⟩ = some (.slice a m cb) := hcut.cell 0 rfl 3
  clear hcut HM4 k2 p4
  go_upto_region 8 with fail
  go_cut [0, 4] from 5 (fun s0 s4 wx => s4 = .slice (some ⟨w.heap.size + 1, 0, none⟩) n n ∧ Mem w wx [(w.heap.size, .cells (udA s d c (.slice a m cb)) udT), (w.heap.size + 1, .cells (bs (ud8 n s d c ++ body)) 5)])
  case first =>
    have HRb := HM5.out.drew.row HR.out.1
    have HE : Hid _ := bs_tail (ud8 n s d c) body 8 m rfl HR.out.2.1
    have HF : Hid (8 + body.length ≤ (bs (ud8 n s d c ++ List.replicate m 0)).size) := by
      show _ ≤ _
      rw [bs_size, List.length_append, List.length_replicate, HR.out.2.1]; exact Nat.le_refl _
    by_cases hm0 : m = 0
    · have hn0 : n = 8 := by have := HR.out; omega
      have hbn : body = [] := List.eq_nil_of_length_eq_zero (by rw [HR.out.2.1]; exact hm0)
      go_region_law (refine step_copy_bytes rfl (.tmp 36) (.tmp 38) 22 22 rfl Try.underlying22 (some ⟨w.heap.size + 1, 0, none⟩) a 0 0 0 cb (by simp [Act.eval]) (by simp [Act.eval]) (w.heap.size + 1) 8 _ (bs (ud8 n s d c ++ body)) 5 (HM5.out.drew.get 1 rfl) body (by rw [hbn]; rfl) (fun hp => by rw [hbn] at hp; simp at hp) HF.out HE.out ?_; intro w5 hw5)
      all_goals
        go_wp2_with fail
        go_meet
        case rel => exact ⟨by rw [hn0], HM5.out.drew.wrote 1 rfl hw5⟩
    · have hn0 : (8 : Int) < n := by omega
      have hn1 : ¬ n = 8 := by omega
      have HP : Hid (0 < body.length → some (⟨w.heap.size + 1, 8, none⟩ : Addr) = some ⟨w.heap.size + 1, 8, none⟩ ∧ ∃ ad, a = some ad ∧ ∀ j v, (body.map (Value.int .u8))[j]? = some v → wc.drew.cell? (ad.add j) = some v) := by
        intro hp
        have hc := HRb.cells
        rcases hc with e | ⟨b, off, rfl, hc⟩
        · subst e; simp at hp
        · exact ⟨rfl, _, rfl, HRb.news⟩
      clear HRb
      go_region_law (refine step_copy_bytes rfl (.tmp 36) (.tmp 38) 22 22 rfl Try.underlying22 (some ⟨w.heap.size + 1, 8, none⟩) a m m m cb (by simp [Act.eval]) (by simp [Act.eval]) (w.heap.size + 1) 8 _ (bs (ud8 n s d c ++ body)) 5 (HM5.out.drew.get 1 rfl) body (by rw [HR.out.2.1]; exact (Nat.min_self m).symm) HP.out HF.out HE.out ?_; intro w5 hw5)
      all_goals
        go_wp2_with fail
        go_meet
        case rel => exact ⟨rfl, HM5.out.drew.wrote 1 rfl hw5⟩
  case rest =>
  obtain ⟨rfl, hM6⟩ := hcut
  have HM6 : Hid _ := hM6
  clear hM6 HM5
  go_wp2_with fail
  go_ret2
  exact ⟨rfl, mem_owns HM6.out 1 rfl n (by rw [List.length_append, HR.out.2.1, HR.out.2.2.1]; rfl) (by omega), HM6.out.below⟩

set_option maxHeartbeats 400000 in
theorem ubytes_big (w : World) (a : Option Addr) (m cb : Nat) (h1 : 65527 < m) (s d c : Int) :
    Calls Try.prog 54 #[.agg (udA s d c (.slice a m cb))] w fun e w' => e = .returned (.tuple #[.slice none 0 0, .int .i64 23]) ∧ Below w.heap.size w w' := by
  have h' : (65527 : Int) < m := by omega
  go_enter Try.func54, Try.ntmps54
  go_wp2
  go_ret2
  exact ⟨rfl, (Below.refl _ _).alloc (Nat.le_refl _) _⟩

/-- What udp.Bytes answers, whatever it is handed. -/
theorem ubytes_any {w : World} {B : Nat} {v : Value} {u : Dg} (hu : u.Ok) (hv : UdV w B v u) :
    Calls Try.prog 54 #[v] w fun r w' => ∃ x, r = .returned (.tuple #[x, .int .i64 (udbErr u)]) ∧ w'.ownsRow w.heap.size 5 1 x (udOut u).length ((udOut u).map (Value.int .u8)) ∧ Below w.heap.size w w' := by
  obtain ⟨bo, cb, rfl, hr, -, -⟩ := hv
  by_cases h : 65527 < u.body.length
  · have e : udbErr u = 23 := by unfold udbErr; rw [if_pos h]
    have e2 : udOut u = [] := by unfold udOut; rw [e]; rfl
    rw [e, e2]
    refine (ubytes_big w bo _ cb h _ _ _).mono ?_
    rintro r w' ⟨rfl, hb⟩
    exact ⟨_, rfl, World.ownsRow_nil _ _ _ _, hb⟩
  · have e : udbErr u = 0 := by unfold udbErr; rw [if_neg h]
    have e2 : udOut u = udb u := if_pos e
    rw [e, e2, udb_len]
    refine (ubytes_ok hr _ cb (8 + u.body.length) rfl (by omega) rfl u.src u.dst u.sum hu.src hu.dst hu.sum).mono ?_
    rintro r w' ⟨rfl, ho, hb⟩
    exact ⟨_, rfl, ho, hb⟩
end Go.Proofs.Ytjalpbkfpjfigaa

namespace Go.Proofs.Ytjalpbkfpjfigaa
open Go.RowKit
open Sm
set_option linter.unusedVariables false

theorem blz_mg8 (n m : Nat) (h : n = 8 + m) (t k c r : Int) : blz n [(0, t), (1, k), (2, c / 256), (3, c % 256), (4, r / 16777216), (5, r / 65536 % 256), (6, r / 256 % 256), (7, r % 256)] = mg8 t k c r ++ List.replicate m 0 := by
  have e : List.replicate n (0 : Int) = List.replicate 8 0 ++ List.replicate m 0 := by rw [h, List.replicate_append_replicate]
  unfold blz
  rw [e]
  generalize List.replicate m (0 : Int) = R
  simp only [List.foldl_cons, List.foldl_nil, List.replicate, List.cons_append, List.nil_append, List.set_cons_zero, List.set_cons_succ, mg8]

set_option maxRecDepth 20000 in
set_option maxHeartbeats 2000000 in
theorem mbytes_ok {w : World} {a : Option Addr} {body : List Int} (hr : Row w a body) (m cb n : Nat) (hm : body.length = m) (h1 : m ≤ 65507) (hn : n = 8 + m) (t k c r : Int) (ht : 0 ≤ t ∧ t ≤ 255) (hk : 0 ≤ k ∧ k ≤ 255) (hc : 0 ≤ c ∧ c ≤ 65535) (hrr : 0 ≤ r ∧ r ≤ 4294967295) :
    Calls Try.prog 81 #[.agg (mgA t k c r (.slice a m cb))] w fun e w' => e = .returned (.tuple #[.slice (some ⟨w.heap.size + 1, 0, none⟩) n n, .int .i64 0]) ∧
      w'.ownsRow w.heap.size 5 1 (.slice (some ⟨w.heap.size + 1, 0, none⟩) n n) n ((mg8 t k c r ++ body).map (Value.int .u8)) ∧ Below w.heap.size w w' := by
  have HR : Hid (Row w a body ∧ body.length = m ∧ n = 8 + m ∧ m ≤ 65507 ∧ (0 ≤ t ∧ t ≤ 255) ∧ (0 ≤ k ∧ k ≤ 255) ∧ (0 ≤ c ∧ c ≤ 65535) ∧ 0 ≤ r ∧ r ≤ 4294967295) := ⟨hr, hm, hn, h1, ht, hk, hc, hrr⟩
  have hmi : (m : Int) ≤ 65507 := by omega
  have hni : 8 + (m : Int) = n := by omega
  have hnb : (n : Int) ≤ 65515 := by omega
  have hn0 : (0 : Int) < n := by omega
  have hn0' : 0 < n := by omega
  have hn1 : (1 : Int) < n := by omega
  have hn4 : (4 : Int) ≤ n := by omega
  have hn8 : (8 : Int) ≤ n := by omega
  have hn44 : (4 : Int) ≤ ((n - 4 : Nat) : Int) := by omega
  have n2 : ¬ n = 2 := by omega
  have n4 : ¬ n = 4 := by omega
  have hnm : n - 8 = m := by omega
  have hmk := make_bytes n (by omega)
  clear hr hm ht hk hc hrr hn h1
  go_enter Try.func81, Try.ntmps81
  go_upto_region 4 with fail
  refine wp_letter (fun W => Mem w W [(w.heap.size, .cells (mgA t k c r (.slice a m cb)) mgT), (w.heap.size + 1, .cells (bs (blz n [])) 5)]) (by rw [show bs (blz n []) = madeCells #[Value.int .u8 0] n from (bs_made n).symm]; exact ((Mem.nil w).push w.heap.size _ rfl).push (w.heap.size + 1) _ (by simp)) ?_
  intro w1 hM1
  have HM1 : Hid _ := hM1
  have k0 : w1.cell? ⟨w.heap.size, 0, none⟩ = some (.int .u8 t) := hM1.cell 0 rfl 0
  obtain ⟨z0, y0⟩ := hM1.spot 1 rfl 0 (by omega)
  have kf : ∀ i, w1.frozen? ⟨w.heap.size + 1, i, none⟩ = false := hM1.free 1 rfl
  clear hM1
  go_upto_region 5 with fail
  refine wp_letter (fun W => Mem w W [(w.heap.size, .cells (mgA t k c r (.slice a m cb)) mgT), (w.heap.size + 1, .cells (bs (blz n [(0, t)])) 5)]) (HM1.out.put 1 rfl 0 t) ?_
  intro w2 hM2
  have HM2 : Hid _ := hM2
  clear HM1 k0 y0 kf
  have k1 : w2.cell? ⟨w.heap.size, 1, none⟩ = some (.int .u8 k) := hM2.cell 0 rfl 1
  obtain ⟨z1, y1⟩ := hM2.spot 1 rfl 1 (by omega)
  have kf : ∀ i, w2.frozen? ⟨w.heap.size + 1, i, none⟩ = false := hM2.free 1 rfl
  clear hM2
  go_upto_region 6 with fail
  refine wp_letter (fun W => Mem w W [(w.heap.size, .cells (mgA t k c r (.slice a m cb)) mgT), (w.heap.size + 1, .cells (bs (blz n [(0, t), (1, k)])) 5)]) (HM2.out.put 1 rfl 1 k) ?_
  intro w3 hM3
  have HM3 : Hid _ := hM3
  clear HM2 k1 y1 kf
  have k2 : w3.cell? ⟨w.heap.size, 2, none⟩ = some (.int .u16 c) := hM3.cell 0 rfl 2
  have p1 := mput_at hM3.drew 1 rfl 2 (by have := HR.out; omega) (n - 2) c HR.out.2.2.2.2.2.2.1.1 HR.out.2.2.2.2.2.2.1.2
  clear hM3
  go_cut [] from 5 (fun wx => Mem w wx [(w.heap.size, .cells (mgA t k c r (.slice a m cb)) mgT), (w.heap.size + 1, .cells (bs (blz n [(0, t), (1, k), (2, c / 256), (3, c % 256)])) 5)])
  case first =>
    go_region_held3 (fun w' => w'.cell? ⟨w.heap.size, 2, none⟩ = some (.int .u16 c)) (first | go_keep | exact hM5.cell 0 rfl 2)
      (first | (go_at_call 97; refine p1.mono ?_; rintro e w5 ⟨rfl, hM5⟩))
    all_goals
      go_wp2_with fail
      go_meet
      case rel => exact hM5
  case rest =>
  have HM4 : Hid _ := hcut
  have k3 : wc.cell? ⟨w.heap.size, 3, none⟩ = some (.int .u32 r) := hcut.cell 0 rfl 3
  have p2 := mputLong_at hcut.drew 1 rfl 4 (by have := HR.out; omega) (n - 4) hn44 r HR.out.2.2.2.2.2.2.2.1 HR.out.2.2.2.2.2.2.2.2
  clear hcut HM3 k2 p1
  go_upto_region 7 with fail
  go_cut [] from 5 (fun wx => Mem w wx [(w.heap.size, .cells (mgA t k c r (.slice a m cb)) mgT), (w.heap.size + 1, .cells (bs (mg8 t k c r ++ List.replicate m 0)) 5)])
  case first =>
    go_region_held3 (fun w' => w'.cell? ⟨w.heap.size, 3, none⟩ = some (.int .u32 r)) (first | go_keep | exact hM5.cell 0 rfl 3)
      (first | (go_at_call 98; refine p2.mono ?_; rintro e w5 ⟨rfl, hM5⟩))
    all_goals
      go_wp2_with fail
      go_meet
      case rel => rw [← blz_mg8 n m HR.out.2.2.1]; exact hM5
  case rest =>
  have HM5 : Hid _ := hcut
  have k4 : wc.cell? ⟨w.heap.size, 4, none⟩ = some (.slice a m cb) := hcut.cell 0 rfl 4
  clear hcut HM4 k3 p2
  go_upto_region 8 with fail
  go_cut [0, 4] from 5 (fun s0 s4 wx => s4 = .slice (some ⟨w.heap.size + 1, 0, none⟩) n n ∧ Mem w wx [(w.heap.size, .cells (mgA t k c r (.slice a m cb)) mgT), (w.heap.size + 1, .cells (bs (mg8 t k c r ++ body)) 5)])
  case first =>
    have HRb := HM5.out.drew.row HR.out.1
    have HE : Hid _ := bs_tail (mg8 t k c r) body 8 m rfl HR.out.2.1
    have HF : Hid (8 + body.length ≤ (bs (mg8 t k c r ++ List.replicate m 0)).size) := by
      show _ ≤ _
      rw [bs_size, List.length_append, List.length_replicate, HR.out.2.1]; exact Nat.le_refl _
    by_cases hm0 : m = 0
    · have hn0 : n = 8 := by have := HR.out; omega
      have hbn : body = [] := List.eq_nil_of_length_eq_zero (by rw [HR.out.2.1]; exact hm0)
      go_region_law (refine step_copy_bytes rfl (.tmp 33) (.tmp 35) 22 22 rfl Try.underlying22 (some ⟨w.heap.size + 1, 0, none⟩) a 0 0 0 cb (by simp [Act.eval]) (by simp [Act.eval]) (w.heap.size + 1) 8 _ (bs (mg8 t k c r ++ body)) 5 (HM5.out.drew.get 1 rfl) body (by rw [hbn]; rfl) (fun hp => by rw [hbn] at hp; simp at hp) HF.out HE.out ?_; intro w5 hw5)
      all_goals
        go_wp2_with fail
        go_meet
        case rel => exact ⟨by rw [hn0], HM5.out.drew.wrote 1 rfl hw5⟩
    · have hn0 : (8 : Int) < n := by omega
      have hn1 : ¬ n = 8 := by omega
      have HP : Hid (0 < body.length → some (⟨w.heap.size + 1, 8, none⟩ : Addr) = some ⟨w.heap.size + 1, 8, none⟩ ∧ ∃ ad, a = some ad ∧ ∀ j v, (body.map (Value.int .u8))[j]? = some v → wc.drew.cell? (ad.add j) = some v) := by
        intro hp
        have hc := HRb.cells
        rcases hc with e | ⟨b, off, rfl, hc⟩
        · subst e; simp at hp
        · exact ⟨rfl, _, rfl, HRb.news⟩
      clear HRb
      go_region_law (refine step_copy_bytes rfl (.tmp 33) (.tmp 35) 22 22 rfl Try.underlying22 (some ⟨w.heap.size + 1, 8, none⟩) a m m m cb (by simp [Act.eval]) (by simp [Act.eval]) (w.heap.size + 1) 8 _ (bs (mg8 t k c r ++ body)) 5 (HM5.out.drew.get 1 rfl) body (by rw [HR.out.2.1]; exact (Nat.min_self m).symm) HP.out HF.out HE.out ?_; intro w5 hw5)
      all_goals
        go_wp2_with fail
        go_meet
        case rel => exact ⟨rfl, HM5.out.drew.wrote 1 rfl hw5⟩
  case rest =>
  obtain ⟨rfl, hM6⟩ := hcut
  have HM6 : Hid _ := hM6
  clear hM6 HM5
  go_wp2_with fail
  go_ret2
  exact ⟨rfl, mem_owns HM6.out 1 rfl n (by rw [List.length_append, HR.out.2.1, HR.out.2.2.1]; rfl) (by omega), HM6.out.below⟩

set_option maxHeartbeats 400000 in
theorem mbytes_big (w : World) (a : Option Addr) (m cb : Nat) (h1 : 65507 < m) (t k c r : Int) :
    Calls Try.prog 81 #[.agg (mgA t k c r (.slice a m cb))] w fun e w' => e = .returned (.tuple #[.slice none 0 0, .int .i64 23]) ∧ Below w.heap.size w w' := by
  have h' : (65507 : Int) < m := by omega
  go_enter Try.func81, Try.ntmps81
  go_wp2
  go_ret2
  exact ⟨rfl, (Below.refl _ _).alloc (Nat.le_refl _) _⟩

/-- What icmp.Bytes answers, whatever it is handed. -/
theorem mbytes_any {w : World} {B : Nat} {v : Value} {q : Mg} (hq : q.Ok) (hv : MgV w B v q) :
    Calls Try.prog 81 #[v] w fun r w' => ∃ x, r = .returned (.tuple #[x, .int .i64 (mgbErr q)]) ∧ w'.ownsRow w.heap.size 5 1 x (mgOut q).length ((mgOut q).map (Value.int .u8)) ∧ Below w.heap.size w w' := by
  obtain ⟨bo, cb, rfl, hr, -, -⟩ := hv
  by_cases h : 65507 < q.body.length
  · have e : mgbErr q = 23 := by unfold mgbErr; rw [if_pos h]
    have e2 : mgOut q = [] := by unfold mgOut; rw [e]; rfl
    rw [e, e2]
    refine (mbytes_big w bo _ cb h _ _ _ _).mono ?_
    rintro r w' ⟨rfl, hb⟩
    exact ⟨_, rfl, World.ownsRow_nil _ _ _ _, hb⟩
  · have e : mgbErr q = 0 := by unfold mgbErr; rw [if_neg h]
    have e2 : mgOut q = mgb q := if_pos e
    rw [e, e2, mgb_len]
    refine (mbytes_ok hr _ cb (mlen q) rfl (by omega) rfl q.typ q.code q.sum q.rest hq.typ hq.code hq.sum hq.rest).mono ?_
    rintro r w' ⟨rfl, ho, hb⟩
    exact ⟨_, rfl, ho, hb⟩
end Go.Proofs.Ytjalpbkfpjfigaa

namespace Go.Proofs.Ytjalpbkfpjfigaa
open Go.RowKit
open Sm
set_option linter.unusedVariables false

set_option maxHeartbeats 400000 in
theorem tparse_short (a : Option Addr) (n cap : Nat) (w : World) (h : n < 20) :
    Calls Try.prog 69 #[.slice a n cap] w fun e w' => e = .returned (.tuple #[.agg tc0, .int .i64 20]) ∧ Below w.heap.size w w' := by
  have h' : (n : Int) < 20 := by omega
  go_enter Try.func69, Try.ntmps69
  go_wp2
  refine bodyPost_ret (v := .tuple #[.agg tc0, .int .i64 20]) (by simp [results, Try.results69, go_sem]) rfl ⟨rfl, ?_⟩
  exact (Below.refl _ _).alloc (Nat.le_refl _) _

set_option maxHeartbeats 1000000 in
theorem tparse_no {w : World} {b off n cap : Nat} (x k : Nat) (c12 : w.cell? ⟨b, off + 12, none⟩ = some (.int .u8 x)) (hx : x ≤ 255) (hk : x / 16 = k) (h20 : 20 ≤ n) (hnl : n ≤ 140737488351232) (E : Int) (hE : (k < 5 ∧ E = 21) ∨ (5 ≤ k ∧ n < 4 * k ∧ E = 20)) :
    Calls Try.prog 69 #[.slice (some ⟨b, off, none⟩) n cap] w fun e w' => e = .returned (.tuple #[.agg tc0, .int .i64 E]) ∧ Below w.heap.size w w' := by
  have h20' : (20 : Int) ≤ n := by omega
  have h12 : (12 : Int) < n := by omega
  have hb : b < w.heap.size := cell_lt c12
  have hM := (Mem.nil w).push w.heap.size (.cells tc0 tcT) rfl
  have c12' : (w.alloc (.cells tc0 tcT)).cell? ⟨b, off + 12, none⟩ = some (.int .u8 x) := (hM.old hb).trans c12
  have hdv : (x : Int) / 16 = k := by omega
  have w1 : IntKind.i64.wrap (k : Int) = k := wrap64_small _ (by omega) (by omega)
  have w2 : IntKind.i64.wrap (4 * (k : Int)) = 4 * (k : Int) := wrap64_small _ (by omega) (by omega)
  clear hM c12
  rcases hE with ⟨h1, rfl⟩ | ⟨h1, h2, rfl⟩
  · have h1' : 4 * (k : Int) < 20 := by omega
    go_enter Try.func69, Try.ntmps69
    go_wp2_with fail
    refine bodyPost_ret (v := .tuple #[.agg tc0, .int .i64 21]) (by simp [results, Try.results69, go_sem]) rfl ⟨rfl, ?_⟩
    repeat (refine below_set ?_ (Nat.le_refl _))
    exact (Below.refl _ _).alloc (Nat.le_refl _) _
  · have h1' : (20 : Int) ≤ 4 * (k : Int) := by omega
    have h2' : (n : Int) < 4 * (k : Int) := by omega
    go_enter Try.func69, Try.ntmps69
    go_wp2_with fail
    refine bodyPost_ret (v := .tuple #[.agg tc0, .int .i64 20]) (by simp [results, Try.results69, go_sem]) rfl ⟨rfl, ?_⟩
    repeat (refine below_set ?_ (Nat.le_refl _))
    exact (Below.refl _ _).alloc (Nat.le_refl _) _
end Go.Proofs.Ytjalpbkfpjfigaa

