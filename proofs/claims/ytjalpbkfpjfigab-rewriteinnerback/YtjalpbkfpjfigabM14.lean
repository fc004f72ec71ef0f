/-
  What icmp.Bytes answers: the message's bytes in a row of the call's own, or the error.
  The statements' seat: what lychseat.Addr, inside, outside, proto and port answer.
  What icmp.Echo, icmp.Error answer, and the document's own lychref1.Echo, lychref1.Error.
-/
import Derived.Test.YtjalpbkfpjfigabM09
import Derived.Test.YtjalpbkfpjfigabM10
namespace Go.Proofs.Ytjalpbkfpjfigab
open Go.RowKit
open Sm
set_option linter.unusedVariables false

theorem blz_mg8 (n m : Nat) (h : n = 8 + m) (t k c r : Int) : blz n [(0, t), (1, k), (2, c / 256), (3, c % 256), (4, r / 16777216), (5, r / 65536 % 256), (6, r / 256 % 256), (7, r % 256)] = mg8 t k c r ++ List.replicate m 0 := by
  have e : List.replicate n (0 : Int) = List.replicate 8 0 ++ List.replicate m 0 := by rw [h, List.replicate_append_replicate]
  unfold blz
  rw [e]
  generalize List.replicate m (0 : Int) = R
  simp only [List.foldl_cons, List.foldl_nil, List.replicate, List.cons_append, List.nil_append, List.set_cons_zero, List.set_cons_succ, mg8]

set_option maxRecDepth 20000 in
set_option maxHeartbeats 2000000 in
theorem mbytes_ok {w : World} {a : Option Addr} {body : List Int} (hr : Row w a body) (m cb n : Nat) (hm : body.length = m) (h1 : m ≤ 65507) (hn : n = 8 + m) (t k c r : Int) (ht : 0 ≤ t ∧ t ≤ 255) (hk : 0 ≤ k ∧ k ≤ 255) (hc : 0 ≤ c ∧ c ≤ 65535) (hrr : 0 ≤ r ∧ r ≤ 4294967295) :
    Calls Try.prog 66 #[.agg (mgA t k c r (.slice a m cb))] w fun e w' => e = .returned (.tuple #[.slice (some ⟨w.heap.size + 1, 0, none⟩) n n, .int .i64 0]) ∧
      w'.ownsRow w.heap.size 5 1 (.slice (some ⟨w.heap.size + 1, 0, none⟩) n n) n ((mg8 t k c r ++ body).map (Value.int .u8)) ∧ Below w.heap.size w w' := by
  have HR : Hid (Row w a body ∧ body.length = m ∧ n = 8 + m ∧ m ≤ 65507 ∧ (0 ≤ t ∧ t ≤ 255) ∧ (0 ≤ k ∧ k ≤ 255) ∧ (0 ≤ c ∧ c ≤ 65535) ∧ 0 ≤ r ∧ r ≤ 4294967295) := ⟨hr, hm, hn, h1, ht, hk, hc, hrr⟩
  have hmi : (m : Int) ≤ 65507 := by omega
  have hni : 8 + (m : Int) = n := by omega
  have hnb : (n : Int) ≤ 65515 := by omega
  have hn0 : (0 : Int) < n := by omega
  have hn0' : 0 < n := by omega
  have hn1 : (1 : Int) < n := by omega
  have hn4 : (4 : Int) ≤ n := by omega
  have hn8 : (8 : Int) ≤ n := by omega
  have hn44 : (4 : Int) ≤ ((n - 4 : Nat) : Int) := by omega
  have n2 : ¬ n = 2 := by omega
  have n4 : ¬ n = 4 := by omega
  have hnm : n - 8 = m := by omega
  have hmk := make_bytes n (by omega)
  clear hr hm ht hk hc hrr hn h1
  go_enter Try.func66, Try.ntmps66
  go_upto_region 4 with fail
  refine wp_letter (fun W => Mem w W [(w.heap.size, .cells (mgA t k c r (.slice a m cb)) mgT), (w.heap.size + 1, .cells (bs (blz n [])) 5)]) (by rw [show bs (blz n []) = madeCells #[Value.int .u8 0] n from (bs_made n).symm]; exact ((Mem.nil w).push w.heap.size _ rfl).push (w.heap.size + 1) _ (by simp)) ?_
  intro w1 hM1
  have HM1 : Hid _ := hM1
  have k0 : w1.cell? ⟨w.heap.size, 0, none⟩ = some (.int .u8 t) := hM1.cell 0 rfl 0
  obtain ⟨z0, y0⟩ := hM1.spot 1 rfl 0 (by omega)
  have kf : ∀ i, w1.frozen? ⟨w.heap.size + 1, i, none⟩ = false := hM1.free 1 rfl
  clear hM1
  go_upto_region 5 with fail
  refine wp_letter (fun W => Mem w W [(w.heap.size, .cells (mgA t k c r (.slice a m cb)) mgT), (w.heap.size + 1, .cells (bs (blz n [(0, t)])) 5)]) (HM1.out.put 1 rfl 0 t) ?_
  intro w2 hM2
  have HM2 : Hid _ := hM2
  clear HM1 k0 y0 kf
  have k1 : w2.cell? ⟨w.heap.size, 1, none⟩ = some (.int .u8 k) := hM2.cell 0 rfl 1
  obtain ⟨z1, y1⟩ := hM2.spot 1 rfl 1 (by omega)
  have kf : ∀ i, w2.frozen? ⟨w.heap.size + 1, i, none⟩ = false := hM2.free 1 rfl
  clear hM2
  go_upto_region 6 with fail
  refine wp_letter (fun W => Mem w W [(w.heap.size, .cells (mgA t k c r (.slice a m cb)) mgT), (w.heap.size + 1, .cells (bs (blz n [(0, t), (1, k)])) 5)]) (HM2.out.put 1 rfl 1 k) ?_
  intro w3 hM3
  have HM3 : Hid _ := hM3
  clear HM2 k1 y1 kf
  have k2 : w3.cell? ⟨w.heap.size, 2, none⟩ = some (.int .u16 c) := hM3.cell 0 rfl 2
  have p1 := mput_at hM3.drew 1 rfl 2 (by have := HR.out; omega) (n - 2) c HR.out.2.2.2.2.2.2.1.1 HR.out.2.2.2.2.2.2.1.2
  clear hM3
  go_cut [] from 5 (fun wx => Mem w wx [(w.heap.size, .cells (mgA t k c r (.slice a m cb)) mgT), (w.heap.size + 1, .cells (bs (blz n [(0, t), (1, k), (2, c / 256), (3, c % 256)])) 5)])
  case first =>
    go_region_held3 (fun w' => w'.cell? ⟨w.heap.size, 2, none⟩ = some (.int .u16 c)) (first | go_keep | exact hM5.cell 0 rfl 2)
      (first | (go_at_call 92; refine p1.mono ?_; rintro e w5 ⟨rfl, hM5⟩))
    all_goals
      go_wp2_with fail
      go_meet
      case rel => exact hM5
  case rest =>
  have HM4 : Hid _ := hcut
  have k3 : wc.cell? ⟨w.heap.size, 3, none⟩ = some (.int .u32 r) := hcut.cell 0 rfl 3
  have p2 := mputLong_at hcut.drew 1 rfl 4 (by have := HR.out; omega) (n - 4) hn44 r HR.out.2.2.2.2.2.2.2.1 HR.out.2.2.2.2.2.2.2.2
  clear hcut HM3 k2 p1
  go_upto_region 7 with fail
  go_cut [] from 5 (fun wx => Mem w wx [(w.heap.size, .cells (mgA t k c r (.slice a m cb)) mgT), (w.heap.size + 1, .cells (bs (mg8 t k c r ++ List.replicate m 0)) 5)])
  case first =>
    go_region_held3 (fun w' => w'.cell? ⟨w.heap.size, 3, none⟩ = some (.int .u32 r)) (first | go_keep | exact hM5.cell 0 rfl 3)
      (first | (go_at_call 93; refine p2.mono ?_; rintro e w5 ⟨rfl, hM5⟩))
    all_goals
      go_wp2_with fail
      go_meet
      case rel => rw [← blz_mg8 n m HR.out.2.2.1]; exact hM5
  case rest =>
  have HM5 : Hid _ := hcut
  have k4 : wc.cell? ⟨w.heap.size, 4, none⟩ = some (.slice a m cb) := hcut.cell 0 rfl 4
  clear hcut HM4 k3 p2
  go_upto_region 8 with fail
  go_cut [0, 4] from 5 (fun s0 s4 wx => s4 = .slice (some ⟨w.heap.size + 1, 0, none⟩) n n ∧ Mem w wx [(w.heap.size, .cells (mgA t k c r (.slice a m cb)) mgT), (w.heap.size + 1, .cells (bs (mg8 t k c r ++ body)) 5)])
  case first =>
    have HRb := HM5.out.drew.row HR.out.1
    have HE : Hid _ := bs_tail (mg8 t k c r) body 8 m rfl HR.out.2.1
    have HF : Hid (8 + body.length ≤ (bs (mg8 t k c r ++ List.replicate m 0)).size) := by
      show _ ≤ _
      rw [bs_size, List.length_append, List.length_replicate, HR.out.2.1]; exact Nat.le_refl _
    by_cases hm0 : m = 0
    · have hn0 : n = 8 := by have := HR.out; omega
      have hbn : body = [] := List.eq_nil_of_length_eq_zero (by rw [HR.out.2.1]; exact hm0)
      go_region_law (refine step_copy_bytes rfl (.tmp 33) (.tmp 35) 29 29 rfl Try.underlying29 (some ⟨w.heap.size + 1, 0, none⟩) a 0 0 0 cb (by simp [Act.eval]) (by simp [Act.eval]) (w.heap.size + 1) 8 _ (bs (mg8 t k c r ++ body)) 5 (HM5.out.drew.get 1 rfl) body (by rw [hbn]; rfl) (fun hp => by rw [hbn] at hp; simp at hp) HF.out HE.out ?_; intro w5 hw5)
      all_goals
        go_wp2_with fail
        go_meet
        case rel => exact ⟨by rw [hn0], HM5.out.drew.wrote 1 rfl hw5⟩
    · have hn0 : (8 : Int) < n := by omega
      have hn1 : ¬ n = 8 := by omega
      have HP : Hid (0 < body.length → some (⟨w.heap.size + 1, 8, none⟩ : Addr) = some ⟨w.heap.size + 1, 8, none⟩ ∧ ∃ ad, a = some ad ∧ ∀ j v, (body.map (Value.int .u8))[j]? = some v → wc.drew.cell? (ad.add j) = some v) := by
        intro hp
        have hc := HRb.cells
        rcases hc with e | ⟨b, off, rfl, hc⟩
        · subst e; simp at hp
        · exact ⟨rfl, _, rfl, HRb.news⟩
      clear HRb
      go_region_law (refine step_copy_bytes rfl (.tmp 33) (.tmp 35) 29 29 rfl Try.underlying29 (some ⟨w.heap.size + 1, 8, none⟩) a m m m cb (by simp [Act.eval]) (by simp [Act.eval]) (w.heap.size + 1) 8 _ (bs (mg8 t k c r ++ body)) 5 (HM5.out.drew.get 1 rfl) body (by rw [HR.out.2.1]; exact (Nat.min_self m).symm) HP.out HF.out HE.out ?_; intro w5 hw5)
      all_goals
        go_wp2_with fail
        go_meet
        case rel => exact ⟨rfl, HM5.out.drew.wrote 1 rfl hw5⟩
  case rest =>
  obtain ⟨rfl, hM6⟩ := hcut
  have HM6 : Hid _ := hM6
  clear hM6 HM5
  go_wp2_with fail
  go_ret2
  exact ⟨rfl, mem_owns HM6.out 1 rfl n (by rw [List.length_append, HR.out.2.1, HR.out.2.2.1]; rfl) (by omega), HM6.out.below⟩

set_option maxHeartbeats 400000 in
theorem mbytes_big (w : World) (a : Option Addr) (m cb : Nat) (h1 : 65507 < m) (t k c r : Int) :
    Calls Try.prog 66 #[.agg (mgA t k c r (.slice a m cb))] w fun e w' => e = .returned (.tuple #[.slice none 0 0, .int .i64 23]) ∧ Below w.heap.size w w' := by
  have h' : (65507 : Int) < m := by omega
  go_enter Try.func66, Try.ntmps66
  go_wp2
  go_ret2
  exact ⟨rfl, (Below.refl _ _).alloc (Nat.le_refl _) _⟩

/-- What icmp.Bytes answers, whatever it is handed. -/
theorem mbytes_any {w : World} {B : Nat} {v : Value} {q : Mg} (hq : q.Ok) (hv : MgV w B v q) :
    Calls Try.prog 66 #[v] w fun r w' => ∃ x, r = .returned (.tuple #[x, .int .i64 (mgbErr q)]) ∧ w'.ownsRow w.heap.size 5 1 x (mgOut q).length ((mgOut q).map (Value.int .u8)) ∧ Below w.heap.size w w' := by
  obtain ⟨bo, cb, rfl, hr, -, -⟩ := hv
  by_cases h : 65507 < q.body.length
  · have e : mgbErr q = 23 := by unfold mgbErr; rw [if_pos h]
    have e2 : mgOut q = [] := by unfold mgOut; rw [e]; rfl
    rw [e, e2]
    refine (mbytes_big w bo _ cb h _ _ _ _).mono ?_
    rintro r w' ⟨rfl, hb⟩
    exact ⟨_, rfl, World.ownsRow_nil _ _ _ _, hb⟩
  · have e : mgbErr q = 0 := by unfold mgbErr; rw [if_neg h]
    have e2 : mgOut q = mgb q := if_pos e
    rw [e, e2, mgb_len]
    refine (mbytes_ok hr _ cb (mlen q) rfl (by omega) rfl q.typ q.code q.sum q.rest hq.typ hq.code hq.sum hq.rest).mono ?_
    rintro r w' ⟨rfl, ho, hb⟩
    exact ⟨_, rfl, ho, hb⟩
end Go.Proofs.Ytjalpbkfpjfigab

namespace Go.Proofs.Ytjalpbkfpjfigab
open Go.RowKit
open Sm
set_option linter.unusedVariables false
set_option maxRecDepth 20000

namespace Sm
def addr (a b c d : Int) : Int := a * 16777216 + b * 65536 + c * 256 + d
def insd (k : Int) : Int := if k % 6 = 5 then addr 10 0 0 9 else addr 10 0 0 (1 + k % 3)
def xor1 (n : Int) : Int := bits .xor .u8 n 1
def outsd (k n : Int) : Int :=
  if k % 9 = 0 ∨ k % 9 = 1 then addr 8 8 8 8 else if k % 9 = 2 then addr 8 8 4 4 else if k % 9 = 3 then addr 192 168 0 5 else if k % 9 = 4 then addr 192 168 0 6
  else if k % 9 = 5 ∨ k % 9 = 6 then addr 5 5 n 1 else if k % 9 = 7 then addr 5 6 n 9 else addr 5 5 (xor1 n) 1
def prt (k : Int) : Int := if k % 4 = 1 then 6 else if k % 4 = 2 then 1 else 17
def ports (k : Int) : Int := if k % 5 = 0 then 1000 + k / 16 else if k % 5 = 1 then 53 else 1020 + k / 8
theorem xor1_all : ∀ n : Fin 256, 0 ≤ bits .xor .u8 (n.val : Int) 1 ∧ bits .xor .u8 (n.val : Int) 1 ≤ 255 := by decide +kernel
theorem xor1_range {n : Int} (h0 : 0 ≤ n) (h1 : n ≤ 255) : 0 ≤ xor1 n ∧ xor1 n ≤ 255 := by
  have := xor1_all ⟨n.toNat, by omega⟩
  simp only at this
  rw [show ((n.toNat : Nat) : Int) = n by omega] at this
  exact this
theorem addr_range {a b c d : Int} (ha : 0 ≤ a ∧ a ≤ 255) (hb : 0 ≤ b ∧ b ≤ 255) (hc : 0 ≤ c ∧ c ≤ 255) (hd : 0 ≤ d ∧ d ≤ 255) : 0 ≤ addr a b c d ∧ addr a b c d ≤ 4294967295 := by unfold addr; omega
theorem insd_range {k : Int} (h0 : 0 ≤ k) : 0 ≤ insd k ∧ insd k ≤ 4294967295 := by
  unfold insd
  split
  · exact ⟨by decide, by decide⟩
  · exact addr_range (by omega) (by omega) (by omega) (by omega)
theorem outsd_range {k n : Int} (h0 : 0 ≤ n) (h1 : n ≤ 255) : 0 ≤ outsd k n ∧ outsd k n ≤ 4294967295 := by
  have := xor1_range h0 h1
  unfold outsd
  repeat' split
  all_goals exact addr_range (by omega) (by omega) (by omega) (by omega)
theorem ports_range {k : Int} (h0 : 0 ≤ k) (h1 : k ≤ 255) : 0 ≤ ports k ∧ ports k ≤ 65535 := by
  unfold ports
  repeat' split
  all_goals omega
theorem prt_kind (k : Int) : prt k = 17 ∨ prt k = 6 ∨ prt k = 1 := by
  unfold prt
  split
  · exact Or.inr (Or.inl rfl)
  · split
    · exact Or.inr (Or.inr rfl)
    · exact Or.inl rfl
end Sm

set_option maxHeartbeats 1000000 in
theorem addr_any (w : World) (a b c d : Int) (ha : 0 ≤ a ∧ a ≤ 255) (hb : 0 ≤ b ∧ b ≤ 255) (hc : 0 ≤ c ∧ c ≤ 255) (hd : 0 ≤ d ∧ d ≤ 255) :
    Calls Try.prog 30 #[.int .u8 a, .int .u8 b, .int .u8 c, .int .u8 d] w fun e w' => e = .returned (.int .u32 (addr a b c d)) ∧ w = w' := by
  have o1 : bits .or .u32 (a * 16777216) (b * 65536) = a * 16777216 + b * 65536 :=
    bits_join .u32 32 (by decide) wraps_u32 24 (a * 16777216) (b * 65536) (by omega) (by omega) (by omega) (by omega) (by omega) (by omega)
  have o2 : bits .or .u32 (a * 16777216 + b * 65536) (c * 256) = a * 16777216 + b * 65536 + c * 256 :=
    bits_join .u32 32 (by decide) wraps_u32 16 (a * 16777216 + b * 65536) (c * 256) (by omega) (by omega) (by omega) (by omega) (by omega) (by omega)
  have o3 : bits .or .u32 (a * 16777216 + b * 65536 + c * 256) d = a * 16777216 + b * 65536 + c * 256 + d :=
    bits_join .u32 32 (by decide) wraps_u32 8 (a * 16777216 + b * 65536 + c * 256) d (by omega) (by omega) (by omega) (by omega) (by omega) (by omega)
  have v1 := wrap32_small a ha.1 (by omega)
  have v2 := wrap32_small b hb.1 (by omega)
  have v3 := wrap32_small c hc.1 (by omega)
  have v4 := wrap32_small d hd.1 (by omega)
  have u1 := wrap32_small (a * 16777216) (by omega) (by omega)
  have u2 := wrap32_small (b * 65536) (by omega) (by omega)
  have u3 := wrap32_small (c * 256) (by omega) (by omega)
  clear ha hb hc hd
  go_enter Try.func30, Try.ntmps30
  go_wp2
  go_ret
  exact ⟨rfl, rfl⟩

set_option maxHeartbeats 1000000 in
theorem inside_any (w : World) (k : Int) (h0 : 0 ≤ k) (h1 : k ≤ 255) :
    Calls Try.prog 13 #[.int .u8 k] w fun e w' => e = .returned (.int .u32 (insd k)) ∧ w = w' := by
  by_cases h5 : k % 6 = 5
  · have HI : Hid (insd k = addr 10 0 0 9) := by show _ = _; unfold insd; rw [if_pos h5]
    have hA := addr_any w 10 0 0 9 (by decide) (by decide) (by decide) (by decide)
    generalize insd k = R at *
    generalize addr 10 0 0 9 = A at *
    go_enter Try.func13, Try.ntmps13
    go_wp2_with fail
    refine hA.mono ?_
    rintro e w' ⟨rfl, rfl⟩
    go_wp2_with fail
    go_ret
    exact ⟨by rw [HI.out] <;> rfl, rfl⟩
  · have HI : Hid (insd k = addr 10 0 0 (1 + k % 3)) := by show _ = _; unfold insd; rw [if_neg h5]
    have hA := addr_any w 10 0 0 (1 + k % 3) (by decide) (by decide) (by decide) (by omega)
    have hw : IntKind.u8.wrap (1 + k % 3) = 1 + k % 3 := wrap8_small _ (by omega) (by omega)
    generalize insd k = R at *
    generalize addr 10 0 0 (1 + k % 3) = A at *
    go_enter Try.func13, Try.ntmps13
    go_wp2_with fail
    refine hA.mono ?_
    rintro e w' ⟨rfl, rfl⟩
    go_wp2_with fail
    go_ret
    exact ⟨by rw [HI.out] <;> rfl, rfl⟩

set_option maxHeartbeats 2000000 in
theorem outside_any (w : World) (k n : Int) (h0 : 0 ≤ k) (h1 : k ≤ 255) (n0 : 0 ≤ n) (n1 : n ≤ 255) :
    Calls Try.prog 14 #[.int .u8 k, .int .u8 n] w fun e w' => e = .returned (.int .u32 (outsd k n)) ∧ w = w' := by
  have hx := xor1_range n0 n1
  have HD : Hid (outsd k n = if k % 9 = 0 ∨ k % 9 = 1 then addr 8 8 8 8 else if k % 9 = 2 then addr 8 8 4 4 else if k % 9 = 3 then addr 192 168 0 5 else if k % 9 = 4 then addr 192 168 0 6
    else if k % 9 = 5 ∨ k % 9 = 6 then addr 5 5 n 1 else if k % 9 = 7 then addr 5 6 n 9 else addr 5 5 (xor1 n) 1) := rfl
  have A0 := addr_any w 8 8 8 8 (by decide) (by decide) (by decide) (by decide)
  have A2 := addr_any w 8 8 4 4 (by decide) (by decide) (by decide) (by decide)
  have A3 := addr_any w 192 168 0 5 (by decide) (by decide) (by decide) (by decide)
  have A4 := addr_any w 192 168 0 6 (by decide) (by decide) (by decide) (by decide)
  have A5 := addr_any w 5 5 n 1 (by decide) (by decide) ⟨n0, n1⟩ (by decide)
  have A7 := addr_any w 5 6 n 9 (by decide) (by decide) ⟨n0, n1⟩ (by decide)
  have A8 := addr_any w 5 5 (xor1 n) 1 (by decide) (by decide) hx (by decide)
  have hxe : bits .xor .u8 n 1 = xor1 n := rfl
  generalize xor1 n = X at *
  generalize outsd k n = R at *
  generalize addr 8 8 8 8 = a0 at *
  generalize addr 8 8 4 4 = a2 at *
  generalize addr 192 168 0 5 = a3 at *
  generalize addr 192 168 0 6 = a4 at *
  generalize addr 5 5 n 1 = a5 at *
  generalize addr 5 6 n 9 = a7 at *
  generalize addr 5 5 X 1 = a8 at *
  have hk : k % 9 = 0 ∨ k % 9 = 1 ∨ k % 9 = 2 ∨ k % 9 = 3 ∨ k % 9 = 4 ∨ k % 9 = 5 ∨ k % 9 = 6 ∨ k % 9 = 7 ∨ k % 9 = 8 := by omega
  rcases hk with e | e | e | e | e | e | e | e | e <;> rw [e] at HD <;> simp at HD
  all_goals
    go_enter Try.func14, Try.ntmps14
    go_wp2_with fail
    first
      | with_reducible refine A0.mono ?_
      | with_reducible refine A2.mono ?_
      | with_reducible refine A3.mono ?_
      | with_reducible refine A4.mono ?_
      | with_reducible refine A5.mono ?_
      | with_reducible refine A7.mono ?_
      | with_reducible refine A8.mono ?_
    rintro e w' ⟨rfl, rfl⟩
    go_wp2_with fail
    go_ret
    exact ⟨by rw [HD.out] <;> rfl, rfl⟩

set_option maxHeartbeats 1000000 in
theorem port_any (w : World) (k : Int) (h0 : 0 ≤ k) (h1 : k ≤ 255) :
    Calls Try.prog 16 #[.int .u8 k] w fun e w' => e = .returned (.int .u16 (ports k)) ∧ w = w' := by
  have HD : Hid (ports k = if k % 5 = 0 then 1000 + k / 16 else if k % 5 = 1 then 53 else 1020 + k / 8) := rfl
  have v1 := wrap16_small (k / 16) (by omega) (by omega)
  have v2 := wrap16_small (k / 8) (by omega) (by omega)
  have v3 := wrap16_small (1000 + k / 16) (by omega) (by omega)
  have v4 := wrap16_small (1020 + k / 8) (by omega) (by omega)
  generalize ports k = R at *
  by_cases e0 : k % 5 = 0
  · rw [if_pos e0] at HD
    go_enter Try.func16, Try.ntmps16
    go_wp2
    go_ret
    exact ⟨by rw [HD.out] <;> rfl, rfl⟩
  · rw [if_neg e0] at HD
    by_cases e1 : k % 5 = 1
    · rw [if_pos e1] at HD
      go_enter Try.func16, Try.ntmps16
      go_wp2
      go_ret
      exact ⟨by rw [HD.out] <;> rfl, rfl⟩
    · rw [if_neg e1] at HD
      go_enter Try.func16, Try.ntmps16
      go_wp2
      go_ret
      exact ⟨by rw [HD.out] <;> rfl, rfl⟩

set_option maxHeartbeats 1000000 in
theorem proto_any (w : World) (k : Int) (h0 : 0 ≤ k) (h1 : k ≤ 255) :
    Calls Try.prog 15 #[.int .u8 k] w fun e w' => e = .returned (.int .u8 (prt k)) ∧ Below w.heap.size w w' := by
  have HD : Hid (prt k = if k % 4 = 1 then 6 else if k % 4 = 2 then 1 else 17) := rfl
  have HB : Hid (∀ o, Below w.heap.size w (w.alloc o)) := fun o => (Below.refl _ _).alloc (Nat.le_refl _) o
  generalize prt k = R at *
  have hk : k % 4 = 0 ∨ k % 4 = 1 ∨ k % 4 = 2 ∨ k % 4 = 3 := by omega
  rcases hk with e | e | e | e <;> rw [e] at HD <;> simp at HD
  all_goals
    go_enter Try.func15, Try.ntmps15
    go_wp2
    go_ret
    exact ⟨by rw [HD.out] <;> rfl, HB.out _⟩
end Go.Proofs.Ytjalpbkfpjfigab

namespace Go.Proofs.Ytjalpbkfpjfigab
open Go.RowKit
open Sm
set_option linter.unusedVariables false

set_option maxHeartbeats 1000000 in
/-- What icmp.Echo answers, whatever it is handed. -/
theorem mecho_any {w : World} {B : Nat} {v : Value} {q : Mg} (hv : MgV w B v q) :
    Calls Try.prog 88 #[v] w fun e w' => e = .returned (.bool (mecho q)) ∧ Below w.heap.size w w' := by
  obtain ⟨bo, cb, rfl, -⟩ := hv
  obtain ⟨t, k, c, r, body⟩ := q
  have HB : Hid (∀ o, Below w.heap.size w (w.alloc o)) := fun o => (Below.refl _ _).alloc (Nat.le_refl _) _
  simp only [mecho]
  generalize body.length = nb
  by_cases h0 : t = 0
  · subst h0
    go_enter Try.func88, Try.ntmps88
    go_wp2
    go_ret
    exact ⟨by simp <;> rfl, HB.out _⟩
  have n0 : (t == 0) = false := by simp [h0]
  by_cases h8 : t = 8
  · subst h8
    go_enter Try.func88, Try.ntmps88
    go_wp2
    go_ret
    exact ⟨by simp <;> rfl, HB.out _⟩
  have n8 : (t == 8) = false := by simp [h8]
  go_enter Try.func88, Try.ntmps88
  go_wp2
  go_ret
  exact ⟨by simp [h0, h8], HB.out _⟩

set_option maxHeartbeats 1000000 in
/-- What icmp.Error answers, whatever it is handed. -/
theorem merror_any {w : World} {B : Nat} {v : Value} {q : Mg} (hv : MgV w B v q) :
    Calls Try.prog 89 #[v] w fun e w' => e = .returned (.bool (merror q)) ∧ Below w.heap.size w w' := by
  obtain ⟨bo, cb, rfl, -⟩ := hv
  obtain ⟨t, k, c, r, body⟩ := q
  have HB : Hid (∀ o, Below w.heap.size w (w.alloc o)) := fun o => (Below.refl _ _).alloc (Nat.le_refl _) _
  simp only [merror]
  generalize body.length = nb
  by_cases h3 : t = 3
  · subst h3
    go_enter Try.func89, Try.ntmps89
    go_wp2
    go_ret
    exact ⟨rfl, HB.out _⟩
  have n3 : (t == 3) = false := by simp [h3]
  by_cases h11 : t = 11
  · subst h11
    go_enter Try.func89, Try.ntmps89
    go_wp2
    go_ret
    exact ⟨rfl, HB.out _⟩
  have n11 : (t == 11) = false := by simp [h11]
  by_cases h12 : t = 12
  · subst h12
    go_enter Try.func89, Try.ntmps89
    go_wp2
    go_ret
    exact ⟨rfl, HB.out _⟩
  have n12 : (t == 12) = false := by simp [h12]
  go_enter Try.func89, Try.ntmps89
  go_wp2
  go_ret
  exact ⟨by simp [h3, h11, h12], HB.out _⟩

end Go.Proofs.Ytjalpbkfpjfigab

