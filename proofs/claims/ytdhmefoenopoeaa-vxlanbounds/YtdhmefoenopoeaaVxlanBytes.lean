/-
  What vxlan.Bytes answers: the tunnel's bytes in a row of the call's own, or the error.
-/
import Derived.Test.YtdhmefoenopoeaaVxlanMath
namespace Go.Proofs.Ytdhmefoenopoeaa
open Go.RowKit
open Sm
set_option linter.unusedVariables false

theorem blz_vx8 (n m : Nat) (h : n = 8 + m) (v : Int) : blz n [(0, 8), (4, v / 65536), (5, v / 256 % 256), (6, v % 256)] = vx8 v ++ List.replicate m 0 := by
  have e : List.replicate n (0 : Int) = List.replicate 8 0 ++ List.replicate m 0 := by rw [h, List.replicate_append_replicate]
  unfold blz
  rw [e]
  generalize List.replicate m (0 : Int) = R
  simp only [List.foldl_cons, List.foldl_nil, List.replicate, List.cons_append, List.nil_append, List.set_cons_zero, List.set_cons_succ, vx8]

set_option maxHeartbeats 1000000 in
theorem vput_ok {W : World} {g j : Nat} (z0 z1 z2 : Int) (k0 : W.cell? ⟨g, j, none⟩ = some (.int .u8 z0)) (k1 : W.cell? ⟨g, j + 1, none⟩ = some (.int .u8 z1)) (k2 : W.cell? ⟨g, j + 2, none⟩ = some (.int .u8 z2)) (kf : ∀ i, W.frozen? ⟨g, i, none⟩ = false) (c : Nat) (x : Int) (r0 : 0 ≤ x) (r1 : x ≤ 16777215) :
    Calls Try.prog 16 #[.slice (some ⟨g, j, none⟩) 3 c, .int .u32 x] W fun e w' => e = .returned (.tuple #[]) ∧ w' = ((W.setCell ⟨g, j, none⟩ (.int .u8 (x / 65536))).setCell ⟨g, j + 1, none⟩ (.int .u8 (x / 256 % 256))).setCell ⟨g, j + 2, none⟩ (.int .u8 (x % 256)) := by
  have u1 : IntKind.u8.wrap (x / 65536) = x / 65536 := wrap8_small _ (by omega) (by omega)
  have u2 : IntKind.u8.wrap (x / 256) = x / 256 % 256 := by simp [IntKind.wrap, IntKind.bits, IntKind.signed]
  have u3 : IntKind.u8.wrap x = x % 256 := by simp [IntKind.wrap, IntKind.bits, IntKind.signed]
  go_enter Try.func16, Try.ntmps16
  go_wp2
  go_end0
  exact ⟨rfl, rfl⟩

theorem vput_at {w W : World} {L : List (Nat × Obj)} (hM : Mem w W L) (i : Nat) {g N : Nat} {xs : List (Nat × Int)} (hi : L[i]? = some (g, .cells (bs (blz N xs)) 5 (0, 0))) (j : Nat) (hj : j + 2 < N) (c : Nat) (x : Int) (r0 : 0 ≤ x) (r1 : x ≤ 16777215) :
    Calls Try.prog 16 #[.slice (some ⟨g, j, none⟩) 3 c, .int .u32 x] W fun e w' => e = .returned (.tuple #[]) ∧ Mem w w' (L.set i (g, .cells (bs (blz N (xs ++ [(j, x / 65536), (j + 1, x / 256 % 256), (j + 2, x % 256)]))) 5 (0, 0))) := by
  obtain ⟨z0, k0⟩ := hM.spot i hi j (by omega)
  obtain ⟨z1, k1⟩ := hM.spot i hi (j + 1) (by omega)
  obtain ⟨z2, k2⟩ := hM.spot i hi (j + 2) (by omega)
  refine (vput_ok z0 z1 z2 k0 k1 k2 (hM.free i hi) c x r0 r1).mono ?_
  rintro e w' ⟨rfl, rfl⟩
  refine ⟨rfl, ?_⟩
  have hil := (List.getElem?_eq_some_iff.mp hi).1
  have h2 := (hM.put2 i hi j (x / 65536) (x / 256 % 256) rfl).put i (by rw [List.getElem?_set_self hil]) (j + 2) (x % 256)
  rw [List.set_set, List.append_assoc] at h2
  exact h2

set_option maxRecDepth 20000 in
set_option maxHeartbeats 2000000 in
theorem vbytes_ok {w : World} {a : Option Addr} {body : List Int} (hr : Row w a body) (m cb n : Nat) (hm : body.length = m) (h1 : m ≤ 1592) (hn : n = 8 + m) (v : Int) (hv0 : 0 ≤ v) (hv1 : v ≤ 16777215) :
    Calls Try.prog 11 #[.int .u32 v, .slice a m cb] w fun e w' => e = .returned (.tuple #[.slice (some ⟨w.heap.size, 0, none⟩) n n, .int .i64 0]) ∧
      w'.ownsRow w.heap.size 5 1 (.slice (some ⟨w.heap.size, 0, none⟩) n n) n ((vx8 v ++ body).map (Value.int .u8)) ∧ Below w.heap.size w w' := by
  have HR : Hid (Row w a body ∧ body.length = m ∧ n = 8 + m ∧ m ≤ 1592 ∧ 0 ≤ v ∧ v ≤ 16777215) := ⟨hr, hm, hn, h1, hv0, hv1⟩
  have hmi : (m : Int) ≤ 1592 := by omega
  have hni : 8 + (m : Int) = n := by omega
  have hnb : (n : Int) ≤ 1600 := by omega
  have hn0 : (0 : Int) < n := by omega
  have hn0' : 0 < n := by omega
  have hn7 : (7 : Int) ≤ n := by omega
  have hn8 : (8 : Int) ≤ n := by omega
  have hnm : n - 8 = m := by omega
  have hmk := make_bytes n (by omega)
  clear hr hm hn h1 hv0
  go_enter Try.func11, Try.ntmps11
  go_upto_region 6 with fail
  refine wp_letter (fun W => Mem w W [(w.heap.size, .cells (bs (blz n [])) 5)]) (by rw [show bs (blz n []) = madeCells #[Value.int .u8 0] n from (bs_made n).symm]; exact (Mem.nil w).push w.heap.size _ rfl) ?_
  intro w1 hM1
  have HM1 : Hid _ := hM1
  obtain ⟨z0, y0⟩ := hM1.spot 0 rfl 0 hn0'
  have kf : ∀ i, w1.frozen? ⟨w.heap.size, i, none⟩ = false := hM1.free 0 rfl
  clear hM1
  go_upto_region 7 with fail
  refine wp_letter (fun W => Mem w W [(w.heap.size, .cells (bs (blz n [(0, 8)])) 5)]) (HM1.out.put 0 rfl 0 8) ?_
  intro w2 hM2
  clear HM1 y0 kf
  have p1 := vput_at hM2 0 rfl 4 (by have := HR.out; omega) 3 v HR.out.2.2.2.2.1 HR.out.2.2.2.2.2
  clear hM2
  go_wp2_with fail
  refine p1.mono ?_
  rintro e w3 ⟨rfl, hM3⟩
  clear p1
  go_upto_region 8 with fail
  refine wp_letter (fun W => Mem w W [(w.heap.size, .cells (bs (vx8 v ++ List.replicate m 0)) 5)]) (by rw [← blz_vx8 n m HR.out.2.2.1]; exact hM3) ?_
  intro w4 hM4
  clear hM3
  have hF : 8 + body.length ≤ (bs (vx8 v ++ List.replicate m 0)).size := by
    rw [bs_size, List.length_append, List.length_replicate, HR.out.2.1]; exact Nat.le_refl _
  have hE := bs_tail (vx8 v) body 8 m rfl HR.out.2.1
  have hRb := hM4.row HR.out.1
  by_cases hm0 : m = 0
  · subst hm0
    obtain rfl : n = 8 := HR.out.2.2.1
    have hbn : body = [] := List.eq_nil_of_length_eq_zero HR.out.2.1
    obtain ⟨w5, hr5, hw5⟩ := copy_bytes w4 3 (some ⟨w.heap.size, 0, none⟩) a 0 0 0 cb w.heap.size 8 _ (bs (vx8 v ++ body)) 5 (hM4.get 0 rfl) body (by rw [hbn]; rfl) (fun hp => by rw [hbn] at hp; simp at hp) hF hE
    have HM5 : Hid _ := hM4.wrote 0 rfl hw5
    rw [HR.out.2.1] at hr5
    clear hM4 hw5 hbn hF hE hRb
    go_wp2_with fail
    go_ret2
    exact ⟨rfl, mem_owns HM5.out 0 rfl 8 (by rw [List.length_append, HR.out.2.1]; rfl) (by omega), HM5.out.below⟩
  · have hn1 : ¬ n = 8 := by omega
    have h8l : (8 : Int) < n := by omega
    obtain ⟨w5, hr5, hw5⟩ := copy_bytes w4 3 (some ⟨w.heap.size, 8, none⟩) a m m m cb w.heap.size 8 _ (bs (vx8 v ++ body)) 5 (hM4.get 0 rfl) body (by rw [HR.out.2.1]; exact (Nat.min_self m).symm)
      (by
        intro hp
        rcases hRb.cells with e | ⟨b, off, rfl, hc⟩
        · subst e; simp at hp
        · exact ⟨rfl, _, rfl, hRb.news⟩) hF hE
    have HM5 : Hid _ := hM4.wrote 0 rfl hw5
    rw [HR.out.2.1] at hr5
    clear hM4 hw5 hF hE hRb
    go_wp2_with fail
    go_ret2
    exact ⟨rfl, mem_owns HM5.out 0 rfl n (by rw [List.length_append, HR.out.2.1, HR.out.2.2.1]; rfl) (by omega), HM5.out.below⟩

set_option maxHeartbeats 400000 in
theorem vbytes_form (w : World) (a : Option Addr) (m cb : Nat) (v : Int) (h : 16777215 < v) :
    Calls Try.prog 11 #[.int .u32 v, .slice a m cb] w fun e w' => e = .returned (.tuple #[.slice none 0 0, .int .i64 21]) ∧ w = w' := by
  go_enter Try.func11, Try.ntmps11
  go_wp2
  go_ret2
  exact ⟨rfl, rfl⟩
set_option maxHeartbeats 400000 in
theorem vbytes_big (w : World) (a : Option Addr) (m cb : Nat) (v : Int) (h : v ≤ 16777215) (h1 : 1592 < m) :
    Calls Try.prog 11 #[.int .u32 v, .slice a m cb] w fun e w' => e = .returned (.tuple #[.slice none 0 0, .int .i64 23]) ∧ w = w' := by
  have h' : (1592 : Int) < m := by omega
  go_enter Try.func11, Try.ntmps11
  go_wp2
  go_ret2
  exact ⟨rfl, rfl⟩

/-- What vxlan.Bytes answers, whatever it is handed. -/
theorem vbytes_any {w : World} {a : Option Addr} {body : List Int} (hr : Row w a body) (m cb : Nat) (hm : body.length = m) (v : Int) (hv0 : 0 ≤ v) {E : Int} {L : List Int} (hE : vxbErr v body = E) (hL : vxOut v body = L) {n : Nat} (hn : L.length = n) :
    Calls Try.prog 11 #[.int .u32 v, .slice a m cb] w fun r w' => ∃ x, r = .returned (.tuple #[x, .int .i64 E]) ∧ w'.ownsRow w.heap.size 5 1 x n (L.map (Value.int .u8)) ∧ Below w.heap.size w w' := by
  subst hm hE hL hn
  by_cases h1 : 16777215 < v
  · have e : vxbErr v body = 21 := by unfold vxbErr; rw [if_pos h1]
    rw [e, vxb_no e (by decide)]
    refine (vbytes_form w a _ cb v h1).mono ?_
    rintro r w' ⟨rfl, rfl⟩
    exact ⟨_, rfl, World.ownsRow_nil _ _ _ _, Below.refl _ _⟩
  by_cases h2 : 1592 < body.length
  · have e : vxbErr v body = 23 := by unfold vxbErr; rw [if_neg h1, if_pos h2]
    rw [e, vxb_no e (by decide)]
    refine (vbytes_big w a _ cb v (by omega) h2).mono ?_
    rintro r w' ⟨rfl, rfl⟩
    exact ⟨_, rfl, World.ownsRow_nil _ _ _ _, Below.refl _ _⟩
  have e : vxbErr v body = 0 := (vxfits_iff v body).mpr (by omega)
  have e2 : vxOut v body = vxb v body := if_pos e
  rw [e, e2, vxb_len]
  refine (vbytes_ok hr _ cb (8 + body.length) rfl (by omega) rfl v hv0 (by omega)).mono ?_
  rintro r w' ⟨rfl, ho, hb⟩
  exact ⟨_, rfl, ho, hb⟩
end Go.Proofs.Ytdhmefoenopoeaa
