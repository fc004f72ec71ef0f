/-
  What the document's own lychref1.Ip answers.
-/
import Derived.Test.YtjalpbkfpjfigaaGreatLong
import Derived.Test.YtjalpbkfpjfigaaGreatIpReadOk
import Derived.Test.YtjalpbkfpjfigaaGreatIpHelp
import Derived.Test.YtjalpbkfpjfigaaGreatRef
namespace Go.Proofs.YtjalpbkfpjfigaaGreat
open Go.RowKit
open Sm
set_option linter.unusedVariables false
set_option maxRecDepth 20000

set_option maxHeartbeats 1000000 in
theorem rip_few (w : World) (a : Option Addr) (n c : Nat) (h : n < 20) :
    Calls Tryz.prog 44 #[.slice a n c] w fun e w' => e = .returned (.tuple #[.agg ip0, .int .i64 20]) ∧ Below w.heap.size w w' := by
  have h' : (n : Int) < 20 := by omega
  go_enter Tryz.func44, Tryz.ntmps44
  go_wp2
  refine bodyPost_ret (v := .tuple #[.agg ip0, .int .i64 20]) (by simp [results, Tryz.results44, go_sem]) rfl ⟨rfl, ?_⟩
  exact (Below.refl _ _).alloc (Nat.le_refl _) _

theorem ip_e21 {l : List Int} (h20 : 20 ≤ l.length) (h : ¬ (l.getD 0 0 / 16 = 4 ∧ 20 ≤ hdl l ∧ hdl l ≤ whl l)) : ipErr l = 21 ∧ ipRes l = Pk.zero := by
  have e : ipErr l = 21 := by unfold ipErr; rw [if_neg (by omega), if_pos h]
  exact ⟨e, if_neg (by omega)⟩
theorem ip_e20 {l : List Int} (h20 : 20 ≤ l.length) (h : l.getD 0 0 / 16 = 4 ∧ 20 ≤ hdl l ∧ hdl l ≤ whl l) (h2 : l.length < hdl l ∨ l.length < whl l) : ipErr l = 20 ∧ ipRes l = Pk.zero := by
  have e : ipErr l = 20 := by unfold ipErr; rw [if_neg (by omega), if_neg (fun c => c h), if_pos h2]
  exact ⟨e, if_neg (by omega)⟩
theorem ip_e22 {l : List Int} (h20 : 20 ≤ l.length) (h : l.getD 0 0 / 16 = 4 ∧ 20 ≤ hdl l ∧ hdl l ≤ whl l) (h2 : ¬ (l.length < hdl l ∨ l.length < whl l)) (h3 : foldv (tot (l.take (hdl l)) (cnt (hdl l))) ≠ 65535) : ipErr l = 22 ∧ ipRes l = Pk.zero := by
  have e : ipErr l = 22 := by unfold ipErr; rw [if_neg (by omega), if_neg (fun c => c h), if_neg h2, if_pos h3]
  exact ⟨e, if_neg (by omega)⟩
theorem ip_e0 {l : List Int} (h20 : 20 ≤ l.length) (h : l.getD 0 0 / 16 = 4 ∧ 20 ≤ hdl l ∧ hdl l ≤ whl l) (h2 : ¬ (l.length < hdl l ∨ l.length < whl l)) (h3 : foldv (tot (l.take (hdl l)) (cnt (hdl l))) = 65535) : ipErr l = 0 ∧ ipRes l = ipPk l := by
  have e : ipErr l = 0 := by unfold ipErr; rw [if_neg (by omega), if_neg (fun c => c h), if_neg h2, if_neg (fun c => c h3)]
  exact ⟨e, if_pos e⟩

set_option maxRecDepth 20000 in
set_option maxHeartbeats 4000000 in
theorem rip_bad {w : World} {b off n c : Nat} {l : List Int} (hr : Row w (some ⟨b, off, none⟩) l) (hn : l.length = n) (hc : n ≤ c) (h20 : 20 ≤ n) (hbad : ipErr l ≠ 0) :
    Calls Tryz.prog 44 #[.slice (some ⟨b, off, none⟩) n c] w fun r w' => ∃ v, r = .returned (.tuple #[v, .int .i64 (ipErr l)]) ∧ IpV w' w.heap.size v (ipRes l) ∧ Below w.heap.size w w' := by
  have hln := hr.len
  have r0 := hr.bytes 0
  have hb : b < w.heap.size := cell_lt (hr.cellAt 0 (by omega))
  have c0 : w.cell? ⟨b, off, none⟩ = some (.int .u8 (l.getD 0 0)) := hr.cellAt 0 (by omega)
  have hand := sm_low4 _ r0.1 r0.2
  obtain ⟨k, hk⟩ : ∃ k : Nat, l.getD 0 0 % 16 = k := ⟨(l.getD 0 0 % 16).toNat, by omega⟩
  rw [hk] at hand
  have hm : hdl l = 4 * k := by unfold hdl; omega
  have hw2 := w16_range hr.bytes 2
  obtain ⟨wl, hwl⟩ : ∃ wl : Nat, w16 l 2 = wl := ⟨(w16 l 2).toNat, by omega⟩
  have hwh : whl l = wl := by unfold whl; omega
  have g2 : ∀ W L, Mem w W L → Calls Tryz.prog 41 #[.slice (some ⟨b, off, none⟩) n c, .int .i64 2] W fun e w' => e = .returned (.int .u16 (wl : Int)) ∧ Mem w w' L := fun W L hM => by
    have := get16_mem hM hr 2 n c hn (by omega)
    rw [hwl] at this
    exact this
  obtain ⟨x0, hx0⟩ : ∃ x0, l.getD 0 0 = x0 := ⟨_, rfl⟩
  rw [hx0] at c0 hand r0
  obtain ⟨r00, r01⟩ := r0
  have v3 := wrap64_small (k : Int) (by omega) (by omega)
  have v4 := wrap64_small ((k : Int) * 4) (by omega) (by omega)
  have v5 := wrap64_small (wl : Int) (by omega) (by omega)
  have e4 : (k : Int) * 4 = ((4 * k : Nat) : Int) := by omega
  have HE4 : Hid ((k : Int) * 4 = ((4 * k : Nat) : Int)) := e4
  have k15 : k ≤ 15 := by omega
  have hwm : wl ≤ 65535 := by omega
  obtain ⟨m, hmm⟩ : ∃ m, m = 4 * k := ⟨_, rfl⟩
  have hm60 : m ≤ 60 := by omega
  have HK : Hid (((4 * k : Nat) : Int) = (m : Int)) := by show _ = _; rw [hmm]
  have HM4 : Hid (m = 4 * k) := hmm
  have HR : Hid (Row w (some ⟨b, off, none⟩) l ∧ l.length = n ∧ n ≤ c ∧ hdl l = m ∧ whl l = wl ∧ l.getD 0 0 = x0 ∧ n ≤ 140737488351232) := ⟨hr, hn, hc, by omega, hwh, hx0, by omega⟩
  have i0 : (0 : Int) < n := by omega
  have i0n : 0 < n := by omega
  have HN : Hid (20 ≤ n ∧ wl ≤ 65535 ∧ m ≤ 60) := ⟨h20, hwm, hm60⟩
  have h20' : (20 : Int) ≤ n := by omega
  clear hr hn hc h20 hln hk hm hw2 hwl hwh hx0 e4 k15 hwm hmm hm60
  go_enter Tryz.func44, Tryz.ntmps44
  go_upto_region 3 with fail
  go_cut [4, 5] from 7 (fun s4 s5 wx => s4 = .int .i64 (m : Int) ∧ s5 = .int .i64 (wl : Int) ∧ Mem w wx [(w.heap.size, .cells ip0 ipT)])
  case first =>
    have hM1 : Mem w (w.alloc (.cells ip0 ipT)) [(w.heap.size, .cells ip0 ipT)] := (Mem.nil w).push w.heap.size _ rfl
    have d0 := (hM1.old (i := off) hb).trans c0
    have HM1 : Hid _ := hM1.drew
    clear hM1
    go_region_held3 (fun w' => w'.cell? ⟨b, off, none⟩ = some (.int .u8 x0))
      (first | go_keep | exact (hM2.old hb).trans c0)
      (first | (go_at_call 41; refine (g2 _ _ HM1.out).mono ?_; rintro e w2 ⟨rfl, hM2⟩))
    all_goals
      go_wp2_with fail
      go_meet
      case rel => exact ⟨by rw [HE4.out, HK.out], rfl, hM2⟩
  case rest =>
    obtain ⟨rfl, rfl, hM2⟩ := hcut
    have d0 := (hM2.old (i := off) hb).trans c0
    have HM2 : Hid _ := hM2
    have kr : ∀ i, wc.cell? ⟨w.heap.size, i, none⟩ = ip0[i]? := hM2.cell 0 rfl
    have kf : ∀ i, wc.frozen? ⟨w.heap.size, i, none⟩ = false := hM2.free 0 rfl
    have hbz : Below w.heap.size w wc := hM2.below
    clear hM2 hand v3 v4 v5 g2 HE4 HK HM4
    by_cases hform : x0 / 16 = 4 ∧ 20 ≤ m ∧ m ≤ wl
    · obtain ⟨f1, f2, f3⟩ := hform
      have HF : Hid (x0 / 16 = 4 ∧ 20 ≤ m ∧ m ≤ wl) := ⟨f1, f2, f3⟩
      have f2' : (20 : Int) ≤ (m : Int) := by omega
      have f3' : (m : Int) ≤ wl := by omega
      by_cases hshort : n < m ∨ n < wl
      · have HZ : Hid (ipErr l = 20 ∧ ipRes l = Pk.zero) := by
          obtain ⟨-, q1, q2, q3, q4, q5, -⟩ := HR.out
          exact ip_e20 (by have := HN.out; omega) (by rw [q3, q4, q5]; exact HF.out) (by omega)
        have cs : (n : Int) < m ∨ ((m : Int) ≤ n ∧ (n : Int) < wl) := by omega
        clear hshort HM2
        rcases cs with c1 | ⟨c1, c2⟩
        all_goals
          go_wp2_with fail
          refine bodyPost_ret (v := .tuple #[.agg ip0, .int .i64 20]) (by simp [results, Tryz.results44, go_sem, kr]) rfl ⟨_, by rw [HZ.out.1], by rw [HZ.out.2]; exact ipv_zero _ _, ?_⟩
          iterate 10 (refine below_set ?_ (Nat.le_refl _))
          exact hbz
      · have hnm : m ≤ n := by omega
        have hnw : wl ≤ n := by omega
        have hadd : Calls Tryz.prog 68 #[.int .u32 0, .slice (some ⟨b, off, none⟩) m c] wc fun e w' => e = .returned (.int .u32 (acc (l.take m) 0 (cnt m))) ∧ Below wc.heap.size wc w' := by
          obtain ⟨q0, q1, q2, q3, q4, q5, -⟩ := HR.out
          have hlt : (l.take m).length = m := by rw [List.length_take]; omega
          have hrh : Row w (some ⟨b, off, none⟩) (l.take m) := by
            have := q0.part 0 m (by omega)
            simpa using this
          have := radd_any (HM2.out.row hrh) (by rw [hlt]; have := HN.out; omega) c 0 (by omega) (by omega)
          rw [hlt] at this
          exact this
        have hsr : 0 ≤ acc (l.take m) 0 (cnt m) ∧ acc (l.take m) 0 (cnt m) ≤ 4294967295 := by
          obtain ⟨q0, q1, q2, q3, q4, q5, -⟩ := HR.out
          exact acc_range (by have := (q0.part 0 m (by omega)).bytes; simpa using this) 0 (by omega) (by omega) _
        have HFo : Hid (foldv (acc (l.take m) 0 (cnt m)) = foldv (tot (l.take m) (cnt m))) := by
          obtain ⟨q0, q1, q2, q3, q4, q5, -⟩ := HR.out
          show _ = _
          rw [foldv_acc (by have := (q0.part 0 m (by omega)).bytes; simpa using this) 0 (by omega) (by omega), Int.zero_add]
        generalize acc (l.take m) 0 (cnt m) = S at *
        obtain ⟨s0, s1⟩ := hsr
        have hfold := fold_any S
        obtain ⟨T, hT⟩ : ∃ T, foldv S = T := ⟨_, rfl⟩
        have HT : Hid (foldv S = T) := hT
        have c1 : (m : Int) ≤ n := by omega
        have c2 : (wl : Int) ≤ n := by omega
        have c3 : (m : Int) ≤ c := by have := HR.out.2.2.1; omega
        have HNM : Hid (m ≤ n ∧ wl ≤ n) := ⟨hnm, hnw⟩
        clear hT hnm hnw hshort
        by_cases hsum : T = 65535
        · have HZ : Hid (ipErr l = 0 ∧ ipRes l = ipPk l) := by
            obtain ⟨-, q1, q2, q3, q4, q5, -⟩ := HR.out
            exact ip_e0 (by have := HN.out; omega) (by rw [q3, q4, q5]; exact HF.out) (by have := HNM.out; omega) (by rw [q3, ← HFo.out, HT.out]; exact hsum)
          exact absurd HZ.out.1 hbad
        · have HZ : Hid (ipErr l = 22 ∧ ipRes l = Pk.zero) := by
            obtain ⟨-, q1, q2, q3, q4, q5, -⟩ := HR.out
            exact ip_e22 (by have := HN.out; omega) (by rw [q3, q4, q5]; exact HF.out) (by have := HNM.out; omega) (by rw [q3, ← HFo.out, HT.out]; exact hsum)
          go_wp2_with fail
          refine hadd.mono ?_
          rintro e w3 ⟨rfl, hb3⟩
          have HM3 : Hid _ := HM2.out.after hb3
          clear hb3 hadd HM2 kr kf d0 hbz
          go_wp2_with fail
          refine (rfold_any S _ s0 s1).mono ?_
          rintro e w' ⟨rfl, rfl⟩
          rw [HT.out]
          have kr : ∀ i, w3.cell? ⟨w.heap.size, i, none⟩ = ip0[i]? := HM3.out.cell 0 rfl
          have kf : ∀ i, w3.frozen? ⟨w.heap.size, i, none⟩ = false := HM3.out.free 0 rfl
          go_wp2_with fail
          refine bodyPost_ret (v := .tuple #[.agg ip0, .int .i64 22]) (by simp [results, Tryz.results44, go_sem, kr]) rfl ⟨_, by rw [HZ.out.1], by rw [HZ.out.2]; exact ipv_zero _ _, ?_⟩
          iterate 10 (refine below_set ?_ (Nat.le_refl _))
          exact HM3.out.below
    · have HZ : Hid (ipErr l = 21 ∧ ipRes l = Pk.zero) := by
        obtain ⟨-, q1, q2, q3, q4, q5, -⟩ := HR.out
        exact ip_e21 (by have := HN.out; omega) (by rw [q3, q4, q5]; exact hform)
      have cs : x0 / 16 ≠ 4 ∨ (x0 / 16 = 4 ∧ (m : Int) < 20) ∨ (x0 / 16 = 4 ∧ (20 : Int) ≤ m ∧ (wl : Int) < m) := by omega
      clear hform HM2
      rcases cs with c1 | ⟨c1, c2⟩ | ⟨c1, c2, c3⟩
      all_goals
        go_wp2_with fail
        refine bodyPost_ret (v := .tuple #[.agg ip0, .int .i64 21]) (by simp [results, Tryz.results44, go_sem, kr]) rfl ⟨_, by rw [HZ.out.1], by rw [HZ.out.2]; exact ipv_zero _ _, ?_⟩
        iterate 10 (refine below_set ?_ (Nat.le_refl _))
        exact hbz
end Go.Proofs.YtjalpbkfpjfigaaGreat
