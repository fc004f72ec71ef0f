/-
  The walk of lychlaw8.RewriteChanges: it answers true.
  The packet within an error, changed: what is changed fits, and is bytes.
-/
import Derived.Test.YtjalpbkfpjfigaaGreatM42
import Derived.Test.YtjalpbkfpjfigaaGreatM38
import Derived.Test.YtjalpbkfpjfigaaGreatM39
namespace Go.Proofs.YtjalpbkfpjfigaaGreat
open Go.RowKit
open Sm
set_option linter.unusedVariables false
set_option maxRecDepth 20000

set_option maxHeartbeats 4000000 in
theorem changes_core {w : World} (P : Pa) (hP : P.Ok) (side : Int) (s0 : 0 ≤ side) (s1 : side ≤ 255) (s d : Pt) (hs : s.Ok) (hd : d.Ok) :
    Calls Tryz.prog 4 #[.agg (paB P), .int .u8 side, .agg (ptA s), .agg (ptA d)] w fun e w' => e = .returned (.bool true) ∧ Below w.heap.size w w' := by
  have HM1 : Hid (Mem w (((w.alloc (.cells (paB P) paT)).alloc (.cells (ptA s) ptT)).alloc (.cells (ptA d) ptT)) [(w.heap.size, .cells (paB P) paT), (w.heap.size + 1, .cells (ptA s) ptT), (w.heap.size + 2, .cells (ptA d) ptT)]) := (((Mem.nil w).push1 rfl).push2 (by simp)).push3 (by simp)
  have hk := rknown_any (((w.alloc (.cells (paB P) paT)).alloc (.cells (ptA s) ptT)).alloc (.cells (ptA d) ptT))
  have hst : side.tmod 2 = side % 2 := Int.tmod_eq_emod_of_nonneg s0
  have hsw := wrap64_small (side % 2) (by omega) (by omega)
  have HS : Hid (side % 2 = 0 ∨ side % 2 = 1) := by show _ ∨ _; omega
  have HN : Hid (P.Ok ∧ s.Ok ∧ d.Ok) := ⟨hP, hs, hd⟩
  generalize side % 2 = sd at *
  clear hP hs hd
  go_enter Tryz.func4, Tryz.ntmps4
  go_wp2_with fail
  refine hk.mono ?_
  rintro e w2 ⟨rfl, hbel⟩
  have hM2 := HM1.out.after hbel
  have HM2 : Hid (Mem w w2 [(w.heap.size, .cells (paB P) paT), (w.heap.size + 1, .cells (ptA s) ptT), (w.heap.size + 2, .cells (ptA d) ptT)]) := hM2
  have kc : ∀ i, w2.cell? ⟨w.heap.size, i, none⟩ = (paB P)[i]? := hM2.cell 0 rfl
  have hPk := packet_any w2 P HN.out.1 sd 0 HS.out ⟨by omega, by omega⟩
  have hpf := pktb_facts HN.out.1 (side := sd) (k := 0) ⟨by omega, by omega⟩
  obtain ⟨B, hB⟩ : ∃ B, pktb P sd 0 = B := ⟨_, rfl⟩
  obtain ⟨nB, hnB⟩ : ∃ n, B.length = n := ⟨_, rfl⟩
  rw [hB] at hPk hpf
  rw [hnB] at hPk
  have HB : Hid (B.length = nB ∧ IsBytes B ∧ B.length ≤ 65535) := ⟨hnB, hpf⟩
  clear hk hbel HM1 hM2 hB hnB hpf
  go_wp2_with fail
  refine hPk.mono ?_
  rintro e w3 ⟨u, rfl, ho, hb3⟩
  have hM3 := HM2.out.after hb3
  have HM3 : Hid (Mem w w3 [(w.heap.size, .cells (paB P) paT), (w.heap.size + 1, .cells (ptA s) ptT), (w.heap.size + 2, .cells (ptA d) ptT)]) := hM3
  obtain ⟨a3, c3, rfl, hr3, -, -, hc3⟩ := own_read ho HB.out.1 HB.out.2.1 (by have := HB.out; omega)
  have HR3 : Hid (Row w3 a3 B ∧ nB ≤ c3) := ⟨hr3, hc3⟩
  have ks : ∀ i, w3.cell? ⟨w.heap.size + 1, i, none⟩ = (ptA s)[i]? := hM3.cell 1 rfl
  have kd : ∀ i, w3.cell? ⟨w.heap.size + 2, i, none⟩ = (ptA d)[i]? := hM3.cell 2 rfl
  have hC := change_any hr3 HB.out.1 hc3 s d HN.out.2.1 HN.out.2.2
  have hof := chOut_bytes HB.out.2.1 HN.out.2.1 HN.out.2.2
  obtain ⟨E, hE⟩ : ∃ E, chErr B s d = E := ⟨_, rfl⟩
  obtain ⟨L, hL⟩ : ∃ L, chOut B s d = L := ⟨_, rfl⟩
  obtain ⟨nL, hnL⟩ : ∃ n, L.length = n := ⟨_, rfl⟩
  rw [hL] at hof
  have HE : Hid (chErr B s d = E ∧ chOut B s d = L ∧ L.length = nL ∧ IsBytes L ∧ L.length ≤ 65535) := ⟨hE, hL, hnL, hof.1, hof.2⟩
  rw [hE, hL, hnL] at hC
  clear hPk ho hb3 kc HM2 hM3 hr3 hc3 hof hE hL hnL
  go_wp2_with fail
  refine hC.mono ?_
  rintro e w4 ⟨u1, rfl, ho1, hb4⟩
  have hM4 := HM3.out.after hb4
  have HM4 : Hid (Mem w w4 [(w.heap.size, .cells (paB P) paT), (w.heap.size + 1, .cells (ptA s) ptT), (w.heap.size + 2, .cells (ptA d) ptT)]) := hM4
  have HO1 : Hid (w4.ownsRow w3.heap.size 5 1 u1 nL (L.map (Value.int .u8))) := ho1
  have hC2 := rchange_any (HR3.out.1.below hb4 (Nat.le_refl _)) HB.out.1 HR3.out.2 s d HN.out.2.1 HN.out.2.2
  rw [HE.out.1, HE.out.2.1, HE.out.2.2.1] at hC2
  clear hC ho1 hb4 ks kd HM3
  have ks : ∀ i, w4.cell? ⟨w.heap.size + 1, i, none⟩ = (ptA s)[i]? := hM4.cell 1 rfl
  have kd : ∀ i, w4.cell? ⟨w.heap.size + 2, i, none⟩ = (ptA d)[i]? := hM4.cell 2 rfl
  clear hM4
  go_wp2_with fail
  refine hC2.mono ?_
  rintro e w5 ⟨u2, rfl, ho2, hb5⟩
  have HB5 : Hid (Below w.heap.size w w5) := (HM4.out.after hb5).below
  obtain ⟨a1, c1, rfl, hr1, -⟩ := own_read (own_after HO1.out hb5 (Nat.le_refl _)) HE.out.2.2.1 HE.out.2.2.2.1 (by have := HE.out; omega)
  obtain ⟨a2, c2, rfl, hr2, -⟩ := own_read ho2 HE.out.2.2.1 HE.out.2.2.2.1 (by have := HE.out; omega)
  have hh := hbytes_yes hr1 hr2 nL nL HE.out.2.2.1 HE.out.2.2.1 c1 c2
  clear hC2 ho2 hb5 ks kd HM4 HO1 hr1 hr2
  go_wp2_with fail
  refine hh.mono ?_
  rintro e w' ⟨rfl, rfl⟩
  clear hh
  go_wp2_with fail
  go_ret
  exact ⟨rfl, HB5.out⟩
end Go.Proofs.YtjalpbkfpjfigaaGreat

namespace Go.Proofs.YtjalpbkfpjfigaaGreat
open Go.RowKit
open Sm
set_option linter.unusedVariables false
namespace Sm
theorem in_mgerr {l : List Int} (h0 : lkErr l = 0) (hi : (flFl (ipPk l)).inner.length ≠ 0) : (ipPk l).proto = 1 ∧ mgErr (ipPk l).body = 0 := by
  obtain ⟨-, b, -, -⟩ := lk_parts h0
  obtain ⟨p1, p2, -⟩ := inner_some hi
  rcases bd_kind b with ⟨k, -⟩ | ⟨k, -⟩ | ⟨k, e⟩
  · exact absurd k p1
  · exact absurd k p2
  · exact ⟨k, e⟩
theorem msl_body (M : Mg) : (msl M).body = M.body := rfl
theorem inMg_len (m : Mg) (s d : Pt) : (inMg m s d).body.length = m.body.length := by
  unfold inMg
  rw [msl_body]
  show (inPut m.body s d).length = _
  exact inPut_len _ _ _
theorem mgOut_le (M : Mg) (n : Nat) (h : 8 + M.body.length ≤ n) : (mgOut M).length ≤ n := by
  unfold mgOut
  split
  · rw [mgb_len]; exact h
  · simp
theorem bod_fits {p : Pk} (f : Fits p) (b : List Int) (h : b.length ≤ p.body.length) : ipbErr (p.bod b) = 0 :=
  (fits_iff _).mpr ⟨f.o4, f.o40, f.flags, f.off, by have := f.n; show 20 + p.opts.length + b.length ≤ 65535; omega⟩
theorem in_err {l : List Int} (h : IsBytes l) (h0 : lkErr l = 0) (hi : (flFl (ipPk l)).inner.length ≠ 0) (s d : Pt) : ipbErr (inPk (ipPk l) s d) = 0 := by
  have f := (pk_fits h (lk_parts h0).1).1
  have e := (in_mgerr h0 hi).2
  generalize ipPk l = p at *
  unfold inPk
  refine bod_fits f _ ?_
  have hl := mg_len8 e
  generalize mgRes p.body = m at *
  have hb := inMg_len m s d
  generalize inMg m s d = M at *
  exact mgOut_le M _ (by omega)
theorem inOut_bytes {l : List Int} (h : IsBytes l) {s d : Pt} (hs : s.Ok) (hd : d.Ok) : IsBytes (inOut l s d) ∧ (inOut l s d).length ≤ 65535 := by
  unfold inOut
  split
  · exact ⟨bytes_nil, by simp⟩
  · rename_i h0
    have h0 : lkErr l = 0 := by omega
    split
    · exact ⟨bytes_nil, by simp⟩
    · rename_i hi
      split
      · exact ⟨bytes_nil, by simp⟩
      · have ok := ipPk_ok h (lk_parts h0).1
        obtain ⟨-, -, hin⟩ := inner_some hi
        obtain ⟨h20, -, -, h8⟩ := inHead_facts (inOk_head hin)
        exact ipOut_bytes (pkbod_ok ok (mgOut_facts (inMg_ok (mgRes_ok ok.body) h20 h8 hs hd)).1)
end Sm
/-- The document's own Get16 over a row of the call's own. -/
theorem get16_own {W : World} {B g cap : Nat} {l : List Int} (h : OwnB W B g cap l) (hb : IsBytes l) (hl : l.length ≤ 70000) (i n c : Nat) (hn : l.length = n) (hi : i + 1 < n) :
    Calls Tryz.prog 41 #[.slice (some ⟨g, 0, none⟩) n c, .int .i64 i] W fun e w' => e = .returned (.int .u16 (w16 l i)) ∧ OwnB w' B g cap l ∧ Only g W w' := by
  refine (get16_at (h.row hb (by omega)) i n c hn hi _ rfl).mono ?_
  rintro e w' ⟨rfl, q, rfl⟩
  exact ⟨rfl, h.drewN q, (Only.refl g W).drewN q⟩
end Go.Proofs.YtjalpbkfpjfigaaGreat

