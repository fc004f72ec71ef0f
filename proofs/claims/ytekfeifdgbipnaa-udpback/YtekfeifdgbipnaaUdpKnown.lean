/-
  The chapter's example stands: lychlaw4.known answers true.
-/
import Derived.Test.YtekfeifdgbipnaaUdpSum
namespace Go.Proofs.Ytekfeifdgbipnaa
open Go.RowKit
open Sm
set_option linter.unusedVariables false

def dg0 : Dg := ⟨7, 9, 0, [1, 2, 3]⟩
def dg1 : Dg := ⟨7, 9, 64451, [1, 2, 3]⟩
theorem b123 : IsBytes [1, 2, 3] := bytes_cons (by decide) (bytes_cons (by decide) (bytes_cons (by decide) bytes_nil))
theorem dg0_ok : dg0.Ok := ⟨by decide, by decide, by decide, b123⟩
theorem dg1_ok : dg1.Ok := ⟨by decide, by decide, by decide, b123⟩
theorem dg0_sum : usum 1 2 dg0 = 64451 := by decide
theorem dg1_err : udbErr dg1 = 0 := rfl
def dgl : List Int := [0, 7, 0, 9, 0, 11, 251, 195, 1, 2, 3]
theorem dgl_eq : udOut dg1 = dgl := by decide
theorem dgl_b : udb dg1 = dgl := by decide
theorem dgl_bytes : IsBytes dgl := by rw [← dgl_b]; exact udb_bytes dg1_ok (by decide)
theorem dgl_err : udErr dgl = 0 := by decide
theorem dgl_res : udRes dgl = dg1 := by rw [← dgl_b]; exact back_ures dg1_ok (by decide)
theorem dg1_right : uright 1 2 dg1 = true := by decide
theorem dg1_wrong : uright 1 3 dg1 = false := by decide

/-- udp.Parse's answer written out. -/
theorem uparse_out {w : World} {a : Option Addr} {n c : Nat} {l : List Int} (hr : Row w a l) (hn : l.length = n) (hc : n ≤ c) {E : Int} {p : Dg} (hE : udErr l = E) (hp : udRes l = p) {nb : Nat} (hb : p.body.length = nb) :
    Calls Try.prog 10 #[.slice a n c] w fun r w' => ∃ bo cb, r = .returned (.tuple #[.agg (udA p.src p.dst p.sum (.slice bo nb cb)), .int .i64 E]) ∧
      UdV w' w.heap.size (.agg (udA p.src p.dst p.sum (.slice bo nb cb))) p ∧ Below w.heap.size w w' := by
  subst hE hp hb
  refine (uparse_any hr hn hc).mono ?_
  rintro r w' ⟨v, rfl, hv, hb⟩
  have hv' := hv
  obtain ⟨bo, cb, rfl, -⟩ := hv
  exact ⟨bo, cb, rfl, hv', hb⟩
theorem rudp_out {w : World} {a : Option Addr} {n c : Nat} {l : List Int} (hr : Row w a l) (hn : l.length = n) (hc : n ≤ c) {E : Int} {p : Dg} (hE : udErr l = E) (hp : udRes l = p) {nb : Nat} (hb : p.body.length = nb) :
    Calls Try.prog 11 #[.slice a n c] w fun r w' => ∃ bo cb, r = .returned (.tuple #[.agg (udA p.src p.dst p.sum (.slice bo nb cb)), .int .i64 E]) ∧
      UdV w' w.heap.size (.agg (udA p.src p.dst p.sum (.slice bo nb cb))) p ∧ Below w.heap.size w w' := by
  subst hE hp hb
  refine (rudp_any hr hn hc).mono ?_
  rintro r w' ⟨v, rfl, hv, hb⟩
  have hv' := hv
  obtain ⟨bo, cb, rfl, -⟩ := hv
  exact ⟨bo, cb, rfl, hv', hb⟩

theorem udv_of {w W : World} {L : List (Nat × Obj)} (hM : Mem w W L) (hi : L[0]? = some (w.heap.size, .cells (bs [1, 2, 3]) 5 (0, 0))) (c : Int) : UdV W 0 (.agg (udA 7 9 c (.slice (some ⟨w.heap.size, 0, none⟩) 3 3))) ⟨7, 9, c, [1, 2, 3]⟩ :=
  ⟨some ⟨w.heap.size, 0, none⟩, 3, rfl, hM.own 0 hi b123 (by simp), fun e => (by cases e), fun _ _ => Nat.zero_le _⟩

set_option maxRecDepth 20000 in
set_option maxHeartbeats 2000000 in
theorem uknown_any (w : World) : Calls Try.prog 9 #[] w fun e w' => e = .returned (.bool true) ∧ Below w.heap.size w w' := by
  go_enter Try.func9, Try.ntmps9
  go_upto_region 2 with fail
  refine wp_letter (fun W => Mem w W [(w.heap.size, .cells (bs [1, 2, 3]) 5), (w.heap.size + 1, .cells (udA 7 9 0 (.slice (some ⟨w.heap.size, 0, none⟩) 3 3)) udT)]) (((Mem.nil w).push w.heap.size _ rfl).push (w.heap.size + 1) _ (by simp)) ?_
  intro w1 hM1
  have HM1 : Hid _ := hM1
  have kc : ∀ i, w1.cell? ⟨w.heap.size + 1, i, none⟩ = (udA 7 9 0 (.slice (some ⟨w.heap.size, 0, none⟩) 3 3))[i]? := hM1.cell 1 rfl
  have hS := usum_any dg0_ok (udv_of hM1 rfl 0) 1 2 (by omega) (by omega) (by omega) (by omega)
  rw [dg0_sum] at hS
  clear hM1
  go_wp2_with fail
  refine hS.mono ?_
  rintro e w2 ⟨rfl, hb2⟩
  have HM2 : Hid _ := HM1.out.after hb2
  clear hS hb2 kc HM1
  have k2 : w2.cell? ⟨w.heap.size + 1, 2, none⟩ = some (.int .u16 0) := HM2.out.cell 1 rfl 2
  have kf : ∀ i, w2.frozen? ⟨w.heap.size + 1, i, none⟩ = false := HM2.out.free 1 rfl
  go_upto_region 3 with fail
  refine wp_letter (fun W => Mem w W [(w.heap.size, .cells (bs [1, 2, 3]) 5), (w.heap.size + 1, .cells (udA 7 9 64451 (.slice (some ⟨w.heap.size, 0, none⟩) 3 3)) udT)]) (HM2.out.set 1 rfl 2 (.int .u16 64451)) ?_
  intro w3 hM3
  have HM3 : Hid _ := hM3
  have kc : ∀ i, w3.cell? ⟨w.heap.size + 1, i, none⟩ = (udA 7 9 64451 (.slice (some ⟨w.heap.size, 0, none⟩) 3 3))[i]? := hM3.cell 1 rfl
  have hB := ubytes_any dg1_ok (udv_of hM3 rfl 64451)
  rw [dgl_eq, dg1_err, show dgl.length = 11 from rfl] at hB
  clear hM3 HM2 k2 kf
  go_wp2_with fail
  refine hB.mono ?_
  rintro e w4 ⟨x, rfl, hown, hb4⟩
  obtain ⟨g, cap, rfl, hg, hcap, hob⟩ := own_shape2 hown rfl (by omega)
  have HM4 : Hid _ := HM3.out.after hb4
  have hP := uparse_out (hob.row dgl_bytes (by decide)) (n := 11) rfl hcap dgl_err dgl_res (nb := 3) rfl
  clear hB hown hob hb4 HM3 kc hg hcap
  go_wp2_with fail
  refine hP.mono ?_
  rintro e w5 ⟨bo, cb, rfl, -, hb5⟩
  have HM5 : Hid _ := HM4.out.after hb5
  clear hP hb5 HM4
  go_upto_region 5 with fail
  refine wp_letter (fun W => Mem w W [(w.heap.size, .cells (bs [1, 2, 3]) 5), (w.heap.size + 1, .cells (udA 7 9 64451 (.slice (some ⟨w.heap.size, 0, none⟩) 3 3)) udT), (w5.heap.size, .cells (udA dg1.src dg1.dst dg1.sum (.slice bo 3 cb)) udT)]) (HM5.out.push w5.heap.size _ rfl) ?_
  intro w6 hM6
  have HM6 : Hid _ := hM6
  clear hM6 HM5
  generalize w5.heap.size = P at *
  have hP := uparse_out (row_nil w6) (n := 0) (c := 0) rfl (Nat.le_refl _) (E := 20) rfl (p := Dg.zero) rfl (nb := 0) rfl
  go_wp2_with fail
  refine hP.mono ?_
  rintro e w7 ⟨bo2, cb2, rfl, -, hb7⟩
  have HM7 : Hid _ := HM6.out.after hb7
  clear hP hb7 HM6
  go_upto_region 6 with fail
  refine wp_letter (fun W => Mem w W [(w.heap.size, .cells (bs [1, 2, 3]) 5), (w.heap.size + 1, .cells (udA 7 9 64451 (.slice (some ⟨w.heap.size, 0, none⟩) 3 3)) udT), (P, .cells (udA dg1.src dg1.dst dg1.sum (.slice bo 3 cb)) udT)]) (HM7.out.after ((Below.refl _ _).alloc (Nat.le_refl _) _)) ?_
  intro w8 hM8
  have HM8 : Hid _ := hM8
  have kc : ∀ i, w8.cell? ⟨w.heap.size + 1, i, none⟩ = (udA 7 9 64451 (.slice (some ⟨w.heap.size, 0, none⟩) 3 3))[i]? := hM8.cell 1 rfl
  have kp : w8.cell? ⟨P, 1, none⟩ = some (.int .u16 9) := hM8.cell 2 rfl 1
  have hR := uright_any dg1_ok (udv_of hM8 rfl 64451) 1 2 (by omega) (by omega) (by omega) (by omega)
  rw [dg1_right] at hR
  clear hM8 HM7
  go_wp2_with fail
  refine hR.mono ?_
  rintro e w9 ⟨rfl, hb9⟩
  have hM9 := HM8.out.after hb9
  have HB9 : Hid (Below w.heap.size w w9) := hM9.below
  clear hR hb9 HM8 kc kp
  have kc : ∀ i, w9.cell? ⟨w.heap.size + 1, i, none⟩ = (udA 7 9 64451 (.slice (some ⟨w.heap.size, 0, none⟩) 3 3))[i]? := hM9.cell 1 rfl
  have hR := uright_any dg1_ok (udv_of hM9 rfl 64451) 1 3 (by omega) (by omega) (by omega) (by omega)
  rw [dg1_wrong] at hR
  clear hM9
  go_wp2_with fail
  refine hR.mono ?_
  rintro e w10 ⟨rfl, hb10⟩
  have HB10 : Hid (Below w.heap.size w w10) := HB9.out.trans (hb10.mono HB9.out.size)
  clear hR hb10 HB9 kc
  go_wp2_with fail
  go_ret
  exact ⟨rfl, HB10.out⟩
end Go.Proofs.Ytekfeifdgbipnaa
