/-
  The document's own Tcp, whatever it is handed; and the statements' known segment: lychlaw5.known answers true.
-/
import Derived.Test.YtemljieghamegaaTcpRead
import Derived.Test.YtemljieghamegaaTcpRef
import Derived.Test.YtemljieghamegaaTcpSum
namespace Go.Proofs.Ytemljieghamegaa
open Go.RowKit
open Sm
set_option linter.unusedVariables false

/-- What lychref1.Tcp answers, whatever it is handed (up to 70000 bytes). -/
theorem rtcp_any {w : World} {a : Option Addr} {n c : Nat} {l : List Int} (hr : Row w a l) (hn : l.length = n) (hc : n ≤ c) (h7 : n ≤ 70000) :
    Calls Try.prog 10 #[.slice a n c] w fun r w' => ∃ v, r = .returned (.tuple #[v, .int .i64 (tcErr l)]) ∧ TcV w' w.heap.size v (tcRes l) ∧ Below w.heap.size w w' := by
  subst hn
  by_cases h1 : l.length < 20
  · rw [(tc_e20 h1).1, (tc_e20 h1).2]
    refine (rtcp_short a _ c w h1).mono ?_
    rintro r w' ⟨rfl, hb⟩
    exact ⟨_, rfl, tcv_zero _ _, hb⟩
  rcases hr.cells with e0 | ⟨b, off, rfl, -⟩
  · rw [e0] at h1; simp at h1
  have r12 := hr.bytes 12
  have hlen := hr.len
  obtain ⟨k, hk⟩ : ∃ k : Nat, l.getD 12 0 / 16 = k := ⟨(l.getD 12 0 / 16).toNat, by omega⟩
  have ht : thd l = 4 * k := by unfold thd; omega
  obtain ⟨x, hx⟩ : ∃ x : Nat, l.getD 12 0 = x := ⟨(l.getD 12 0).toNat, by omega⟩
  have c12 : w.cell? ⟨b, off + 12, none⟩ = some (.int .u8 x) := by rw [← hx]; exact hr.cellAt 12 (by omega)
  by_cases h2 : thd l < 20
  · rw [(tc_e21 h1 h2).1, (tc_e21 h1 h2).2]
    refine (rtcp_no x k c12 (by omega) (by omega) (by omega) hlen 21 (Or.inl ⟨by omega, rfl⟩)).mono ?_
    rintro r w' ⟨rfl, hb⟩
    exact ⟨_, rfl, tcv_zero _ _, hb⟩
  by_cases h3 : l.length < thd l
  · rw [(tc_e20b h1 h2 h3).1, (tc_e20b h1 h2 h3).2]
    refine (rtcp_no x k c12 (by omega) (by omega) (by omega) hlen 20 (Or.inr ⟨by omega, by omega, rfl⟩)).mono ?_
    rintro r w' ⟨rfl, hb⟩
    exact ⟨_, rfl, tcv_zero _ _, hb⟩
  rw [(tc_e0 h1 h2 h3).1, (tc_e0 h1 h2 h3).2]
  exact rtcp_ok (K := thd l) (o := thd l - 20) (m := l.length - thd l) hr rfl hc h7 k hk ht (by omega) (by omega) (tcSg l) rfl rfl rfl rfl rfl rfl rfl rfl rfl rfl

def sg0 : Sg := ⟨7, 9, 0, 0, 0, 0, 0, 0, [], [1, 2, 3]⟩
def sg1 : Sg := ⟨7, 9, 0, 0, 0, 0, 43981, 0, [], [1, 2, 3]⟩
theorem b123 : IsBytes [1, 2, 3] := bytes_cons (by decide) (bytes_cons (by decide) (bytes_cons (by decide) bytes_nil))
theorem sg0_ok : sg0.Ok := ⟨by decide, by decide, by decide, by decide, by decide, by decide, by decide, by decide, bytes_nil, b123⟩
theorem sg1_ok : sg1.Ok := ⟨by decide, by decide, by decide, by decide, by decide, by decide, by decide, by decide, bytes_nil, b123⟩
theorem sg1_fits : TFits sg1 := ⟨by decide, by decide, by decide⟩
theorem sg0_sum : tsum 1 2 sg0 = 43981 := by decide
theorem sg1_err : tcbErr sg1 = 0 := rfl
def sgl : List Int := [0, 7, 0, 9, 0, 0, 0, 0, 0, 0, 0, 0, 80, 0, 0, 0, 171, 205, 0, 0, 1, 2, 3]
theorem sgl_eq : tcOut sg1 = sgl := by decide
theorem sgl_b : tcb sg1 = sgl := by decide
theorem sgl_bytes : IsBytes sgl := by rw [← sgl_b]; exact tcb_bytes sg1_ok sg1_fits
theorem sgl_err : tcErr sgl = 0 := by decide
theorem sgl_res : tcRes sgl = sg1 := by rw [← sgl_b]; exact back_tres sg1_ok sg1_fits
theorem sg1_right : tright 1 2 sg1 = true := by decide
theorem sg1_wrong : tright 1 3 sg1 = false := by decide

/-- tcp.Parse's answer written out. -/
theorem tparse_out {w : World} {a : Option Addr} {n c : Nat} {l : List Int} (hr : Row w a l) (hn : l.length = n) (hc : n ≤ c) {E : Int} {p : Sg} (hE : tcErr l = E) (hp : tcRes l = p) {no nb : Nat} (ho : p.opts.length = no) (hb : p.body.length = nb) :
    Calls Try.prog 9 #[.slice a n c] w fun r w' => ∃ ao co bo cb, r = .returned (.tuple #[.agg (tcB p ao no co bo nb cb), .int .i64 E]) ∧
      TcV w' w.heap.size (.agg (tcB p ao no co bo nb cb)) p ∧ Below w.heap.size w w' := by
  subst hE hp hb ho
  refine (tparse_any hr hn hc).mono ?_
  rintro r w' ⟨v, rfl, hv, hb⟩
  have hv' := hv
  obtain ⟨ao, co, bo, cb, rfl, -⟩ := hv
  exact ⟨ao, co, bo, cb, rfl, hv', hb⟩
theorem rtcp_out {w : World} {a : Option Addr} {n c : Nat} {l : List Int} (hr : Row w a l) (hn : l.length = n) (hc : n ≤ c) (h7 : n ≤ 70000) {E : Int} {p : Sg} (hE : tcErr l = E) (hp : tcRes l = p) {no nb : Nat} (ho : p.opts.length = no) (hb : p.body.length = nb) :
    Calls Try.prog 10 #[.slice a n c] w fun r w' => ∃ ao co bo cb, r = .returned (.tuple #[.agg (tcB p ao no co bo nb cb), .int .i64 E]) ∧
      TcV w' w.heap.size (.agg (tcB p ao no co bo nb cb)) p ∧ Below w.heap.size w w' := by
  subst hE hp hb ho
  refine (rtcp_any hr hn hc h7).mono ?_
  rintro r w' ⟨v, rfl, hv, hb⟩
  have hv' := hv
  obtain ⟨ao, co, bo, cb, rfl, -⟩ := hv
  exact ⟨ao, co, bo, cb, rfl, hv', hb⟩

abbrev sgA (w : World) (c : Int) : Array Value := tcA 7 9 0 0 0 0 c 0 (.slice none 0 0) (.slice (some ⟨w.heap.size, 0, none⟩) 3 3)
theorem tcv_of {w W : World} {L : List (Nat × Obj)} (hM : Mem w W L) (hi : L[0]? = some (w.heap.size, .cells (bs [1, 2, 3]) 5 (0, 0))) (c : Int) : TcV W 0 (.agg (sgA w c)) ⟨7, 9, 0, 0, 0, 0, c, 0, [], [1, 2, 3]⟩ :=
  ⟨none, 0, some ⟨w.heap.size, 0, none⟩, 3, rfl, row_nil W, hM.own 0 hi b123 (by simp), fun _ => rfl, fun e => (by cases e), fun _ _ => Nat.zero_le _, fun _ _ => Nat.zero_le _⟩

set_option maxRecDepth 20000 in
set_option maxHeartbeats 4000000 in
theorem tknown_any (w : World) : Calls Try.prog 8 #[] w fun e w' => e = .returned (.bool true) ∧ Below w.heap.size w w' := by
  go_enter Try.func8, Try.ntmps8
  go_upto_region 2 with fail
  refine wp_letter (fun W => Mem w W [(w.heap.size, .cells (bs [1, 2, 3]) 5), (w.heap.size + 1, .cells (sgA w 0) tcT)]) (((Mem.nil w).push w.heap.size _ rfl).push (w.heap.size + 1) _ (by simp)) ?_
  intro w1 hM1
  have HM1 : Hid _ := hM1
  have kc : ∀ i, w1.cell? ⟨w.heap.size + 1, i, none⟩ = (sgA w 0)[i]? := hM1.cell 1 rfl
  have hS := tsum_any sg0_ok (tcv_of hM1 rfl 0) 1 2 (by omega) (by omega) (by omega) (by omega)
  rw [sg0_sum] at hS
  clear hM1
  go_wp2_with fail
  refine hS.mono ?_
  rintro e w2 ⟨rfl, hb2⟩
  have HM2 : Hid _ := HM1.out.after hb2
  clear hS hb2 kc HM1
  have k2 : w2.cell? ⟨w.heap.size + 1, 6, none⟩ = some (.int .u16 0) := HM2.out.cell 1 rfl 6
  have kf : ∀ i, w2.frozen? ⟨w.heap.size + 1, i, none⟩ = false := HM2.out.free 1 rfl
  go_upto_region 3 with fail
  refine wp_letter (fun W => Mem w W [(w.heap.size, .cells (bs [1, 2, 3]) 5), (w.heap.size + 1, .cells (sgA w 43981) tcT)]) (HM2.out.set 1 rfl 6 (.int .u16 43981)) ?_
  intro w3 hM3
  have HM3 : Hid _ := hM3
  have kc : ∀ i, w3.cell? ⟨w.heap.size + 1, i, none⟩ = (sgA w 43981)[i]? := hM3.cell 1 rfl
  have hB := tbytes_any sg1_ok (tcv_of hM3 rfl 43981)
  rw [sgl_eq, sg1_err, show sgl.length = 23 from rfl] at hB
  clear hM3 HM2 k2 kf
  go_wp2_with fail
  refine hB.mono ?_
  rintro e w4 ⟨x, rfl, hown, hb4⟩
  obtain ⟨g, cap, rfl, hg, hcap, hob⟩ := own_shape2 hown rfl (by omega)
  have HM4 : Hid _ := HM3.out.after hb4
  have hP := tparse_out (hob.row sgl_bytes (by decide)) (n := 23) rfl hcap sgl_err sgl_res (no := 0) (nb := 3) rfl rfl
  clear hB hown hob hb4 HM3 kc hg hcap
  go_wp2_with fail
  refine hP.mono ?_
  rintro e w5 ⟨ao, co, bo, cb, rfl, -, hb5⟩
  have HM5 : Hid _ := HM4.out.after hb5
  clear hP hb5 HM4
  go_upto_region 5 with fail
  refine wp_letter (fun W => Mem w W [(w.heap.size, .cells (bs [1, 2, 3]) 5), (w.heap.size + 1, .cells (sgA w 43981) tcT), (w5.heap.size, .cells (tcB sg1 ao 0 co bo 3 cb) tcT)]) (HM5.out.push w5.heap.size _ rfl) ?_
  intro w6 hM6
  have HM6 : Hid _ := hM6
  clear hM6 HM5
  generalize w5.heap.size = P at *
  have hP := tparse_out (row_nil w6) (n := 0) (c := 0) rfl (Nat.le_refl _) (E := 20) rfl (p := Sg.zero) rfl (no := 0) (nb := 0) rfl rfl
  go_wp2_with fail
  refine hP.mono ?_
  rintro e w7 ⟨ao2, co2, bo2, cb2, rfl, -, hb7⟩
  have HM7 : Hid _ := HM6.out.after hb7
  clear hP hb7 HM6
  go_upto_region 6 with fail
  refine wp_letter (fun W => Mem w W [(w.heap.size, .cells (bs [1, 2, 3]) 5), (w.heap.size + 1, .cells (sgA w 43981) tcT), (P, .cells (tcB sg1 ao 0 co bo 3 cb) tcT)]) (HM7.out.after ((Below.refl _ _).alloc (Nat.le_refl _) _)) ?_
  intro w8 hM8
  have HM8 : Hid _ := hM8
  have kc : ∀ i, w8.cell? ⟨w.heap.size + 1, i, none⟩ = (sgA w 43981)[i]? := hM8.cell 1 rfl
  have kp : w8.cell? ⟨P, 1, none⟩ = some (.int .u16 9) := hM8.cell 2 rfl 1
  have hR := tright_any sg1_ok (tcv_of hM8 rfl 43981) 1 2 (by omega) (by omega) (by omega) (by omega)
  rw [sg1_right] at hR
  clear hM8 HM7
  go_wp2_with fail
  refine hR.mono ?_
  rintro e w9 ⟨rfl, hb9⟩
  have hM9 := HM8.out.after hb9
  have HB9 : Hid (Below w.heap.size w w9) := hM9.below
  clear hR hb9 HM8 kc kp
  have kc : ∀ i, w9.cell? ⟨w.heap.size + 1, i, none⟩ = (sgA w 43981)[i]? := hM9.cell 1 rfl
  have hR := tright_any sg1_ok (tcv_of hM9 rfl 43981) 1 3 (by omega) (by omega) (by omega) (by omega)
  rw [sg1_wrong] at hR
  clear hM9
  go_wp2_with fail
  refine hR.mono ?_
  rintro e w10 ⟨rfl, hb10⟩
  have HB10 : Hid (Below w.heap.size w w10) := HB9.out.trans (hb10.mono HB9.out.size)
  clear hR hb10 HB9 kc
  go_wp2_with fail
  go_ret
  exact ⟨rfl, HB10.out⟩
end Go.Proofs.Ytemljieghamegaa
