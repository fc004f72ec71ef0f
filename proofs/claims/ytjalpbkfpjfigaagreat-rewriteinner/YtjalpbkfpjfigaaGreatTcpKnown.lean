/-
  The document's own Tcp, whatever it is handed; and the statements' known segment: lychlaw5.known answers true.
-/
import Derived.Test.YtjalpbkfpjfigaaGreatTcpRead
import Derived.Test.YtjalpbkfpjfigaaGreatTcpRef
import Derived.Test.YtjalpbkfpjfigaaGreatTcpSum
namespace Go.Proofs.YtjalpbkfpjfigaaGreat
open Go.RowKit
open Sm
set_option linter.unusedVariables false

/-- What lychref1.Tcp answers, whatever it is handed (up to 70000 bytes). -/
theorem rtcp_any {w : World} {a : Option Addr} {n c : Nat} {l : List Int} (hr : Row w a l) (hn : l.length = n) (hc : n ≤ c) (h7 : n ≤ 70000) :
    Calls Tryz.prog 34 #[.slice a n c] w fun r w' => ∃ v, r = .returned (.tuple #[v, .int .i64 (tcErr l)]) ∧ TcV w' w.heap.size v (tcRes l) ∧ Below w.heap.size w w' := by
  subst hn
  by_cases h1 : l.length < 20
  · rw [(tc_e20 h1).1, (tc_e20 h1).2]
    refine (rtcp_short a _ c w h1).mono ?_
    rintro r w' ⟨rfl, hb⟩
    exact ⟨_, rfl, tcv_zero _ _, hb⟩
  rcases hr.cells with e0 | ⟨b, off, rfl, -⟩
  · rw [e0] at h1; simp at h1
  have r12 := hr.bytes 12
  have hlen := hr.len
  obtain ⟨k, hk⟩ : ∃ k : Nat, l.getD 12 0 / 16 = k := ⟨(l.getD 12 0 / 16).toNat, by omega⟩
  have ht : thd l = 4 * k := by unfold thd; omega
  obtain ⟨x, hx⟩ : ∃ x : Nat, l.getD 12 0 = x := ⟨(l.getD 12 0).toNat, by omega⟩
  have c12 : w.cell? ⟨b, off + 12, none⟩ = some (.int .u8 x) := by rw [← hx]; exact hr.cellAt 12 (by omega)
  by_cases h2 : thd l < 20
  · rw [(tc_e21 h1 h2).1, (tc_e21 h1 h2).2]
    refine (rtcp_no x k c12 (by omega) (by omega) (by omega) hlen 21 (Or.inl ⟨by omega, rfl⟩)).mono ?_
    rintro r w' ⟨rfl, hb⟩
    exact ⟨_, rfl, tcv_zero _ _, hb⟩
  by_cases h3 : l.length < thd l
  · rw [(tc_e20b h1 h2 h3).1, (tc_e20b h1 h2 h3).2]
    refine (rtcp_no x k c12 (by omega) (by omega) (by omega) hlen 20 (Or.inr ⟨by omega, by omega, rfl⟩)).mono ?_
    rintro r w' ⟨rfl, hb⟩
    exact ⟨_, rfl, tcv_zero _ _, hb⟩
  rw [(tc_e0 h1 h2 h3).1, (tc_e0 h1 h2 h3).2]
  exact rtcp_ok (K := thd l) (o := thd l - 20) (m := l.length - thd l) hr rfl hc h7 k hk ht (by omega) (by omega) (tcSg l) rfl rfl rfl rfl rfl rfl rfl rfl rfl rfl

def sg0 : Sg := ⟨7, 9, 0, 0, 0, 0, 0, 0, [], [1, 2, 3]⟩
def sg1 : Sg := ⟨7, 9, 0, 0, 0, 0, 43981, 0, [], [1, 2, 3]⟩
theorem sg0_ok : sg0.Ok := ⟨by decide, by decide, by decide, by decide, by decide, by decide, by decide, by decide, bytes_nil, b123⟩
theorem sg1_ok : sg1.Ok := ⟨by decide, by decide, by decide, by decide, by decide, by decide, by decide, by decide, bytes_nil, b123⟩
theorem sg1_fits : TFits sg1 := ⟨by decide, by decide, by decide⟩
theorem sg0_sum : tsum 1 2 sg0 = 43981 := by decide
theorem sg1_err : tcbErr sg1 = 0 := rfl
def sgl : List Int := [0, 7, 0, 9, 0, 0, 0, 0, 0, 0, 0, 0, 80, 0, 0, 0, 171, 205, 0, 0, 1, 2, 3]
theorem sgl_eq : tcOut sg1 = sgl := by decide
theorem sgl_b : tcb sg1 = sgl := by decide
theorem sgl_bytes : IsBytes sgl := by rw [← sgl_b]; exact tcb_bytes sg1_ok sg1_fits
theorem sgl_err : tcErr sgl = 0 := by decide
theorem sgl_res : tcRes sgl = sg1 := by rw [← sgl_b]; exact back_tres sg1_ok sg1_fits
theorem sg1_right : tright 1 2 sg1 = true := by decide
theorem sg1_wrong : tright 1 3 sg1 = false := by decide

/-- tcp.Parse's answer written out. -/
theorem tparse_out {w : World} {a : Option Addr} {n c : Nat} {l : List Int} (hr : Row w a l) (hn : l.length = n) (hc : n ≤ c) {E : Int} {p : Sg} (hE : tcErr l = E) (hp : tcRes l = p) {no nb : Nat} (ho : p.opts.length = no) (hb : p.body.length = nb) :
    Calls Tryz.prog 77 #[.slice a n c] w fun r w' => ∃ ao co bo cb, r = .returned (.tuple #[.agg (tcB p ao no co bo nb cb), .int .i64 E]) ∧
      TcV w' w.heap.size (.agg (tcB p ao no co bo nb cb)) p ∧ Below w.heap.size w w' := by
  subst hE hp hb ho
  refine (tparse_any hr hn hc).mono ?_
  rintro r w' ⟨v, rfl, hv, hb⟩
  have hv' := hv
  obtain ⟨ao, co, bo, cb, rfl, -⟩ := hv
  exact ⟨ao, co, bo, cb, rfl, hv', hb⟩
theorem rtcp_out {w : World} {a : Option Addr} {n c : Nat} {l : List Int} (hr : Row w a l) (hn : l.length = n) (hc : n ≤ c) (h7 : n ≤ 70000) {E : Int} {p : Sg} (hE : tcErr l = E) (hp : tcRes l = p) {no nb : Nat} (ho : p.opts.length = no) (hb : p.body.length = nb) :
    Calls Tryz.prog 34 #[.slice a n c] w fun r w' => ∃ ao co bo cb, r = .returned (.tuple #[.agg (tcB p ao no co bo nb cb), .int .i64 E]) ∧
      TcV w' w.heap.size (.agg (tcB p ao no co bo nb cb)) p ∧ Below w.heap.size w w' := by
  subst hE hp hb ho
  refine (rtcp_any hr hn hc h7).mono ?_
  rintro r w' ⟨v, rfl, hv, hb⟩
  have hv' := hv
  obtain ⟨ao, co, bo, cb, rfl, -⟩ := hv
  exact ⟨ao, co, bo, cb, rfl, hv', hb⟩

abbrev sgA (w : World) (c : Int) : Array Value := tcA 7 9 0 0 0 0 c 0 (.slice none 0 0) (.slice (some ⟨w.heap.size, 0, none⟩) 3 3)
theorem tcv_of {w W : World} {L : List (Nat × Obj)} (hM : Mem w W L) (hi : L[0]? = some (w.heap.size, .cells (bs [1, 2, 3]) 5 (0, 0))) (c : Int) : TcV W 0 (.agg (sgA w c)) ⟨7, 9, 0, 0, 0, 0, c, 0, [], [1, 2, 3]⟩ :=
  ⟨none, 0, some ⟨w.heap.size, 0, none⟩, 3, rfl, row_nil W, hM.own 0 hi b123 (by simp), fun _ => rfl, fun e => (by cases e), fun _ _ => Nat.zero_le _, fun _ _ => Nat.zero_le _⟩

end Go.Proofs.YtjalpbkfpjfigaaGreat
