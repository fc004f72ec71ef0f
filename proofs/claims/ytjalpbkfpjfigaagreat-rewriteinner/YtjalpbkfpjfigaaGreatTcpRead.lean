/-
  What tcp.Parse answers, whatever it is handed.
-/
import Derived.Test.YtjalpbkfpjfigaaGreatTcpParseA
import Derived.Test.YtjalpbkfpjfigaaGreatTcpParseB
import Derived.Test.YtjalpbkfpjfigaaGreatTcpParseC
import Derived.Test.YtjalpbkfpjfigaaGreatTcpParseD
namespace Go.Proofs.YtjalpbkfpjfigaaGreat
open Go.RowKit
open Sm
set_option linter.unusedVariables false

theorem tc_e20 {l : List Int} (h : l.length < 20) : tcErr l = 20 ∧ tcRes l = Sg.zero := by
  have e : tcErr l = 20 := by unfold tcErr; rw [if_pos h]
  exact ⟨e, if_neg (by omega)⟩
theorem tc_e21 {l : List Int} (h : ¬ l.length < 20) (h2 : thd l < 20) : tcErr l = 21 ∧ tcRes l = Sg.zero := by
  have e : tcErr l = 21 := by unfold tcErr; rw [if_neg h, if_pos h2]
  exact ⟨e, if_neg (by omega)⟩
theorem tc_e20b {l : List Int} (h : ¬ l.length < 20) (h2 : ¬ thd l < 20) (h3 : l.length < thd l) : tcErr l = 20 ∧ tcRes l = Sg.zero := by
  have e : tcErr l = 20 := by unfold tcErr; rw [if_neg h, if_neg h2, if_pos h3]
  exact ⟨e, if_neg (by omega)⟩
theorem tc_e0 {l : List Int} (h : ¬ l.length < 20) (h2 : ¬ thd l < 20) (h3 : ¬ l.length < thd l) : tcErr l = 0 ∧ tcRes l = tcSg l := by
  have e : tcErr l = 0 := by unfold tcErr; rw [if_neg h, if_neg h2, if_neg h3]
  exact ⟨e, if_pos e⟩

/-- What tcp.Parse answers, whatever it is handed. -/
theorem tparse_any {w : World} {a : Option Addr} {n c : Nat} {l : List Int} (hr : Row w a l) (hn : l.length = n) (hc : n ≤ c) :
    Calls Tryz.prog 77 #[.slice a n c] w fun r w' => ∃ v, r = .returned (.tuple #[v, .int .i64 (tcErr l)]) ∧ TcV w' w.heap.size v (tcRes l) ∧ Below w.heap.size w w' := by
  subst hn
  by_cases h1 : l.length < 20
  · rw [(tc_e20 h1).1, (tc_e20 h1).2]
    refine (tparse_short a _ c w h1).mono ?_
    rintro r w' ⟨rfl, hb⟩
    exact ⟨_, rfl, tcv_zero _ _, hb⟩
  rcases hr.cells with e0 | ⟨b, off, rfl, -⟩
  · rw [e0] at h1; simp at h1
  have r12 := hr.bytes 12
  have hlen := hr.len
  obtain ⟨k, hk⟩ : ∃ k : Nat, l.getD 12 0 / 16 = k := ⟨(l.getD 12 0 / 16).toNat, by omega⟩
  have ht : thd l = 4 * k := by unfold thd; omega
  obtain ⟨x, hx⟩ : ∃ x : Nat, l.getD 12 0 = x := ⟨(l.getD 12 0).toNat, by omega⟩
  have c12 : w.cell? ⟨b, off + 12, none⟩ = some (.int .u8 x) := by rw [← hx]; exact hr.cellAt 12 (by omega)
  by_cases h2 : thd l < 20
  · rw [(tc_e21 h1 h2).1, (tc_e21 h1 h2).2]
    refine (tparse_no x k c12 (by omega) (by omega) (by omega) hlen 21 (Or.inl ⟨by omega, rfl⟩)).mono ?_
    rintro r w' ⟨rfl, hb⟩
    exact ⟨_, rfl, tcv_zero _ _, hb⟩
  by_cases h3 : l.length < thd l
  · rw [(tc_e20b h1 h2 h3).1, (tc_e20b h1 h2 h3).2]
    refine (tparse_no x k c12 (by omega) (by omega) (by omega) hlen 20 (Or.inr ⟨by omega, by omega, rfl⟩)).mono ?_
    rintro r w' ⟨rfl, hb⟩
    exact ⟨_, rfl, tcv_zero _ _, hb⟩
  rw [(tc_e0 h1 h2 h3).1, (tc_e0 h1 h2 h3).2]
  by_cases ho : thd l = 20
  · by_cases hm : l.length = thd l
    · have h20 : l.length = 20 := by omega
      rw [h20] at hc ⊢
      exact tparse_okD hr h20 hc k hk (by omega) (tcSg l) rfl rfl rfl rfl rfl rfl rfl rfl (by simp [tcSg, ho]) (by simp [tcSg, hm])
    · exact tparse_okB (m := l.length - 20) hr rfl hc k hk (by omega) (by omega) (by omega) (tcSg l) rfl rfl rfl rfl rfl rfl rfl rfl (by simp [tcSg, ho]) (by simp only [tcSg, ho])
  · by_cases hm : l.length = thd l
    · exact tparse_okC (o := l.length - 20) hr rfl hc k hk (by omega) (by omega) (by omega) (tcSg l) rfl rfl rfl rfl rfl rfl rfl rfl (by simp only [tcSg, hm]) (by simp [tcSg, hm])
    · exact tparse_okA (K := thd l) (o := thd l - 20) (m := l.length - thd l) hr rfl hc k hk ht (by omega) (by omega) (by omega) (by omega) (tcSg l) rfl rfl rfl rfl rfl rfl rfl rfl rfl rfl
end Go.Proofs.YtjalpbkfpjfigaaGreat
