/-
  The walk of lychlaw1.SumOdd where there are at most 2000 bytes: it answers true.
-/
import Derived.Test.YtlgkmoggdcjijaaZeros
import Derived.Test.YtlgkmoggdcjijaaParts
namespace Go.Proofs.Ytlgkmoggdcjijaa
open Go.RowKit
open Sm
set_option linter.unusedVariables false

namespace Sm
theorem getD_zeros (l : List Int) (m i : Nat) : (l ++ List.replicate m 0).getD i 0 = l.getD i 0 := by
  rw [getD_append]
  split
  · rfl
  · rename_i h
    have e1 : l.getD i 0 = 0 := by simp [List.getD, List.getElem?_eq_none (Nat.le_of_not_lt h)]
    rw [e1]
    simp only [List.getD, List.getElem?_replicate]
    split <;> rfl
theorem bytes_zeros {l : List Int} (h : IsBytes l) (m : Nat) : IsBytes (l ++ List.replicate m 0) := by
  intro i; rw [getD_zeros]; exact h i
theorem wd_zeros (l : List Int) (m i : Nat) : wd (l ++ List.replicate m 0) i = wd l i := by
  unfold wd; rw [getD_zeros, getD_zeros]
theorem ofv_zeros (l : List Int) (m : Nat) : ofv (l ++ List.replicate m 0) = ofv l := by
  unfold ofv
  rw [tot_same (m := l) _ (fun i _ => wd_zeros l m i)]
  have e : cnt (l ++ List.replicate m 0).length = cnt l.length + (cnt (l.length + m) - cnt l.length) := by
    rw [List.length_append, List.length_replicate]; unfold cnt; omega
  rw [e, tot_beyond l _ _ (by unfold cnt; omega)]
theorem acc_zeros (l : List Int) (s : Int) : acc (l ++ List.replicate (l.length % 2) 0) s (cnt (l ++ List.replicate (l.length % 2) 0).length) = acc l s (cnt l.length) := by
  rw [acc_same (m := l) s _ (fun i _ => wd_zeros l _ i)]
  have e : cnt (l ++ List.replicate (l.length % 2) 0).length = cnt l.length := by
    rw [List.length_append, List.length_replicate]; unfold cnt; omega
  rw [e]
end Sm

namespace sumOdd
set_option maxHeartbeats 1000000 in
theorem core {w : World} {a : Option Addr} {l : List Int} {len0 : Nat} (h : Row w a l) (hlen : l.length = len0) (hhi : len0 ≤ 2000) (cap : Nat) (hca : a = none → cap = 0) (n : Int) (n0 : 0 ≤ n) (n1 : n ≤ 255) :
    Calls Try.prog 8 #[.slice a len0 cap, .int .u8 n] w fun e w' => e = .returned (.bool true) ∧ Below w.heap.size w w' := by
  have hk := known_any w
  have hby := h.bytes
  subst hlen
  have HA : Hid (a = none → cap = 0) := hca
  obtain ⟨m, hm⟩ : ∃ m : Nat, n % 9 = m := ⟨(n % 9).toNat, (Int.toNat_of_nonneg (by omega)).symm⟩
  have hm9 : m ≤ 9 := by omega
  clear hca
  go_enter Try.func8, Try.ntmps8
  go_wp2_with fail
  refine hk.mono ?_
  rintro e w1 ⟨rfl, hbel⟩
  have h1 := h.below hbel (Nat.le_refl _)
  go_wp2_with (first
    | (at_builtin; refine wpList_append_bytesG w1 rfl (.const (.slice none 0 0)) (.tmp 11) rfl w1.heap.size (.slice none 0 0) 0 [] rfl (World.ownsRow_nil _ _ _ _) a cap l rfl HA.out h1 (by omega) (Nat.le_refl _) ?_; intro v2 w2 hown2 hgrow2; rw [Nat.zero_add, List.nil_append] at hown2; have hbel2 := (Below.refl w1.heap.size w1).grown hgrow2 (Nat.le_refl _) (fun k hk => by cases hk))
    | (at_builtin; refine wpList_append_zeros w2 rfl (.tmp 12) (.tmp 15) rfl w1.heap.size v2 l.length (l.map (Value.int .u8)) rfl hown2 _ m rfl (by omega) (by omega) hbel2.size ?_; intro v3 w3 hown3 hgrow3))
  have hbel3 := hbel2.grown hgrow3 hbel2.size (own_block_ge hown2)
  have em : ∀ k : Nat, l.map (Value.int .u8) ++ List.replicate k (Value.int .u8 0) = (l ++ List.replicate k 0).map (Value.int .u8) := fun k => by simp
  rw [em m] at hown3
  obtain ⟨ao, cp, rfl, hrow3⟩ := own_row (by simp) hown3 (bytes_zeros hby m) (by simp; omega)
  have h3 := h1.below hbel3 (Nat.le_refl _)
  have c1 := of_any hrow3 cp
  rw [ofv_zeros] at c1
  refine c1.mono ?_
  rintro e w' ⟨rfl, rfl⟩
  clear hown2 hown3 hgrow2 hgrow3 hbel2 c1 hrow3 h1 hm
  go_wp2_with fail
  refine (of_any h3 cap).mono ?_
  rintro e w' ⟨rfl, rfl⟩
  obtain ⟨m2, hm2⟩ : ∃ m2 : Nat, m2 = l.length % 2 := ⟨_, rfl⟩
  have hm2' : m2 ≤ 1 := by omega
  have HM : Hid (m2 = l.length % 2) := hm2
  have hmi : (l.length : Int) % 2 = (m2 : Int) := by omega
  clear hm2
  go_wp2_with (first
    | (at_builtin; refine wpList_append_bytesG w3 rfl (.const (.slice none 0 0)) (.tmp 23) rfl w3.heap.size (.slice none 0 0) 0 [] rfl (World.ownsRow_nil _ _ _ _) a cap l rfl HA.out h3 (by omega) (Nat.le_refl _) ?_; intro v4 w4 hown4 hgrow4; rw [Nat.zero_add, List.nil_append] at hown4; have hbel4 := (Below.refl w3.heap.size w3).grown hgrow4 (Nat.le_refl _) (fun k hk => by cases hk))
    | (at_builtin; refine wpList_append_zeros w4 rfl (.tmp 24) (.tmp 27) rfl w3.heap.size v4 l.length (l.map (Value.int .u8)) rfl hown4 _ m2 rfl (by omega) (by omega) hbel4.size ?_; intro v5 w5 hown5 hgrow5))
  have hbel5 := hbel4.grown hgrow5 hbel4.size (own_block_ge hown4)
  rw [em m2] at hown5
  obtain ⟨ao5, cp5, rfl, hrow5⟩ := own_row (by simp) hown5 (bytes_zeros hby m2) (by simp; omega)
  have h5 := h3.below hbel5 (Nat.le_refl _)
  have ra := acc_range hby 7 (by omega) (by omega) (cnt l.length)
  have c2 := add_any hrow5 cp5 7 (by omega) (by omega)
  rw [HM.out, acc_zeros, ← HM.out] at c2
  refine c2.mono ?_
  rintro e w' ⟨rfl, rfl⟩
  have hb5 : Below w.heap.size w w5 := hbel.trans ((hbel3.trans (hbel5.mono hbel3.size)).mono hbel.size)
  clear hown4 hown5 hgrow4 hgrow5 hbel4 c2 hrow5 h3 hbel hbel3 hbel5 em hmi HM
  go_wp2_with fail
  refine (add_any h5 cap 7 (by omega) (by omega)).mono ?_
  rintro e w' ⟨rfl, rfl⟩
  go_wp2_with fail
  refine (words_any h5 cap).mono ?_
  rintro e w6 ⟨rfl, _, hbel6⟩
  have hb6 : Below w.heap.size w w6 := hb5.trans (hbel6.mono hb5.size)
  have hc := cnt_cast l.length
  have hq : ((cnt l.length : Nat) : Int) = ((l.length : Int) + 1) / 2 := by omega
  clear hc hb5 hbel6 h5
  go_wp2_with fail
  go_ret
  exact ⟨rfl, hb6⟩
end sumOdd
end Go.Proofs.Ytlgkmoggdcjijaa
