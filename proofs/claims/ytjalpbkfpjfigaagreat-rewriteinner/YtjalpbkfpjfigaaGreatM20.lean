/-
  What rewrite.standsIn and rewrite.innerPoints answer.
  What ip.Bytes answers: putWord, putLong, and the packet's bytes.
  What tcp.Parse answers, whatever it is handed.
  What tcp.Bytes answers, whatever it is handed.
  What the statements' helps answer on packets: lychref1.Get32, Put32, lychhelp.Ip.
-/
import Derived.Test.YtjalpbkfpjfigaaGreatM17
import Derived.Test.YtjalpbkfpjfigaaGreatM12
import Derived.Test.YtjalpbkfpjfigaaGreatM15
import Derived.Test.YtjalpbkfpjfigaaGreatM18
import Derived.Test.YtjalpbkfpjfigaaGreatM16
import Derived.Test.YtjalpbkfpjfigaaGreatM08
namespace Go.Proofs.YtjalpbkfpjfigaaGreat
open Go.RowKit
open Sm
set_option linter.unusedVariables false
set_option maxRecDepth 20000

namespace Sm
theorem inOk_no {l : List Int} (h : ¬ (20 ≤ l.length ∧ l.getD 0 0 / 16 = 4 ∧ 20 ≤ hdl l ∧ hdl l + 8 ≤ l.length)) : inOk l = false := by
  unfold inOk inHead; rw [decide_eq_false h]; rfl
theorem inOk_yes {l : List Int} (h : 20 ≤ l.length ∧ l.getD 0 0 / 16 = 4 ∧ 20 ≤ hdl l ∧ hdl l + 8 ≤ l.length) : inOk l = inKind l := by
  unfold inOk inHead; rw [decide_eq_true h]; rfl
/-- What stands behind the header, as a message. -/
theorem drop_getD (l : List Int) (h j : Nat) : (l.drop h).getD j 0 = l.getD (h + j) 0 := by simp [List.getD]
theorem inner_msg {l : List Int} (h8 : hdl l + 8 ≤ l.length) (h1 : l.getD 9 0 = 1) : mgErr (l.drop (hdl l)) = 0 ∧ mecho (mgRes (l.drop (hdl l))) = inKind l := by
  have e : mgErr (l.drop (hdl l)) = 0 := by unfold mgErr; rw [if_neg (by simp; omega)]
  refine ⟨e, ?_⟩
  unfold mgRes
  rw [if_pos e]
  unfold mecho mgMg inKind
  simp only [drop_getD, h1, Nat.add_zero]
  simp
end Sm

set_option maxHeartbeats 1000000 in
theorem stands_few (w : World) (a : Option Addr) (n c : Nat) (h : n < 20) :
    Calls Tryz.prog 112 #[.slice a n c] w fun e w' => e = .returned (.bool false) ∧ w = w' := by
  have h' : (n : Int) < 20 := by omega
  clear h
  go_enter Tryz.func112, Tryz.ntmps112
  go_wp2_with fail
  go_ret
  exact ⟨rfl, rfl⟩

set_option maxHeartbeats 2000000 in
theorem stands_any {w : World} {a : Option Addr} {n c : Nat} {l : List Int} (hr : Row w a l) (hn : l.length = n) (hc : n ≤ c) :
    Calls Tryz.prog 112 #[.slice a n c] w fun e w' => e = .returned (.bool (inOk l)) ∧ Below w.heap.size w w' := by
  by_cases h20 : n < 20
  · rw [inOk_no (by omega)]
    refine (stands_few w a n c h20).mono ?_
    rintro e w' ⟨rfl, rfl⟩
    exact ⟨rfl, Below.refl _ _⟩
  obtain ⟨b, off, rfl, -⟩ : ∃ b off, a = some ⟨b, off, none⟩ ∧ ∀ i, i < l.length → w.cell? ⟨b, off + i, none⟩ = some (.int .u8 (l.getD i 0)) := by
    rcases hr.cells with e | e
    · subst e; simp at hn; omega
    · exact e
  have hn0 := hr.len
  have c0 : w.cell? ⟨b, off, none⟩ = some (.int .u8 (l.getD 0 0)) := hr.cellAt 0 (by omega)
  have c9 : w.cell? ⟨b, off + 9, none⟩ = some (.int .u8 (l.getD 9 0)) := hr.cellAt 9 (by omega)
  have r := hr.bytes 0
  have hcall := xhead_any (c := c) hr hn (by omega)
  have hh := hdl_le hr.bytes
  have i0' : (0 : Int) < n := by omega
  have i0 : 0 < n := by omega
  have i9' : (9 : Int) < n := by omega
  have i9 : 9 < n := by omega
  have i20 : ¬ (n : Int) < 20 := by omega
  have v8 := wrap64_small (((hdl l : Nat) : Int) + 8) (by omega) (by omega)
  have hN : (n : Int) ≤ 140737488351232 := by omega
  by_cases hv : l.getD 0 0 / 16 = 4
  · by_cases hH : 20 ≤ hdl l ∧ hdl l + 8 ≤ n
    · have HK : Hid (inOk l = inKind l) := inOk_yes ⟨by omega, hv, hH.1, by omega⟩
      have g1 : ¬ ((hdl l : Nat) : Int) < 20 := by omega
      have g2 : ¬ (n : Int) < ((hdl l : Nat) : Int) + 8 := by omega
      by_cases h17 : l.getD 9 0 = 17
      · have HV : Hid (inKind l = true) := by show _ = _; unfold inKind; rw [decide_eq_true (Or.inl h17)]; rfl
        rw [h17] at c9
        clear hr hn0 hc hh hH h17 h20
        generalize ((hdl l : Nat) : Int) = H at *
        generalize l.getD 0 0 = x0 at *
        go_enter Tryz.func112, Tryz.ntmps112
        go_wp2_with fail
        refine hcall.mono ?_
        rintro e w' ⟨rfl, rfl⟩
        go_wp2_with fail
        go_ret
        exact ⟨by rw [HK.out, HV.out] <;> rfl, Below.refl _ _⟩
      by_cases h6 : l.getD 9 0 = 6
      · have HV : Hid (inKind l = true) := by show _ = _; unfold inKind; rw [decide_eq_true (Or.inr h6)]; rfl
        rw [h6] at c9
        clear hr hn0 hc hh hH h6 h17 h20
        generalize ((hdl l : Nat) : Int) = H at *
        generalize l.getD 0 0 = x0 at *
        go_enter Tryz.func112, Tryz.ntmps112
        go_wp2_with fail
        refine hcall.mono ?_
        rintro e w' ⟨rfl, rfl⟩
        go_wp2_with fail
        go_ret
        exact ⟨by rw [HK.out, HV.out] <;> rfl, Below.refl _ _⟩
      by_cases h1 : l.getD 9 0 = 1
      · obtain ⟨q1, q2⟩ := inner_msg (l := l) (by omega) h1
        have hp := hr.part (hdl l) (n - hdl l) (by omega)
        rw [List.take_of_length_le (by simp; omega)] at hp
        have hP := mparse_any hp (n := n - hdl l) (c := c - hdl l) (by simp; omega) (by omega)
        have HV : Hid (inKind l = mecho (mgRes (l.drop (hdl l)))) := q2.symm
        rw [q1] at hP
        rw [h1] at c9
        have hT : ((hdl l : Nat) : Int).toNat = hdl l := by omega
        have g3 : (0 : Int) ≤ ((hdl l : Nat) : Int) := by omega
        have g4 : ((hdl l : Nat) : Int) ≤ (n : Int) := by omega
        have g5 : ((hdl l : Nat) : Int) ≤ (c : Int) := by omega
        have g6 : (n : Int) ≤ c := by omega
        have g7 : ¬ c = hdl l := by omega
        have g8 : ¬ (hdl l : Nat) = c := by omega
        clear hr hn0 hc hh hH h6 h17 h20 h1 q1 q2 hp
        generalize mgRes (l.drop (hdl l)) = m at *
        generalize l.drop (hdl l) = l2 at *
        generalize hHN : ((hdl l : Nat) : Int) = H at *
        generalize hdl l = hd at *
        have HHN : Hid _ := hHN
        generalize l.getD 0 0 = x0 at *
        clear hHN
        go_enter Tryz.func112, Tryz.ntmps112
        go_wp2_with fail
        refine hcall.mono ?_
        rintro e w' ⟨rfl, rfl⟩
        go_wp2_with fail
        refine hP.mono ?_
        rintro e w1 ⟨v, rfl, hv1, hb1⟩
        obtain ⟨bo, cb, rfl, hrest⟩ := hv1
        have hv1 : MgV w1 w.heap.size (.agg (mgB m bo m.body.length cb)) m := ⟨bo, cb, rfl, hrest⟩
        clear hrest
        go_upto_region 12 with fail
        refine wp_letter (fun W => Mem w W [(w1.heap.size, .cells (mgB m bo m.body.length cb) mgT)] ∧ MgV W 0 (.agg (mgB m bo m.body.length cb)) m) ⟨((Mem.nil w).after hb1).push w1.heap.size _ rfl, mgv_box (hv1.mono (Nat.zero_le _)) _⟩ ?_
        intro w2 ⟨hM2, hv2⟩
        have kc : ∀ i, w2.cell? ⟨w1.heap.size, i, none⟩ = (mgB m bo m.body.length cb)[i]? := hM2.cell 0 rfl
        have hE := mecho_any hv2
        have HM : Hid _ := hM2
        clear hM2 hv2 hv1 hb1 hP hcall c0 c9
        generalize w1.heap.size = P at *
        generalize m.body.length = lb at *
        generalize mecho m = R at *
        go_wp2_with fail
        refine hE.mono ?_
        rintro e w3 ⟨rfl, hb3⟩
        have HB : Hid _ := (HM.out.after hb3).below
        clear hb3 HM kc hE
        go_wp2_with fail
        go_ret
        exact ⟨by rw [HK.out, HV.out] <;> rfl, HB.out⟩
      · have HV : Hid (inKind l = false) := by show _ = _; unfold inKind; rw [decide_eq_false (fun h => h.elim h17 h6), decide_eq_false h1]; rfl
        clear hr hn0 hc hh hH h20
        generalize ((hdl l : Nat) : Int) = H at *
        generalize l.getD 0 0 = x0 at *
        generalize l.getD 9 0 = x9 at *
        go_enter Tryz.func112, Tryz.ntmps112
        go_wp2_with fail
        refine hcall.mono ?_
        rintro e w' ⟨rfl, rfl⟩
        go_wp2_with fail
        go_ret
        exact ⟨by rw [HK.out, HV.out] <;> rfl, Below.refl _ _⟩
    · have HK : Hid (inOk l = false) := inOk_no (fun h => hH ⟨h.2.2.1, by omega⟩)
      have hH' : ((hdl l : Nat) : Int) < 20 ∨ (¬ ((hdl l : Nat) : Int) < 20 ∧ (n : Int) < ((hdl l : Nat) : Int) + 8) := by omega
      clear hr hn0 hc hh h20 hH c9
      generalize ((hdl l : Nat) : Int) = H at *
      generalize l.getD 0 0 = x0 at *
      rcases hH' with g1 | ⟨g1, g2⟩
      all_goals
        go_enter Tryz.func112, Tryz.ntmps112
        go_wp2_with fail
        refine hcall.mono ?_
        rintro e w' ⟨rfl, rfl⟩
        go_wp2_with fail
        go_ret
        exact ⟨by rw [HK.out] <;> rfl, Below.refl _ _⟩
  · have HK : Hid (inOk l = false) := inOk_no (fun h => hv h.2.1)
    clear hr hn0 hc hh h20 hcall c9
    generalize l.getD 0 0 = x0 at *
    go_enter Tryz.func112, Tryz.ntmps112
    go_wp2_with fail
    go_ret
    exact ⟨by rw [HK.out] <;> rfl, Below.refl _ _⟩
end Go.Proofs.YtjalpbkfpjfigaaGreat

namespace Go.Proofs.YtjalpbkfpjfigaaGreat
open Go.RowKit
open Sm
set_option linter.unusedVariables false
set_option maxRecDepth 20000

set_option maxHeartbeats 1000000 in
theorem putWord_ok {W : World} {g j : Nat} (z0 z1 : Int) (k0 : W.cell? ⟨g, j, none⟩ = some (.int .u8 z0)) (k1 : W.cell? ⟨g, j + 1, none⟩ = some (.int .u8 z1)) (kf : ∀ i, W.frozen? ⟨g, i, none⟩ = false) (n c : Nat) (hn : 2 ≤ n) (x : Int) (r0 : 0 ≤ x) (r1 : x ≤ 65535) :
    Calls Tryz.prog 63 #[.slice (some ⟨g, j, none⟩) n c, .int .u16 x] W fun e w' => e = .returned (.tuple #[]) ∧ w' = (W.setCell ⟨g, j, none⟩ (.int .u8 (x / 256))).setCell ⟨g, j + 1, none⟩ (.int .u8 (x % 256)) := by
  have u1 : IntKind.u8.wrap (x / 256) = x / 256 := wrap8_small _ (by omega) (by omega)
  have u2 : IntKind.u8.wrap x = x % 256 := by simp [IntKind.wrap, IntKind.bits, IntKind.signed]
  have n0 : 0 < n := by omega
  have n1 : (1 : Int) < n := by omega
  clear hn
  go_enter Tryz.func63, Tryz.ntmps63
  go_wp2
  go_end0
  exact ⟨rfl, rfl⟩

theorem putWord_at {w W : World} {L : List (Nat × Obj)} (hM : Mem w W L) (i : Nat) {g N : Nat} {xs : List (Nat × Int)} (hi : L[i]? = some (g, .cells (bs (blz N xs)) 5 (0, 0))) (j : Nat) (hj : j + 1 < N) (n c : Nat) (hn : 2 ≤ n) (x : Int) (r0 : 0 ≤ x) (r1 : x ≤ 65535) :
    Calls Tryz.prog 63 #[.slice (some ⟨g, j, none⟩) n c, .int .u16 x] W fun e w' => e = .returned (.tuple #[]) ∧ Mem w w' (L.set i (g, .cells (bs (blz N (xs ++ [(j, x / 256), (j + 1, x % 256)]))) 5 (0, 0))) := by
  obtain ⟨z0, k0⟩ := hM.spot i hi j (by omega)
  obtain ⟨z1, k1⟩ := hM.spot i hi (j + 1) (by omega)
  refine (putWord_ok z0 z1 k0 k1 (hM.free i hi) n c hn x r0 r1).mono ?_
  rintro e w' ⟨rfl, rfl⟩
  refine ⟨rfl, ?_⟩
  have h1 := hM.put i hi j (x / 256)
  have hil := (List.getElem?_eq_some_iff.mp hi).1
  have h2 := h1.put i (by rw [List.getElem?_set_self hil]) (j + 1) (x % 256)
  rw [List.set_set, List.append_assoc] at h2
  exact h2

theorem putLong_at {w W : World} {L : List (Nat × Obj)} (hM : Mem w W L) (i : Nat) {g N : Nat} {xs : List (Nat × Int)} (hi : L[i]? = some (g, .cells (bs (blz N xs)) 5 (0, 0))) (j : Nat) (hj : j + 3 < N) (n c : Nat) (hn : 4 ≤ n) (hc : n ≤ c) (x : Int) (r0 : 0 ≤ x) (r1 : x ≤ 4294967295) :
    Calls Tryz.prog 64 #[.slice (some ⟨g, j, none⟩) n c, .int .u32 x] W fun e w' => e = .returned (.tuple #[]) ∧ Mem w w' (L.set i (g, .cells (bs (blz N (xs ++ [(j, x / 16777216), (j + 1, x / 65536 % 256), (j + 2, x / 256 % 256), (j + 3, x % 256)]))) 5 (0, 0))) := by
  have u1 : IntKind.u16.wrap (x / 65536) = x / 65536 := wrap16_small _ (by omega) (by omega)
  have u2 : IntKind.u16.wrap x = x % 65536 := by simp [IntKind.wrap, IntKind.bits, IntKind.signed]
  have hil := (List.getElem?_eq_some_iff.mp hi).1
  have p1 := putWord_at hM i hi j (by omega) n c (by omega) (x / 65536) (by omega) (by omega)
  have n1 : (2 : Int) ≤ n := by omega
  have n2 : (2 : Int) ≤ c := by omega
  have n3 : ¬ c = 2 := by omega
  have n4 : ¬ 2 = c := by omega
  have n5 : (2 : Int) < c := by omega
  have HN : Hid (j + 3 < N ∧ 4 ≤ n) := ⟨hj, hn⟩
  have HI : Hid (i < L.length) := hil
  clear hj hn hc hil hM hi
  go_enter Tryz.func64, Tryz.ntmps64
  go_wp2_with fail
  refine p1.mono ?_
  rintro e w1 ⟨rfl, hM1⟩
  have p2 := putWord_at hM1 i (List.getElem?_set_self HI.out) (j + 2) (by have := HN.out; omega) (n - 2) (c - 2) (by have := HN.out; omega) (x % 65536) (by omega) (by omega)
  rw [List.set_set, List.append_assoc] at p2
  clear hM1 p1
  go_wp2_with fail
  refine p2.mono ?_
  rintro e w2 ⟨rfl, hM2⟩
  go_wp2
  go_end0
  refine ⟨rfl, ?_⟩
  rw [show x / 65536 / 256 = x / 16777216 by omega, show x % 65536 / 256 = x / 256 % 256 by omega, show x % 65536 % 256 = x % 256 by omega] at hM2
  exact hM2
end Go.Proofs.YtjalpbkfpjfigaaGreat

namespace Go.Proofs.YtjalpbkfpjfigaaGreat
open Go.RowKit
open Sm
set_option linter.unusedVariables false

theorem tc_e20 {l : List Int} (h : l.length < 20) : tcErr l = 20 ∧ tcRes l = Sg.zero := by
  have e : tcErr l = 20 := by unfold tcErr; rw [if_pos h]
  exact ⟨e, if_neg (by omega)⟩
theorem tc_e21 {l : List Int} (h : ¬ l.length < 20) (h2 : thd l < 20) : tcErr l = 21 ∧ tcRes l = Sg.zero := by
  have e : tcErr l = 21 := by unfold tcErr; rw [if_neg h, if_pos h2]
  exact ⟨e, if_neg (by omega)⟩
theorem tc_e20b {l : List Int} (h : ¬ l.length < 20) (h2 : ¬ thd l < 20) (h3 : l.length < thd l) : tcErr l = 20 ∧ tcRes l = Sg.zero := by
  have e : tcErr l = 20 := by unfold tcErr; rw [if_neg h, if_neg h2, if_pos h3]
  exact ⟨e, if_neg (by omega)⟩
theorem tc_e0 {l : List Int} (h : ¬ l.length < 20) (h2 : ¬ thd l < 20) (h3 : ¬ l.length < thd l) : tcErr l = 0 ∧ tcRes l = tcSg l := by
  have e : tcErr l = 0 := by unfold tcErr; rw [if_neg h, if_neg h2, if_neg h3]
  exact ⟨e, if_pos e⟩

/-- What tcp.Parse answers, whatever it is handed. -/
theorem tparse_any {w : World} {a : Option Addr} {n c : Nat} {l : List Int} (hr : Row w a l) (hn : l.length = n) (hc : n ≤ c) :
    Calls Tryz.prog 77 #[.slice a n c] w fun r w' => ∃ v, r = .returned (.tuple #[v, .int .i64 (tcErr l)]) ∧ TcV w' w.heap.size v (tcRes l) ∧ Below w.heap.size w w' := by
  subst hn
  by_cases h1 : l.length < 20
  · rw [(tc_e20 h1).1, (tc_e20 h1).2]
    refine (tparse_short a _ c w h1).mono ?_
    rintro r w' ⟨rfl, hb⟩
    exact ⟨_, rfl, tcv_zero _ _, hb⟩
  rcases hr.cells with e0 | ⟨b, off, rfl, -⟩
  · rw [e0] at h1; simp at h1
  have r12 := hr.bytes 12
  have hlen := hr.len
  obtain ⟨k, hk⟩ : ∃ k : Nat, l.getD 12 0 / 16 = k := ⟨(l.getD 12 0 / 16).toNat, by omega⟩
  have ht : thd l = 4 * k := by unfold thd; omega
  obtain ⟨x, hx⟩ : ∃ x : Nat, l.getD 12 0 = x := ⟨(l.getD 12 0).toNat, by omega⟩
  have c12 : w.cell? ⟨b, off + 12, none⟩ = some (.int .u8 x) := by rw [← hx]; exact hr.cellAt 12 (by omega)
  by_cases h2 : thd l < 20
  · rw [(tc_e21 h1 h2).1, (tc_e21 h1 h2).2]
    refine (tparse_no x k c12 (by omega) (by omega) (by omega) hlen 21 (Or.inl ⟨by omega, rfl⟩)).mono ?_
    rintro r w' ⟨rfl, hb⟩
    exact ⟨_, rfl, tcv_zero _ _, hb⟩
  by_cases h3 : l.length < thd l
  · rw [(tc_e20b h1 h2 h3).1, (tc_e20b h1 h2 h3).2]
    refine (tparse_no x k c12 (by omega) (by omega) (by omega) hlen 20 (Or.inr ⟨by omega, by omega, rfl⟩)).mono ?_
    rintro r w' ⟨rfl, hb⟩
    exact ⟨_, rfl, tcv_zero _ _, hb⟩
  rw [(tc_e0 h1 h2 h3).1, (tc_e0 h1 h2 h3).2]
  by_cases ho : thd l = 20
  · by_cases hm : l.length = thd l
    · have h20 : l.length = 20 := by omega
      rw [h20] at hc ⊢
      exact tparse_okD hr h20 hc k hk (by omega) (tcSg l) rfl rfl rfl rfl rfl rfl rfl rfl (by simp [tcSg, ho]) (by simp [tcSg, hm])
    · exact tparse_okB (m := l.length - 20) hr rfl hc k hk (by omega) (by omega) (by omega) (tcSg l) rfl rfl rfl rfl rfl rfl rfl rfl (by simp [tcSg, ho]) (by simp only [tcSg, ho])
  · by_cases hm : l.length = thd l
    · exact tparse_okC (o := l.length - 20) hr rfl hc k hk (by omega) (by omega) (by omega) (tcSg l) rfl rfl rfl rfl rfl rfl rfl rfl (by simp only [tcSg, hm]) (by simp [tcSg, hm])
    · exact tparse_okA (K := thd l) (o := thd l - 20) (m := l.length - thd l) hr rfl hc k hk ht (by omega) (by omega) (by omega) (by omega) (tcSg l) rfl rfl rfl rfl rfl rfl rfl rfl rfl rfl
end Go.Proofs.YtjalpbkfpjfigaaGreat

namespace Go.Proofs.YtjalpbkfpjfigaaGreat
open Go.RowKit
open Sm
set_option linter.unusedVariables false

set_option maxHeartbeats 1000000 in
theorem tbytes_form (w : World) (o co : Nat) (ao : Option Addr) (v : Value) (h : o % 4 ≠ 0 ∨ 40 < o) (hl : o ≤ 9223372036854775807) (s d sq ak fl wi c ur : Int) :
    Calls Tryz.prog 61 #[.agg (tcA s d sq ak fl wi c ur (.slice ao o co) v)] w fun e w' => e = .returned (.tuple #[.slice none 0 0, .int .i64 21]) ∧ Below w.heap.size w w' := by
  by_cases h4 : o % 4 = 0
  · have o4 : (o : Int) % 4 = 0 := by omega
    have o40 : (40 : Int) < o := by omega
    clear h
    go_enter Tryz.func61, Tryz.ntmps61
    go_wp2
    go_ret2
    exact ⟨rfl, (Below.refl _ _).alloc (Nat.le_refl _) _⟩
  · have o4 : ¬ (o : Int) % 4 = 0 := by omega
    have o4' : ((o : Int) % 4 == 0) = false := by simp; omega
    clear h
    go_enter Tryz.func61, Tryz.ntmps61
    go_wp2
    go_ret2
    exact ⟨rfl, (Below.refl _ _).alloc (Nat.le_refl _) _⟩

set_option maxHeartbeats 1000000 in
theorem tbytes_big (w : World) (o co m cb : Nat) (ao bo : Option Addr) (h4 : o % 4 = 0) (h40 : o ≤ 40) (h : 65515 < 20 + o + m) (s d sq ak fl wi c ur : Int) :
    Calls Tryz.prog 61 #[.agg (tcA s d sq ak fl wi c ur (.slice ao o co) (.slice bo m cb))] w fun e w' => e = .returned (.tuple #[.slice none 0 0, .int .i64 23]) ∧ Below w.heap.size w w' := by
  have o4 : (o : Int) % 4 = 0 := by omega
  have o40 : (o : Int) ≤ 40 := by omega
  obtain ⟨hd, hh⟩ : ∃ hd : Nat, hd = 20 + o := ⟨_, rfl⟩
  have eh : 20 + (o : Int) = hd := by omega
  have mb : 65515 - (hd : Int) < m := by omega
  have hdb : (hd : Int) ≤ 60 := by omega
  clear h4 h40 h hh
  go_enter Tryz.func61, Tryz.ntmps61
  go_wp2
  go_ret2
  exact ⟨rfl, (Below.refl _ _).alloc (Nat.le_refl _) _⟩

/-- What tcp.Bytes answers, whatever it is handed. -/
theorem tbytes_any {w : World} {B : Nat} {v : Value} {q : Sg} (hq : q.Ok) (hv : TcV w B v q) :
    Calls Tryz.prog 61 #[v] w fun r w' => ∃ x, r = .returned (.tuple #[x, .int .i64 (tcbErr q)]) ∧ w'.ownsRow w.heap.size 5 1 x (tcOut q).length ((tcOut q).map (Value.int .u8)) ∧ Below w.heap.size w w' := by
  obtain ⟨ao, co, bo, cb, rfl, hro, hrb, -, -, -, -⟩ := hv
  have l1 := hro.len
  by_cases h1 : q.opts.length % 4 ≠ 0 ∨ 40 < q.opts.length
  · have e : tcbErr q = 21 := by unfold tcbErr; rw [if_pos h1]
    have e2 : tcOut q = [] := by unfold tcOut; rw [e]; rfl
    rw [e, e2]
    refine (tbytes_form w _ co ao _ h1 (by omega) _ _ _ _ _ _ _ _).mono ?_
    rintro r w' ⟨rfl, hb⟩
    exact ⟨_, rfl, World.ownsRow_nil _ _ _ _, hb⟩
  by_cases h2 : 65515 < 20 + q.opts.length + q.body.length
  · have e : tcbErr q = 23 := by unfold tcbErr; rw [if_neg h1, if_pos h2]
    have e2 : tcOut q = [] := by unfold tcOut; rw [e]; rfl
    rw [e, e2]
    refine (tbytes_big w _ co _ cb ao bo (by omega) (by omega) h2 _ _ _ _ _ _ _ _).mono ?_
    rintro r w' ⟨rfl, hb⟩
    exact ⟨_, rfl, World.ownsRow_nil _ _ _ _, hb⟩
  · have e : tcbErr q = 0 := by unfold tcbErr; rw [if_neg h1, if_neg h2]
    have e2 : tcOut q = tcb q := if_pos e
    rw [e, e2, tcb_len]
    refine (tbytes_ok hro hrb _ co _ cb (tlen q) (20 + q.opts.length) rfl rfl (by omega) (by omega) rfl rfl (by unfold tlen; omega) q.src q.dst q.seq q.ack q.flags q.win q.sum q.urg hq.src hq.dst hq.seq hq.ack hq.flags hq.win hq.sum hq.urg).mono ?_
    rintro r w' ⟨rfl, ho, hb⟩
    exact ⟨_, rfl, ho, hb⟩
end Go.Proofs.YtjalpbkfpjfigaaGreat

namespace Go.Proofs.YtjalpbkfpjfigaaGreat
open Go.RowKit
open Sm
set_option linter.unusedVariables false
set_option maxRecDepth 20000

set_option maxHeartbeats 2000000 in
theorem hip_yes {w : World} {B C : Nat} {v u : Value} {p : Pk} (hv : IpV w B v p) (hu : IpV w C u p) :
    Calls Tryz.prog 17 #[v, u] w fun e w' => e = .returned (.bool true) ∧ Below w.heap.size w w' := by
  obtain ⟨ao, co, bo, cb, rfl, h1, h2, -⟩ := hv
  obtain ⟨ao', co', bo', cb', rfl, h1', h2', -⟩ := hu
  obtain ⟨tos, ttl, proto, id, flags, off, src, dst, opts, body⟩ := p
  simp only at h1 h2 h1' h2' ⊢
  have hM : ∀ x y, Mem w ((w.alloc (.cells x ipT)).alloc (.cells y ipT)) [(w.heap.size, .cells x ipT), (w.heap.size + 1, .cells y ipT)] := fun x y => ((Mem.nil w).push w.heap.size _ rfl).push (w.heap.size + 1) _ (by simp)
  have HB : Hid (∀ x y, Below w.heap.size w ((w.alloc (.cells x ipT)).alloc (.cells y ipT))) := fun x y => (hM x y).below
  have k1 := fun x y => hbytes_yes ((hM x y).row h1) ((hM x y).row h1') opts.length opts.length rfl rfl co co'
  have k2 := fun x y => hbytes_yes ((hM x y).row h2) ((hM x y).row h2') body.length body.length rfl rfl cb cb'
  generalize opts.length = no at *
  generalize body.length = nb at *
  clear h1 h2 h1' h2' hM
  go_enter Tryz.func17, Tryz.ntmps17
  go_wp2_with fail
  refine (k1 _ _).mono ?_
  rintro e w' ⟨rfl, rfl⟩
  go_wp2_with fail
  refine (k2 _ _).mono ?_
  rintro e w' ⟨rfl, rfl⟩
  go_wp2
  go_ret
  exact ⟨rfl, HB.out _ _⟩
end Go.Proofs.YtjalpbkfpjfigaaGreat

