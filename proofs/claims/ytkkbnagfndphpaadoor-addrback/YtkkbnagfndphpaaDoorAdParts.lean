/-
  The document's own parts of a text, between a sign.
-/
import Derived.Test.YtkkbnagfndphpaaDoorAdCutMath
import Derived.Test.YtkkbnagfndphpaaDoorAdNum
import Derived.Test.YtkkbnagfndphpaaDoorPuts
namespace Go.Proofs.YtkkbnagfndphpaaDoor
open Go.RowKit
open Ad
set_option linter.unusedVariables false

theorem info_str : (Tryd.prog.info? 9).map (fun i => (i.zero, i.size, i.bytes)) = some (some (.string ⟨#[]⟩), 1, 16) := by kernel_rfl
/-- One string put behind a row of strings of the call's own. -/
theorem wpList_append_str (w : World) {ops : Array Oper} {rest : List Oper} {o : Oper} {a : Act} {Q : Exit → Act → World → Prop} (hgd : o.guard = none)
    (s x : Operand) (ho : o.op = Op.call { callee := Callee.builtin Builtin.append, args := #[s, x], argTypes := #[52, 52] }) (base : Nat)
    (v : Value) (n : Nat) (xs : List Value) (hs : a.eval s = v) (hown : w.ownsRow base 9 1 v n xs) (ad : Addr) (c : Nat) (t : ByteArray)
    (hx : a.eval x = .slice (some ad) 1 c) (hc : w.cell? ad = some (.string t)) (hbd : n ≤ 100000) (hbase : base ≤ w.heap.size)
    (h : ∀ (v' : Value) (w' : World), w'.ownsRow base 9 1 v' (n + 1) (xs ++ [.string t]) → w.grownBy w' v.ownBlock → wpList Tryd.prog ops Q rest (a.put o.dst v') w') :
    wpList Tryd.prog ops Q (o :: rest) a w := by
  obtain ⟨i0, hi, hz0, hz1, hz2⟩ := info_parts info_str
  refine wpList_append_own w hgd s x 52 ho base 9 i0 (.string ⟨#[]⟩) 1 16 Tryd.underlying52 hi hz0 hz1 hz2 rfl (by decide) v n xs hs hown ad 1 c [.string t] hx (by simp) ?_ (by simp [Value.oneCell']) (by unfold maxLen; omega) (by omega) hbase ?_
  · intro j u hj
    match j, hj with
    | 0, hj =>
      simp at hj
      subst hj
      simpa [Addr.add] using hc
    | j + 1, hj => simp at hj
  · intro v' w' h1 h2 _
    exact h v' w' h1 h2
/-- The strings that a text's parts are. -/
def strs (l : List (List UInt8)) : List Value := l.map fun p => .string ⟨p.toArray⟩
theorem strs_len (l : List (List UInt8)) : (strs l).length = l.length := by simp [strs]
theorem own_str {w : World} {B : Nat} {v : Value} {n : Nat} {l : List (List UInt8)} (h : w.ownsRow B 9 1 v n (strs l)) (hn : 0 < n) :
    ∃ g cap, v = .slice (some ⟨g, 0, none⟩) n cap ∧ n ≤ cap ∧ ∀ (j : Nat) x, l[j]? = some x → w.cell? ⟨g, j, none⟩ = some (.string ⟨x.toArray⟩) := by
  have h0 := h
  rcases h.2 with ⟨rfl, e⟩ | ⟨g, cap, cur, rfl, hb, hg, hc, hm, hsz, hx⟩
  · omega
  · refine ⟨g, cap, rfl, by omega, fun j x hj => ?_⟩
    have := h0.cells (g := g) rfl j (.string ⟨x.toArray⟩) (by simp [strs, hj])
    by_cases e : j = 0
    · subst e; simpa [Addr.add] using this
    · simpa [Addr.add, e] using this
set_option maxHeartbeats 4000000 in
set_option maxRecDepth 20000 in
/-- The document's own parts, at every text and sign. -/
theorem rparts_any (s : ByteArray) (c : UInt8) (hs : s.size ≤ 1000) (w : World) :
    Calls Tryd.prog 27 #[.string s, .int .u8 (c.toNat : Int)] w fun e w' => ∃ g cap, e = .returned (.slice (some ⟨g, 0, none⟩) (cut c s.data.toList).length cap) ∧ (cut c s.data.toList).length ≤ cap ∧
      (∀ (j : Nat) x, (cut c s.data.toList)[j]? = some x → w'.cell? ⟨g, j, none⟩ = some (.string ⟨x.toArray⟩)) ∧ Below w.heap.size w w' := by
  obtain ⟨A, hA⟩ : ∃ A, cut c s.data.toList = A := ⟨_, rfl⟩
  have hApos : 0 < A.length := hA ▸ cut_pos c _
  have hAle : A.length ≤ s.size + 1 := by have := cut_len_le c s.data.toList; rw [hA, text_len] at this; exact this
  rw [hA]
  go_enter Tryd.func27, Tryd.ntmps27
  go_wp2_with fail
  go_loopw [5, 6, 7] (fun o fr ii w' => ∃ (i from_ : Nat) (done : List (List UInt8)), fr = .int .i64 from_ ∧ ii = .int .i64 i ∧ w'.ownsRow w.heap.size 9 1 o done.length (strs done) ∧ Below w.heap.size w w' ∧
    ((i ≤ s.size ∧ from_ ≤ i ∧ done ++ cut c (s.data.toList.drop from_) = A ∧ (∀ x ∈ (s.data.toList.drop from_).take (i - from_), x ≠ c) ∧ done.length ≤ from_) ∨ (i = s.size + 1 ∧ done = A))) (fun _ _ ii _ => s.size + 1 - (intOf ii).toNat)
  case atStart => exact ⟨0, 0, [], rfl, rfl, World.ownsRow_nil _ _ _ _, Below.refl _ _, Or.inl ⟨Nat.zero_le _, Nat.le_refl _, by simpa using hA, by simp, Nat.le_refl _⟩⟩
  case round =>
    obtain ⟨i, from_, done, rfl, rfl, hown, hbel, hrel⟩ := hrel
    have hbs := hbel.size
    rcases hrel with ⟨his, hfi, hcut, hfree, hdl⟩ | ⟨rfl, rfl⟩
    · have hle : (i : Int) ≤ s.size := by omega
      have e7 : IntKind.i64.wrap ((i : Int) + 1) = (i : Int) + 1 := wrap64 (by omega) (by omega)
      obtain ⟨P, hP⟩ : ∃ P, (s.data.toList.drop from_).take (i - from_) = P := ⟨_, rfl⟩
      have hsl : ∀ W, (Instr.slice 9 (.string s) (some (.int .i64 from_)) (some (.int .i64 i)) none).run Tryd.prog W = .ok (.string ⟨P.toArray⟩) W := by
        intro W
        rw [run_slice_string W 9 s .i64 .i64 from_ i Tryd.underlying9 (by omega) (by omega) hle]
        simp only [Int.toNat_natCast]
        rw [← hP, ← sub_text, Lib.mk_data]
      rw [hP] at hfree
      have hnext : ∀ (v' : Value) (w' : World), w'.ownsRow w.heap.size 9 1 v' (done.length + 1) (strs done ++ [.string ⟨P.toArray⟩]) → w'.ownsRow w.heap.size 9 1 v' (done ++ [P]).length (strs (done ++ [P])) := by
        intro v' w' h
        rw [List.length_append, strs, List.map_append]
        exact h
      have hg2 : ∀ w', (wr.alloc (.cells #[.string ⟨P.toArray⟩] 9 (0, 0))).grownBy w' u5.ownBlock → Below w.heap.size w w' := by
        intro w' h
        refine (hbel.alloc hbs _).grown h (by simp; omega) (fun k hk => (hown.lt k hk).1)
      by_cases hin : i < s.size
      · have hne : ((i : Int) == (s.size : Int)) = false := by simp; omega
        have hiz : (i : Int) < s.size := by omega
        have hdr := drop_cons s i hin
        have hix : ∀ W, (Instr.index 9 (.string s) (.int .i64 i)).run Tryd.prog W = .ok (.int .u8 ((s[i]'hin).toNat : Int)) W := by
          intro W
          rw [run_index_string W 9 s .i64 i Tryd.underlying9, dif_pos ⟨by omega, hiz⟩]
          simp
        have hpd : s.data.toList.drop from_ = P ++ (s[i]'hin) :: s.data.toList.drop (i + 1) := by
          rw [← hdr, ← hP]
          have := (List.take_append_drop (i - from_) (s.data.toList.drop from_)).symm
          rw [List.drop_drop, show from_ + (i - from_) = i by omega] at this
          exact this
        have hP1 : (s.data.toList.drop from_).take (i + 1 - from_) = P ++ [s[i]'hin] := by
          have hPl : P.length = i - from_ := by rw [← hP, List.length_take, List.length_drop, text_len]; omega
          rw [hpd, show i + 1 - from_ = (P ++ [s[i]'hin]).length by simp [hPl]; omega, show P ++ (s[i]'hin) :: s.data.toList.drop (i + 1) = (P ++ [s[i]'hin]) ++ s.data.toList.drop (i + 1) by simp, List.take_left]
        generalize s[i]'hin = b at hix hpd hP1
        by_cases hbc : b = c
        · have hbe : ((b.toNat : Int) == (c.toNat : Int)) = true := by simp [hbc]
          rw [hbc] at hpd
          have hcut2 : (done ++ [P]) ++ cut c (s.data.toList.drop (i + 1)) = A := by
            rw [← hcut, hpd, cut_at c _ hfree]; simp
          clear hbc hdr hpd hcut hP hfree hP1
          go_wp2_with (at_builtin; refine wpList_append_str _ rfl _ _ rfl w.heap.size u5 done.length (strs done) rfl (hown.alloc _) ⟨wr.heap.size, 0, none⟩ 1 ⟨P.toArray⟩ rfl (by simp) (by omega) (by simp; omega) ?_; intro v1 w1 h1 h2)
          go_roundw
          case rel => exact ⟨i + 1, i + 1, done ++ [P], rfl, rfl, hnext _ _ h1, hg2 _ h2, Or.inl ⟨by omega, Nat.le_refl _, hcut2, by simp, by simp; omega⟩⟩
          case measure => simp [intOf]; omega
        · have hbe : ((b.toNat : Int) == (c.toNat : Int)) = false := by
            simp only [beq_eq_false_iff_ne, ne_eq]
            intro e
            exact hbc (UInt8.toNat_inj.1 (by omega))
          have hfree2 : ∀ x ∈ (s.data.toList.drop from_).take (i + 1 - from_), x ≠ c := by
            rw [hP1]
            intro x hx
            rcases List.mem_append.1 hx with hx | hx
            · exact hfree x hx
            · rw [List.mem_singleton.1 hx]; exact hbc
          clear hdr hpd hP hP1 hbc
          go_wp2_with fail
          go_roundw
          case rel => exact ⟨i + 1, from_, done, rfl, rfl, hown, hbel, Or.inl ⟨by omega, by omega, hcut, hfree2, hdl⟩⟩
          case measure => simp [intOf]; omega
      · have heq : i = s.size := by omega
        have hne : ((i : Int) == (s.size : Int)) = true := by simp [heq]
        have hcut2 : done ++ [P] = A := by
          rw [← hcut]
          have : s.data.toList.drop from_ = P := by
            rw [← hP, List.take_of_length_le]
            rw [List.length_drop, text_len]; omega
          rw [this, cut_free c hfree]
        have hsl2 : ∀ W, (Instr.slice 9 (.string s) (some (.int .i64 from_)) (some (.int .i64 s.size)) none).run Tryd.prog W = .ok (.string ⟨P.toArray⟩) W := by
          intro W; rw [← heq]; exact hsl W
        clear hcut hP hfree
        subst heq
        go_wp2_with (at_builtin; refine wpList_append_str _ rfl _ _ rfl w.heap.size u5 done.length (strs done) rfl (hown.alloc _) ⟨wr.heap.size, 0, none⟩ 1 ⟨P.toArray⟩ rfl (by simp) (by omega) (by simp; omega) ?_; intro v1 w1 h1 h2)
        go_roundw
        case rel => exact ⟨s.size + 1, s.size + 1, done ++ [P], rfl, rfl, hnext _ _ h1, hg2 _ h2, Or.inr ⟨rfl, hcut2⟩⟩
        case measure => simp [intOf]
    · have hle : ¬ ((s.size : Int) + 1 ≤ s.size) := by omega
      go_wp2_with fail
      go_ret
      obtain ⟨g, cap, rfl, hc, hcells⟩ := own_str hown hApos
      exact ⟨g, cap, rfl, hc, hcells, hbel⟩
end Go.Proofs.YtkkbnagfndphpaaDoor
