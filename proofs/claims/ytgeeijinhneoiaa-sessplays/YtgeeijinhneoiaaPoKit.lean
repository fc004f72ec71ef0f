/-
  Lists of structs in blocks of their own: grown, read; marks (a protocol, an address, a port), and where one stands.
-/
import Derived.Test.YtgeeijinhneoiaaCfTen
namespace Go.Proofs.Ytgeeijinhneoiaa
open Go.RowKit
open Sm
set_option linter.unusedVariables false
set_option linter.unusedSimpArgs false
set_option maxRecDepth 20000

namespace Po
/-- A list of n elements of sz cells each (xs in all) in blocks B. -/
def SlB (T : TypeId) (sz : Nat) (v : Value) (n : Nat) (xs : List Value) (B : List (Nat × Obj)) : Prop :=
  xs.length = n * sz ∧ ((v = .slice none 0 0 ∧ n = 0 ∧ B = []) ∨ ∃ g cap cur, v = .slice (some ⟨g, 0, none⟩) n cap ∧ B = [(g, .cells cur T (0, 0))] ∧ n ≤ cap ∧ cap ≤ maxLen ∧ cap * sz ≤ cur.size ∧ cur.toList.take (n * sz) = xs)
theorem SlB.nil (T : TypeId) (sz : Nat) : SlB T sz (.slice none 0 0) 0 [] [] := ⟨by simp, Or.inl ⟨rfl, rfl, rfl⟩⟩
theorem SlB.slice {T : TypeId} {sz n : Nat} {v : Value} {xs : List Value} {B : List (Nat × Obj)} (h : SlB T sz v n xs B) : ∃ a c, v = .slice a n c ∧ n ≤ c ∧ c ≤ 9223372036854775807 := by
  rcases h.2 with ⟨rfl, rfl, -⟩ | ⟨g, cap, cur, rfl, -, h1, h2, -⟩
  · exact ⟨_, _, rfl, Nat.le_refl _, by omega⟩
  · exact ⟨_, _, rfl, h1, by simpa [maxLen] using h2⟩
theorem flat_at {α : Type} {sz : Nat} : ∀ (xs : List (List α)) (i j : Nat) (u : α), (∀ x ∈ xs, x.length = sz) → (xs.getD i [])[j]? = some u → xs.flatten[i * sz + j]? = some u
  | [], i, j, u, _, h => by simp [List.getD] at h
  | x :: xs, 0, j, u, hx, h => by
    rw [Nat.zero_mul, Nat.zero_add, List.flatten_cons]
    have h' : x[j]? = some u := h
    obtain ⟨hj, -⟩ := List.getElem?_eq_some_iff.mp h'
    rw [List.getElem?_append_left hj]; exact h'
  | x :: xs, i + 1, j, u, hx, h => by
    have h' : (xs.getD i [])[j]? = some u := by simpa [List.getD] using h
    have e := hx x (List.mem_cons_self ..)
    rw [List.flatten_cons, List.getElem?_append_right (by rw [e, Nat.succ_mul]; omega), show (i + 1) * sz + j - x.length = i * sz + j by rw [e, Nat.succ_mul]; omega]
    exact flat_at xs i j u (fun y hy => hx y (List.mem_cons_of_mem _ hy)) h'
theorem SlB.rw {w V : World} {T : TypeId} {sz : Nat} {v : Value} {xs : List (List Value)} {B L : List (Nat × Obj)} (hx : ∀ x ∈ xs, x.length = sz) (h : SlB T sz v xs.length xs.flatten B) (hM : Mem w V (B ++ L)) : Rw V sz v xs := by
  rcases h.2 with ⟨rfl, e, rfl⟩ | ⟨g, cap, cur, rfl, rfl, h1, h2, h3, h4⟩
  · have : xs = [] := List.eq_nil_of_length_eq_zero e
    subst this
    exact ⟨none, 0, rfl, Nat.le_refl _, by omega, fun _ => rfl, Or.inl rfl⟩
  · refine ⟨some ⟨g, 0, none⟩, cap, rfl, h1, by simpa [maxLen] using h2, nofun, Or.inr ⟨g, 0, rfl, fun i hi j u hj => ?_⟩⟩
    have h5 := flat_at xs i j u hx hj
    rw [← h4] at h5
    rw [hM.cell 0 rfl, Nat.zero_add]
    rw [List.getElem?_take] at h5
    split at h5
    · rw [← Array.getElem?_toList]; exact h5
    · cases h5
/-- m elements more, from wherever they lie. -/
theorem slb_append {w V : World} {B L : List (Nat × Obj)} {t e ty : TypeId} {sz bytes n : Nat} {z v : Value} {xs : List Value} (ht : Try.prog.underlying t = some (.slice e)) (hi : (Try.prog.info? e).map (fun i => (i.zero, i.size, i.bytes)) = some (some z, sz, bytes)) (hzs : z.cells.size = sz) (hsz : 0 < sz)
    (hB : SlB e sz v n xs B) (hM : Mem w V (B ++ L)) (ad : Addr) (m c : Nat) (news : List Value) (hl : news.length = m * sz) (hnews : ∀ j u, news[j]? = some u → V.cell? (ad.add j) = some u) (h1 : ∀ u ∈ news, u.oneCell' = true) (h63 : n + m ≤ maxLen) (hb : (n + m) * bytes ≤ 140737488355328) :
    ∃ v' V' B', (Builtin.append_ #[t, t] ty #[v, .slice (some ad) m c]).run Try.prog V = .ok v' V' ∧ Mem w V' (B' ++ L) ∧ SlB e sz v' (n + m) (xs ++ news) B' := by
  obtain ⟨i, hI, hz, hs1, hby⟩ := info_parts hi
  clear hi
  have hi := hI
  subst hs1
  subst hby
  have hsmall : n + m ≤ 9223372036854775807 := by simp only [maxLen] at h63; omega
  obtain ⟨hx, hB⟩ := hB
  have hlen : (xs ++ news).length = (n + m) * i.size := by rw [List.length_append, hx, hl, Nat.add_mul]
  have grown : ∀ (old : Nat), Mem w V L → ∃ B', Mem w (V.drew.alloc (.cells (xs.toArray ++ news.toArray ++ Builtin.zeroCells z.cells (grownCap V (n + m) old e - (n + m))) e)) (B' ++ L) ∧
      SlB e i.size (.slice (some ⟨V.heap.size, 0, none⟩) (n + m) (grownCap V (n + m) old e)) (n + m) (xs ++ news) B' := by
    intro old hL
    have hge := grownCap_ge V (n + m) old e
    have hcm : grownCap V (n + m) old e ≤ maxLen := grownCap_le_maxLen V (n + m) old e h63
    refine ⟨[(V.heap.size, _)], (hL.drew.push V.heap.size _ rfl).perm List.perm_append_comm, hlen, .inr ⟨V.heap.size, _, _, rfl, rfl, hge, hcm, ?_, ?_⟩⟩
    · simp only [Array.size_append, List.size_toArray, size_zeroCells, hzs, hx, hl, ← Nat.add_mul]
      exact Nat.mul_le_mul_right _ (by omega)
    · simp only [Array.toList_append, List.append_assoc]
      rw [← List.append_assoc, ← hlen]
      exact List.take_left
  rcases hB with ⟨rfl, rfl, rfl⟩ | ⟨g, cap, cur, rfl, rfl, hnc, hcm, hcs, htake⟩
  · have hx : xs = [] := List.eq_nil_of_length_eq_zero (by simpa using hx)
    subst hx
    by_cases hm : m = 0
    · subst hm
      have hn : news = [] := List.eq_nil_of_length_eq_zero (by simpa using hl)
      subst hn
      refine ⟨.slice none 0 0, V, [], ?_, hM, SlB.nil _ _⟩
      simp [Builtin.append_, run_underlying ht, sizeOf, typeInfo, hi, Builtin.lenOf, Builtin.firstCells, loadCells, loadCellsFrom]
    · have hr := run_append_nil (P := Try.prog) V t ty e i z ht hi hz ad m c news hl hnews (by omega) (by omega) (by have hb := hb; simp only [Nat.zero_add] at hb; omega)
      obtain ⟨B', k1, k2⟩ := grown 0 hM
      simp only [Nat.zero_add, List.nil_append, Array.empty_append] at k1 k2 ⊢
      exact ⟨_, _, B', hr, k1, k2⟩
  · have hg := hM.get 0 rfl
    by_cases hroom : n + m ≤ cap
    · have hfit : n * i.size + news.length ≤ cur.size := by
        rw [hl, ← Nat.add_mul]
        exact Nat.le_trans (Nat.mul_le_mul_right _ hroom) hcs
      have hr := run_append_room (P := Try.prog) V t ty e i ht hi g n cap cur hg ad m c news hl hnews h1 hroom hfit
      refine ⟨_, _, [(g, _)], hr, hM.wrote 0 rfl (wrote_setRow V g cur _ e hg), hlen, .inr ⟨g, cap, _, rfl, rfl, hroom, hcm, ?_, ?_⟩⟩
      · simp only [List.size_toArray, List.length_append, List.length_take, List.length_drop, Array.length_toList]
        omega
      · rw [htake, ← hlen]
        exact List.take_left
    · have holds : ∀ j u, xs[j]? = some u → V.cell? ((⟨g, 0, none⟩ : Addr).add j) = some u := by
        intro j u hj
        rw [Addr.add_mid, Nat.zero_add, hM.cell 0 rfl]
        rw [← htake, List.getElem?_take] at hj
        split at hj
        · rw [← Array.getElem?_toList]; exact hj
        · cases hj
      have hr := run_append_grow (P := Try.prog) V t ty e i z ht hi hz ⟨g, 0, none⟩ n cap xs hx holds ad m c news hl hnews (by omega) (by omega) (growslice_fits (by omega) hb)
      obtain ⟨B', k1, k2⟩ := grown cap hM.sub
      exact ⟨_, _, B', hr, k1, k2⟩

/-- An append as one step of a region that draws its order. -/
theorem step_app {ops : Array Oper} {o : Oper} {a : Act} {W : World} {K : Act → World → Prop} {Q : Exit → Act → World → Prop} {E : Prop} (hgd : o.guard = none)
    (s x : Operand) (t tn : TypeId) (ho : o.op = .call { callee := .builtin .append, args := #[s, x], argTypes := #[t, tn] }) {vs vx : Value} (hs : a.eval s = vs) (hx : a.eval x = vx)
    {v' : Value} {w' : World} {ty : TypeId} (hr : (Builtin.append_ #[t, tn] ty #[vs, vx]).run Try.prog W = .ok v' w') (hty : o.type = ty) (h : K (a.put o.dst v') w') :
    if Region.wanted o (yielded ops a.tmps) = true then Oper.wp Try.prog o a W K Q else E := by
  have hw : Region.wanted o (yielded ops a.tmps) = true := by simp [Region.wanted, hgd]
  rw [if_pos hw]
  subst hty
  exact wp_append_out s x t tn ho hs hx hr h

/-! ### marks -/
abbrev Mk := Int × Int × Int
def mc (m : Mk) : List Value := [.int .u8 m.1, .int .u32 m.2.1, .int .u16 m.2.2]
def mx (l : List Mk) : List (List Value) := l.map mc
theorem mx_len {l : List Mk} : ∀ x ∈ mx l, x.length = 3 := by
  intro x hx
  obtain ⟨y, -, rfl⟩ := List.mem_map.1 hx
  rfl
theorem mx_ne {l : List Mk} : ∀ x ∈ mx l, x ≠ [] := by
  intro x hx
  obtain ⟨y, -, rfl⟩ := List.mem_map.1 hx
  simp [mc]
/-- Where a mark stands, counted from i; less one: nowhere. -/
def fnd (m : Mk) : List Mk → Nat → Int
  | [], _ => -1
  | x :: xs, i => if x = m then (i : Int) else fnd m xs (i + 1)
theorem fnd_ge {m : Mk} : ∀ (l : List Mk) (i : Nat), fnd m l i = -1 ∨ (i : Int) ≤ fnd m l i
  | [], i => Or.inl rfl
  | x :: xs, i => by
    unfold fnd
    split
    · exact Or.inr (Int.le_refl _)
    · rcases fnd_ge xs (i + 1) with h | h
      · exact Or.inl h
      · exact Or.inr (by omega)
theorem fnd_mem {m : Mk} : ∀ (l : List Mk) (i : Nat), decide (0 ≤ fnd m l i) = decide (m ∈ l)
  | [], i => by simp [fnd]
  | x :: xs, i => by
    unfold fnd
    by_cases h : x = m
    · subst h
      simp
    · rw [if_neg h, fnd_mem xs (i + 1)]
      have : m ≠ x := fun e => h e.symm
      simp [this]
theorem fnd_erase {m : Mk} : ∀ (l : List Mk) (i : Nat), 0 ≤ fnd m l i → (fnd m l i - i).toNat < l.length ∧ l.take (fnd m l i - i).toNat ++ l.drop ((fnd m l i - i).toNat + 1) = l.erase m
  | [], i, h => by simp [fnd] at h
  | x :: xs, i, h => by
    unfold fnd at h ⊢
    by_cases e : x = m
    · subst e
      simp
    · rw [if_neg e] at h ⊢
      obtain ⟨h1, h2⟩ := fnd_erase xs (i + 1) h
      have h3 : (i : Int) + 1 ≤ fnd m xs (i + 1) := by
        rcases fnd_ge (m := m) xs (i + 1) with h' | h'
        · omega
        · simpa using h'
      have e2 : (fnd m xs (i + 1) - i).toNat = (fnd m xs (i + 1) - ((i + 1 : Nat) : Int)).toNat + 1 := by omega
      rw [e2]
      refine ⟨by rw [List.length_cons]; omega, ?_⟩
      rw [List.take_succ_cons, List.drop_succ_cons, List.cons_append, h2, List.erase_cons_tail (by simpa using e)]
end Po
end Go.Proofs.Ytgeeijinhneoiaa
