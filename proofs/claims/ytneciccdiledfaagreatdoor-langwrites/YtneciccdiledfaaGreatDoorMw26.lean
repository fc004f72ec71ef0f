/-
  Settings held against one another: lychhelp.Tenant, at any two tenants.
  Settings held against one another: lychhelp.Tenant, at any two tenants.
  Settings held against one another: lychhelp.Tenant, at any two tenants.
  Settings as text: how great what is read may become: no more than the text has words.
  Settings as text: the text of settings, and that it is read back.
  Settings as bytes: the fields of settings, each as the program makes it.
  Settings as bytes: the document's own reader: tenant.
  Settings as bytes: the program's OpenChange, at all bytes.
-/
import Derived.Test.YtneciccdiledfaaGreatDoorMw24
import Derived.Test.YtneciccdiledfaaGreatDoorMw23
import Derived.Test.YtneciccdiledfaaGreatDoorMw21
import Derived.Test.YtneciccdiledfaaGreatDoorMw22
namespace Go.Proofs.YtneciccdiledfaaGreatDoor
open Go.RowKit
open Sm
open Cf
set_option linter.unusedVariables false
set_option maxRecDepth 20000

end Go.Proofs.YtneciccdiledfaaGreatDoor

namespace Go.Proofs.YtneciccdiledfaaGreatDoor
open Go.RowKit
open Sm
open Cf
set_option linter.unusedVariables false
set_option maxRecDepth 20000

end Go.Proofs.YtneciccdiledfaaGreatDoor

namespace Go.Proofs.YtneciccdiledfaaGreatDoor
open Go.RowKit
open Sm
open Cf
set_option linter.unusedVariables false
set_option maxRecDepth 20000

set_option maxHeartbeats 8000000 in
theorem ht_16 {w : World} {vn a b c d f g x y vt a1 b1 c1 d1 f1 g1 a2 b2 c2 d2 f2 g2 lo hi fi se qu ra bu vn' a' b' c' d' f' g' x' y' vt' a1' b1' c1' d1' f1' g1' a2' b2' c2' d2' f2' g2' lo' hi' fi' se' qu' ra' bu' : Int} {n n' : ByteArray} {po po' : List Int} {st tw st' tw' : List (Int × Int)} {pa sa qa pa' sa' qa' : Option Addr} {pn pc sn sc qn qc pn' pc' sn' sc' qn' qc' : Nat}
    (h0 : (sb n = sb n'))
    (h1 : (vn = vn'))
    (h2 : ([a, b, c, d, f, g, x, y] = [a', b', c', d', f', g', x', y']))
    (h3 : (vt = vt'))
    (h4 : ([a1, b1, c1, d1, f1, g1] = [a1', b1', c1', d1', f1', g1']))
    (h5 : ([a2, b2, c2, d2, f2, g2] = [a2', b2', c2', d2', f2', g2']))
    (h6 : (po = po'))
    (h7 : (lo = lo'))
    (h8 : (hi = hi'))
    (h9 : (fi = fi'))
    (h10 : (st = st'))
    (h11 : (tw = tw'))
    (h12 : (se = se'))
    (h13 : (qu = qu'))
    (h14 : (ra = ra'))
    (h15 : (bu = bu'))
    (CN : ∀ V, Below w.heap.size w V → Calls Tryz.prog 90 #[.slice pa pn pc, .slice pa' pn' pc'] V fun e V' => e = .returned (.bool (decide (po = po'))) ∧ ∃ q, V' = V.drewN q)
    (CP : ∀ V, Below w.heap.size w V → Calls Tryz.prog 91 #[.slice sa sn sc, .slice sa' sn' sc'] V fun e V' => e = .returned (.bool (decide (st = st'))) ∧ ∃ q, V' = V.drewN q)
    (CQ : ∀ V, Below w.heap.size w V → Calls Tryz.prog 91 #[.slice qa qn qc, .slice qa' qn' qc'] V fun e V' => e = .returned (.bool (decide (tw = tw'))) ∧ ∃ q, V' = V.drewN q)
    : Calls Tryz.prog 57 #[.agg #[.string n, .int .u32 vn, .int .u8 a, .int .u8 b, .int .u8 c, .int .u8 d, .int .u8 f, .int .u8 g, .int .u8 x, .int .u8 y, .int .u32 vt, .int .u8 a1, .int .u8 b1, .int .u8 c1, .int .u8 d1, .int .u8 f1, .int .u8 g1, .int .u8 a2, .int .u8 b2, .int .u8 c2, .int .u8 d2, .int .u8 f2, .int .u8 g2, .slice pa pn pc, .int .u16 lo, .int .u16 hi, .int .i64 fi, .slice sa sn sc, .slice qa qn qc, .int .i64 se, .int .i64 qu, .int .u32 ra, .int .u32 bu], .agg #[.string n', .int .u32 vn', .int .u8 a', .int .u8 b', .int .u8 c', .int .u8 d', .int .u8 f', .int .u8 g', .int .u8 x', .int .u8 y', .int .u32 vt', .int .u8 a1', .int .u8 b1', .int .u8 c1', .int .u8 d1', .int .u8 f1', .int .u8 g1', .int .u8 a2', .int .u8 b2', .int .u8 c2', .int .u8 d2', .int .u8 f2', .int .u8 g2', .slice pa' pn' pc', .int .u16 lo', .int .u16 hi', .int .i64 fi', .slice sa' sn' sc', .slice qa' qn' qc', .int .i64 se', .int .i64 qu', .int .u32 ra', .int .u32 bu']] w fun e w' => e = .returned (.bool true) ∧ Below w.heap.size w w' := by
  have e0 : (n.toList == n'.toList) = true := by rw [text_same]; exact decide_eq_true h0
  have e1 : (vn == vn') = true := by simpa using h1
  have e2 : ∀ V, (Op.equalIn 10000 26 (.agg #[.int .u8 a, .int .u8 b, .int .u8 c, .int .u8 d, .int .u8 f, .int .u8 g, .int .u8 x, .int .u8 y]) (.agg #[.int .u8 a', .int .u8 b', .int .u8 c', .int .u8 d', .int .u8 f', .int .u8 g', .int .u8 x', .int .u8 y'])).run Tryz.prog V = .ok true V := fun V => by rw [key_eq]; rw [decide_eq_true h2]
  have e3 : (vt == vt') = true := by simpa using h3
  have e4 : ∀ V, (Op.equalIn 10000 25 (.agg #[.int .u8 a1, .int .u8 b1, .int .u8 c1, .int .u8 d1, .int .u8 f1, .int .u8 g1]) (.agg #[.int .u8 a1', .int .u8 b1', .int .u8 c1', .int .u8 d1', .int .u8 f1', .int .u8 g1'])).run Tryz.prog V = .ok true V := fun V => by rw [mac_eq6]; rw [decide_eq_true h4]
  have e5 : ∀ V, (Op.equalIn 10000 25 (.agg #[.int .u8 a2, .int .u8 b2, .int .u8 c2, .int .u8 d2, .int .u8 f2, .int .u8 g2]) (.agg #[.int .u8 a2', .int .u8 b2', .int .u8 c2', .int .u8 d2', .int .u8 f2', .int .u8 g2'])).run Tryz.prog V = .ok true V := fun V => by rw [mac_eq6]; rw [decide_eq_true h5]
  have e6 : decide (po = po') = true := decide_eq_true h6
  have e7 : (lo == lo') = true := by simpa using h7
  have e8 : (hi == hi') = true := by simpa using h8
  have e9 : (fi == fi') = true := by simpa using h9
  have e10 : decide (st = st') = true := decide_eq_true h10
  have e11 : decide (tw = tw') = true := decide_eq_true h11
  have e12 : (se == se') = true := by simpa using h12
  have e13 : (qu == qu') = true := by simpa using h13
  have e14 : (ra == ra') = true := by simpa using h14
  have e15 : (bu == bu') = true := by simpa using h15
  clear h0 h1 h2 h3 h4 h5 h6 h7 h8 h9 h10 h11 h12 h13 h14 h15
  obtain ⟨W0, hW0⟩ : ∃ W0, W0 = (w.alloc (.cells #[.string n, .int .u32 vn, .int .u8 a, .int .u8 b, .int .u8 c, .int .u8 d, .int .u8 f, .int .u8 g, .int .u8 x, .int .u8 y, .int .u32 vt, .int .u8 a1, .int .u8 b1, .int .u8 c1, .int .u8 d1, .int .u8 f1, .int .u8 g1, .int .u8 a2, .int .u8 b2, .int .u8 c2, .int .u8 d2, .int .u8 f2, .int .u8 g2, .slice pa pn pc, .int .u16 lo, .int .u16 hi, .int .i64 fi, .slice sa sn sc, .slice qa qn qc, .int .i64 se, .int .i64 qu, .int .u32 ra, .int .u32 bu] 45)).alloc (.cells #[.string n', .int .u32 vn', .int .u8 a', .int .u8 b', .int .u8 c', .int .u8 d', .int .u8 f', .int .u8 g', .int .u8 x', .int .u8 y', .int .u32 vt', .int .u8 a1', .int .u8 b1', .int .u8 c1', .int .u8 d1', .int .u8 f1', .int .u8 g1', .int .u8 a2', .int .u8 b2', .int .u8 c2', .int .u8 d2', .int .u8 f2', .int .u8 g2', .slice pa' pn' pc', .int .u16 lo', .int .u16 hi', .int .i64 fi', .slice sa' sn' sc', .slice qa' qn' qc', .int .i64 se', .int .i64 qu', .int .u32 ra', .int .u32 bu'] 45) := ⟨_, rfl⟩
  have hB : Below w.heap.size w W0 := by rw [hW0]; exact ((Below.refl _ _).alloc (Nat.le_refl _) _).alloc (by simp) _
  have HB : Hid (∀ q, Below w.heap.size w (W0.drewN q)) := fun q => Go.below_drewN hB q
  clear hB
  rw [e6] at CN
  rw [e10] at CP
  rw [e11] at CQ
  have HN : Hid (∀ V, Below w.heap.size w V → Calls Tryz.prog 90 #[.slice pa pn pc, .slice pa' pn' pc'] V fun e V' => e = .returned (.bool true) ∧ ∃ q, V' = V.drewN q) := CN
  have HP : Hid (∀ V, Below w.heap.size w V → Calls Tryz.prog 91 #[.slice sa sn sc, .slice sa' sn' sc'] V fun e V' => e = .returned (.bool true) ∧ ∃ q, V' = V.drewN q) := CP
  have HQ : Hid (∀ V, Below w.heap.size w V → Calls Tryz.prog 91 #[.slice qa qn qc, .slice qa' qn' qc'] V fun e V' => e = .returned (.bool true) ∧ ∃ q, V' = V.drewN q) := CQ
  clear CN CP CQ
  clear e6
  clear e10
  clear e11
  go_enter Tryz.func57, Tryz.ntmps57
  go_wp2_with fail
  refine (HN.out _ (by rw [← hW0]; exact HB.out 0)).mono ?_
  rintro e V ⟨rfl, q1, rfl⟩
  go_wp2_with fail
  refine (HP.out _ (by rw [← hW0]; exact HB.out _)).mono ?_
  rintro e V ⟨rfl, q2, rfl⟩
  go_wp2_with fail
  refine (HQ.out _ (by rw [← hW0]; exact HB.out _)).mono ?_
  rintro e V ⟨rfl, q3, rfl⟩
  go_wp2_with fail
  go_ret
  refine ⟨rfl, ?_⟩
  rw [← hW0]
  exact HB.out _
end Go.Proofs.YtneciccdiledfaaGreatDoor

namespace Go.Proofs.YtneciccdiledfaaGreatDoor
open Go.RowKit
open Ad
set_option linter.unusedVariables false
set_option linter.unusedSimpArgs false
set_option maxRecDepth 20000
namespace La
def tot (ls : List (List Wd × Nat)) : Nat := (ls.map fun l => l.1.length).sum
theorem tot_nil : tot [] = 0 := rfl
theorem tot_cons (l : List Wd × Nat) (r : List (List Wd × Nat)) : tot (l :: r) = l.1.length + tot r := by simp [tot]
theorem tot_app (a b : List (List Wd × Nat)) : tot (a ++ b) = tot a + tot b := by simp [tot]
def nc (cur : Option Nat) : Nat := match cur with
  | none => 0
  | some _ => 1
theorem ended_nc (s : ByteArray) (ws : List Wd) (cur : Option Nat) (p : Nat) : (ended s ws cur p).length = ws.length + nc cur := by
  cases cur <;> simp [ended, nc]
theorem lined_tot (ws : List Wd) (p : Nat) : tot (lined ws p) = ws.length := by
  unfold lined
  by_cases h : ws = []
  · rw [if_pos h, h]; rfl
  · rw [if_neg h, tot_cons, tot_nil]; rfl
theorem scan_tot (s : ByteArray) : ∀ (l : List UInt8) (p : Nat) (ws : List Wd) (cur : Option Nat) (m : Bool), tot (scan s l p ws cur m) ≤ ws.length + nc cur + l.length
  | [], p, ws, cur, m => by rw [scan_nil, lined_tot, ended_nc]; simp
  | b :: r, p, ws, cur, m => by
    have ih := scan_tot s r (p + 1)
    by_cases h1 : b = 10
    · subst h1
      rw [scan_feed, tot_app, lined_tot, ended_nc]
      have := ih [] none false
      simp only [nc, List.length_nil] at this
      simp only [List.length_cons]; omega
    · cases m with
      | true =>
        rw [scan_mute _ _ _ _ _ h1]
        have := ih ws cur true
        simp only [List.length_cons]; omega
      | false =>
        by_cases h2 : b = 32
        · subst h2
          rw [scan_blank]
          have := ih (ended s ws cur p) none false
          rw [ended_nc] at this
          simp only [nc, List.length_cons] at this ⊢; omega
        · by_cases h3 : b = 35
          · subst h3
            rw [scan_hash]
            have := ih (ended s ws cur p) none true
            rw [ended_nc] at this
            simp only [nc, List.length_cons] at this ⊢; omega
          · rw [scan_word _ _ _ _ _ h1 h2 h3]
            have := ih ws (some (cur.getD p)) false
            simp only [nc, List.length_cons] at this ⊢; omega
theorem lns_tot (s : ByteArray) : tot (lns s) ≤ s.size := by
  have := scan_tot s s.data.toList 0 [] none false
  rw [text_len] at this
  simpa [nc, lns] using this
theorem scan_ne (s : ByteArray) : ∀ (l : List UInt8) (p : Nat) (ws : List Wd) (cur : Option Nat) (m : Bool), ∀ x ∈ scan s l p ws cur m, x.1 ≠ []
  | [], p, ws, cur, m, x, hx => by
    rw [scan_nil] at hx
    unfold lined at hx
    split at hx
    · simp at hx
    · simp only [List.mem_singleton] at hx; subst hx; assumption
  | b :: r, p, ws, cur, m, x, hx => by
    have ih := scan_ne s r (p + 1)
    rw [scan] at hx
    split at hx
    · rcases List.mem_append.1 hx with hx | hx
      · unfold lined at hx
        split at hx
        · simp at hx
        · simp only [List.mem_singleton] at hx; subst hx; assumption
      · exact ih _ _ _ x hx
    · split at hx
      · exact ih _ _ _ x hx
      · split at hx
        · exact ih _ _ _ x hx
        · split at hx
          · exact ih _ _ _ x hx
          · exact ih _ _ _ x hx
def Sm (s : ByteArray) (ws : List Wd) : Prop := ∀ x ∈ ws, x.1.size ≤ s.size
theorem ended_sm {s : ByteArray} {ws : List Wd} (h : Sm s ws) (cur : Option Nat) (p : Nat) : Sm s (ended s ws cur p) := by
  cases cur with
  | none => exact h
  | some b =>
    intro x hx
    rcases List.mem_append.1 hx with hx | hx
    · exact h x hx
    · simp only [List.mem_singleton] at hx; subst hx
      show (s.extract b p).size ≤ s.size
      rw [ByteArray.size_extract]; omega
theorem scan_sm (s : ByteArray) : ∀ (l : List UInt8) (p : Nat) (ws : List Wd) (cur : Option Nat) (m : Bool), Sm s ws → ∀ x ∈ scan s l p ws cur m, Sm s x.1
  | [], p, ws, cur, m, h, x, hx => by
    rw [scan_nil] at hx
    unfold lined at hx
    split at hx
    · simp at hx
    · simp only [List.mem_singleton] at hx; subst hx; exact ended_sm h cur p
  | b :: r, p, ws, cur, m, h, x, hx => by
    have ih := scan_sm s r (p + 1)
    rw [scan] at hx
    split at hx
    · rcases List.mem_append.1 hx with hx | hx
      · unfold lined at hx
        split at hx
        · simp at hx
        · simp only [List.mem_singleton] at hx; subst hx; exact ended_sm h cur p
      · exact ih _ _ _ (by intro y hy; simp at hy) x hx
    · split at hx
      · exact ih _ _ _ h x hx
      · split at hx
        · exact ih _ _ _ (ended_sm h cur p) x hx
        · split at hx
          · exact ih _ _ _ (ended_sm h cur p) x hx
          · exact ih _ _ _ h x hx
theorem lns_ne (s : ByteArray) : ∀ x ∈ lns s, x.1 ≠ [] := scan_ne s _ _ _ _ _
theorem lns_sm (s : ByteArray) : ∀ x ∈ lns s, Sm s x.1 := scan_sm s _ _ _ _ _ (by intro y hy; simp at hy)
/-- What is read so far, and what is left: no more than so many. -/
def Bd (c : Cgf) (k : Nat) : Prop := c.ten.length + k ≤ 32768 ∧ ∀ t ∈ c.ten, t.pool.length + k ≤ 32768 ∧ t.stat.length + k ≤ 32768 ∧ t.twi.length + k ≤ 32768
theorem pl_len (f : Nat) : ∀ (ws : List Wd) (b : Option Nat), (pl ws f b).1.length ≤ ws.length
  | [], b => by simp [pl]
  | w :: r, some a => by simp [pl]
  | w :: r, none => by
    rw [pl]
    cases ip w.1.data.toList with
    | none => simp
    | some n => have := pl_len f r none; simp; omega
theorem part_bd (b : Wd) (t : Ten) (σ : Sg) : (part b t σ).1.pool.length ≤ t.pool.length + σ.ws.length ∧ (part b t σ).1.stat.length ≤ t.stat.length + 1 ∧ (part b t σ).1.twi.length ≤ t.twi.length + 1 := by
  have hp := pl_len σ.fin σ.ws σ.bad
  unfold part
  split
  · refine ⟨?_, by show t.stat.length ≤ _; omega, by show t.twi.length ≤ _; omega⟩
    show (t.pool ++ (pl σ.ws σ.fin σ.bad).1).length ≤ _
    rw [List.length_append]; omega
  · split
    · exact ⟨by show t.pool.length ≤ _; omega, by show t.stat.length ≤ _; omega, by show t.twi.length ≤ _; omega⟩
    · split
      · exact ⟨by show t.pool.length ≤ _; omega, by show t.stat.length ≤ _; omega, by show t.twi.length ≤ _; omega⟩
      · split
        · refine ⟨by show t.pool.length ≤ _; omega, ?_, by show t.twi.length ≤ _; omega⟩
          show (t.stat ++ [_]).length ≤ _
          rw [List.length_append]; simp
        · split
          · refine ⟨by show t.pool.length ≤ _; omega, by show t.stat.length ≤ _; omega, ?_⟩
            show (t.twi ++ [_]).length ≤ _
            rw [List.length_append]; simp
          · split
            · exact ⟨by show t.pool.length ≤ _; omega, by show t.stat.length ≤ _; omega, by show t.twi.length ≤ _; omega⟩
            · split
              · exact ⟨by show t.pool.length ≤ _; omega, by show t.stat.length ≤ _; omega, by show t.twi.length ≤ _; omega⟩
              · exact ⟨by show t.pool.length ≤ _; omega, by show t.stat.length ≤ _; omega, by show t.twi.length ≤ _; omega⟩
theorem tnT_nils (σ : Sg) : (tnT σ).pool = [] ∧ (tnT σ).stat = [] ∧ (tnT σ).twi = [] := by
  unfold tnT
  generalize k8 (val key (t4 σ)) = a
  generalize m6 (val mac (t7 σ)) = b
  generalize m6 (val mac (t9 σ)) = c
  exact ⟨rfl, rfl, rfl⟩
theorem ln_bd {c : Cgf} {k fin : Nat} {x : Wd} {r : List Wd} (h : Bd c ((x :: r).length + k)) : Bd (ln c ⟨x :: r, fin, none⟩).1 k := by
  obtain ⟨h1, h2⟩ := h
  simp only [List.length_cons] at h1 h2
  by_cases hw : wt ⟨x :: r, fin, none⟩ = wTenant
  · rw [ln_tenant hw]
    refine ⟨by show (c.ten ++ [_]).length + k ≤ _; rw [List.length_append]; simp; omega, fun t ht => ?_⟩
    rcases List.mem_append.1 ht with ht | ht
    · have := h2 t ht; omega
    · simp only [List.mem_singleton] at ht; subst ht
      obtain ⟨e1, e2, e3⟩ := tnT_nils (nxt ⟨x :: r, fin, none⟩)
      rw [e1, e2, e3]; simp; omega
  · by_cases ht : c.ten = []
    · rw [ln_none hw ht]
      exact ⟨by show c.ten.length + k ≤ _; omega, fun t ht => by have := h2 t ht; omega⟩
    · obtain ⟨ts, t, e⟩ : ∃ ts t, c.ten = ts ++ [t] := ⟨c.ten.dropLast, c.ten.getLast ht, (List.dropLast_concat_getLast ht).symm⟩
      rw [ln_some hw e]
      have hp := part_bd (wd ⟨x :: r, fin, none⟩) t (nxt ⟨x :: r, fin, none⟩)
      have hn : (nxt ⟨x :: r, fin, none⟩).ws.length = r.length := rfl
      rw [hn] at hp
      have ht0 := h2 t (by rw [e]; simp)
      rw [e, List.length_append] at h1
      simp only [List.length_cons, List.length_nil] at h1
      refine ⟨by show (ts ++ [_]).length + k ≤ _; rw [List.length_append]; simp only [List.length_cons, List.length_nil]; omega, fun u hu => ?_⟩
      rcases List.mem_append.1 hu with hu | hu
      · have := h2 u (by rw [e]; simp [hu]); omega
      · simp only [List.mem_singleton] at hu; subst hu; omega
end La
end Go.Proofs.YtneciccdiledfaaGreatDoor

namespace Go.Proofs.YtneciccdiledfaaGreatDoor
open Go.RowKit
open Ad
set_option linter.unusedVariables false
set_option linter.unusedSimpArgs false
set_option maxRecDepth 20000
namespace La
def tend (ws : List (List UInt8)) (cur : List UInt8) : List (List UInt8) := if cur = [] then ws else ws ++ [cur]
def tln (ws : List (List UInt8)) : List (List (List UInt8)) := if ws = [] then [] else [ws]
def tk : List UInt8 → List (List UInt8) → List UInt8 → Bool → List (List (List UInt8))
  | [], ws, cur, _ => tln (tend ws cur)
  | b :: r, ws, cur, m =>
    if b = 10 then tln (tend ws cur) ++ tk r [] [] false
    else if m = true then tk r ws cur true
    else if b = 32 then tk r (tend ws cur) [] false
    else if b = 35 then tk r (tend ws cur) [] true
    else tk r ws (cur ++ [b]) false
def wtx (ws : List Wd) : List (List UInt8) := ws.map fun w => w.1.data.toList
def ltx (ls : List (List Wd × Nat)) : List (List (List UInt8)) := ls.map fun l => wtx l.1
theorem tk_nil (ws : List (List UInt8)) (cur : List UInt8) (m : Bool) : tk [] ws cur m = tln (tend ws cur) := by rw [tk]
theorem tk_feed (r : List UInt8) (ws : List (List UInt8)) (cur : List UInt8) (m : Bool) : tk (10 :: r) ws cur m = tln (tend ws cur) ++ tk r [] [] false := by rw [tk, if_pos rfl]
theorem tk_mute {b : UInt8} (r : List UInt8) (ws : List (List UInt8)) (cur : List UInt8) (h : b ≠ 10) : tk (b :: r) ws cur true = tk r ws cur true := by rw [tk, if_neg h, if_pos rfl]
theorem tk_blank (r : List UInt8) (ws : List (List UInt8)) (cur : List UInt8) : tk (32 :: r) ws cur false = tk r (tend ws cur) [] false := by rw [tk, if_neg (by decide), if_neg (by decide), if_pos rfl]
theorem tk_hash (r : List UInt8) (ws : List (List UInt8)) (cur : List UInt8) : tk (35 :: r) ws cur false = tk r (tend ws cur) [] true := by rw [tk, if_neg (by decide), if_neg (by decide), if_neg (by decide), if_pos rfl]
theorem tk_word {b : UInt8} (r : List UInt8) (ws : List (List UInt8)) (cur : List UInt8) (h1 : b ≠ 10) (h2 : b ≠ 32) (h3 : b ≠ 35) : tk (b :: r) ws cur false = tk r ws (cur ++ [b]) false := by
  rw [tk, if_neg h1, if_neg (by decide), if_neg h2, if_neg h3]
theorem wtx_ended (s : ByteArray) (ws : List Wd) (p b : Nat) : wtx (ended s ws (some b) p) = wtx ws ++ [(s.data.toList.drop b).take (p - b)] := by
  unfold wtx ended
  rw [List.map_append]
  simp only [List.map_cons, List.map_nil]
  rw [sub_text]
theorem ltx_lined (ws : List Wd) (p : Nat) : ltx (lined ws p) = tln (wtx ws) := by
  unfold lined tln ltx wtx
  cases ws <;> simp
theorem scan_tk (s : ByteArray) : ∀ (l : List UInt8) (p : Nat) (ws : List Wd) (cur : Option Nat) (cu : List UInt8) (m : Bool), l = s.data.toList.drop p → (m = true → cur = none) →
    ((cur = none ∧ cu = []) ∨ ∃ b, cur = some b ∧ b < p ∧ p ≤ s.data.toList.length ∧ cu = (s.data.toList.drop b).take (p - b)) → ltx (scan s l p ws cur m) = tk l (wtx ws) cu m
  | [], p, ws, cur, cu, m, hl, hm, hc => by
    have he : wtx (ended s ws cur p) = tend (wtx ws) cu := by
      rcases hc with ⟨rfl, rfl⟩ | ⟨b, rfl, h1, h2, rfl⟩
      · simp [ended, tend]
      · have hne : (s.data.toList.drop b).take (p - b) ≠ [] := by
          intro e
          have := congrArg List.length e
          simp only [List.length_take, List.length_drop, List.length_nil] at this
          omega
        rw [wtx_ended, tend, if_neg hne]
    rw [scan_nil, tk_nil, ltx_lined, he]
  | b :: r, p, ws, cur, cu, m, hl, hm, hc => by
    have hp : p < s.data.toList.length := by
      rcases Nat.lt_or_ge p s.data.toList.length with h | h
      · exact h
      · rw [List.drop_eq_nil_of_le h] at hl; cases hl
    have hr : r = s.data.toList.drop (p + 1) := by
      have := congrArg List.tail hl
      simpa using this
    have hb : s.data.toList[p]? = some b := by
      have := congrArg List.head? hl
      simpa [List.head?_drop] using this.symm
    have he : wtx (ended s ws cur p) = tend (wtx ws) cu := by
      rcases hc with ⟨rfl, rfl⟩ | ⟨b, rfl, h1, h2, rfl⟩
      · simp [ended, tend]
      · have hne : (s.data.toList.drop b).take (p - b) ≠ [] := by
          intro e
          have := congrArg List.length e
          simp only [List.length_take, List.length_drop, List.length_nil] at this
          omega
        rw [wtx_ended, tend, if_neg hne]
    by_cases h1 : b = 10
    · subst h1
      rw [scan_feed, tk_feed]
      have := scan_tk s r (p + 1) [] none [] false hr (fun h => by cases h) (Or.inl ⟨rfl, rfl⟩)
      rw [show wtx [] = [] from rfl] at this
      rw [← this, ← he, ← ltx_lined (ended s ws cur p) p]
      simp [ltx]
    · cases m with
      | true =>
        obtain rfl := hm rfl
        rw [scan_mute _ _ _ _ _ h1, tk_mute _ _ _ h1]
        refine scan_tk s r (p + 1) ws none cu true hr (fun _ => rfl) ?_
        rcases hc with h | ⟨b, h, _⟩
        · exact Or.inl h
        · cases h
      | false =>
        by_cases h2 : b = 32
        · subst h2
          rw [scan_blank, tk_blank, ← he]
          exact scan_tk s r (p + 1) _ none [] false hr (fun h => by cases h) (Or.inl ⟨rfl, rfl⟩)
        · by_cases h3 : b = 35
          · subst h3
            rw [scan_hash, tk_hash, ← he]
            exact scan_tk s r (p + 1) _ none [] true hr (fun _ => rfl) (Or.inl ⟨rfl, rfl⟩)
          · rw [scan_word _ _ _ _ _ h1 h2 h3, tk_word _ _ _ h1 h2 h3]
            refine scan_tk s r (p + 1) ws _ _ false hr (fun h => by cases h) (Or.inr ⟨cur.getD p, rfl, ?_, by omega, ?_⟩)
            · rcases hc with ⟨rfl, rfl⟩ | ⟨b', rfl, h1, h2, rfl⟩
              · simp
              · simp; omega
            · rcases hc with ⟨rfl, rfl⟩ | ⟨b', rfl, q1, q2, rfl⟩
              · simp only [Option.getD_none, List.nil_append]
                rw [← hl, show p + 1 - p = 1 by omega]
                simp
              · simp only [Option.getD_some]
                rw [show p + 1 - b' = (p - b') + 1 by omega, List.take_add_one, List.getElem?_drop, show b' + (p - b') = p by omega, hb]
                rfl
theorem ltx_lns (s : ByteArray) : ltx (lns s) = tk s.data.toList [] [] false := by
  have := scan_tk s s.data.toList 0 [] none [] false (by simp) (fun h => by cases h) (Or.inl ⟨rfl, rfl⟩)
  exact this
/-- Signs that end no word. -/
def Free (x : List UInt8) : Prop := x ≠ [] ∧ ∀ b ∈ x, b ≠ 10 ∧ b ≠ 32 ∧ b ≠ 35
theorem tk_free (r : List UInt8) (ws : List (List UInt8)) : ∀ (x cur : List UInt8), (∀ b ∈ x, b ≠ 10 ∧ b ≠ 32 ∧ b ≠ 35) → tk (x ++ r) ws cur false = tk r ws (cur ++ x) false
  | [], cur, _ => by simp
  | b :: x, cur, h => by
    have hb := h b (by simp)
    rw [List.cons_append, tk_word _ _ _ hb.1 hb.2.1 hb.2.2, tk_free r ws x (cur ++ [b]) (fun b hb => h b (by simp [hb]))]
    simp
theorem tk_words (r : List UInt8) : ∀ (xs : List (List UInt8)) (x : List UInt8) (ws : List (List UInt8)), (∀ y ∈ x :: xs, Free y) → tk (Lib.join (x :: xs) [32] ++ (10 :: r)) ws [] false = (ws ++ x :: xs) :: tk r [] [] false
  | [], x, ws, h => by
    have hx := h x (by simp)
    rw [Lib.join_one, tk_free _ _ _ _ hx.2, List.nil_append, tk_feed]
    simp [tend, hx.1, tln]
  | y :: xs, x, ws, h => by
    have hx := h x (by simp)
    have hy : ∀ z ∈ y :: xs, Free z := fun z hz => h z (by simp only [List.mem_cons] at hz ⊢; exact Or.inr hz)
    have ih := tk_words r xs y (ws ++ [x]) hy
    have e : Lib.join (x :: y :: xs) [32] = x ++ (32 :: Lib.join (y :: xs) [32]) := by
      rw [Lib.join_cons, Lib.join_cons]
      simp [Lib.joinTail]
    rw [e, List.append_assoc, tk_free _ _ _ _ hx.2, List.nil_append, List.cons_append, tk_blank]
    rw [show tend ws x = ws ++ [x] by simp [tend, hx.1], ih]
    simp
/-- A line. -/
def spc (ws : List (List UInt8)) : List UInt8 := Lib.join ws [32] ++ [10]
theorem tk_spc (r : List UInt8) (ws : List (List UInt8)) (hne : ws ≠ []) (h : ∀ y ∈ ws, Free y) : tk (spc ws ++ r) [] [] false = ws :: tk r [] [] false := by
  cases ws with
  | nil => exact absurd rfl hne
  | cons x xs =>
    unfold spc
    rw [List.append_assoc]
    exact tk_words r xs x [] h
theorem tk_lines (r : List UInt8) : ∀ (ls : List (List (List UInt8))), (∀ l ∈ ls, l ≠ [] ∧ ∀ y ∈ l, Free y) → tk (ls.flatMap spc ++ r) [] [] false = ls ++ tk r [] [] false
  | [], _ => by simp
  | l :: ls, h => by
    have hl := h l (by simp)
    rw [List.flatMap_cons, List.append_assoc, tk_spc _ _ hl.1 hl.2, tk_lines r ls (fun x hx => h x (by simp [hx]))]
    rfl

end La
end Go.Proofs.YtneciccdiledfaaGreatDoor

namespace Go.Proofs.YtneciccdiledfaaGreatDoor
open Go.RowKit
open Sm
open Cf
set_option linter.unusedVariables false
set_option maxRecDepth 20000

end Go.Proofs.YtneciccdiledfaaGreatDoor

namespace Go.Proofs.YtneciccdiledfaaGreatDoor
open Go.RowKit
open Sm
open Cf
set_option linter.unusedVariables false
set_option linter.unusedSimpArgs false
set_option maxRecDepth 20000

def stL (A : Array Value) : Nat → List Value → Array Value
  | _, [] => A
  | o, v :: r => stL (A.setIfInBounds o v) (o + 1) r
theorem stL_mid (post : List Value) : ∀ (vs mid pre : List Value), mid.length = vs.length → stL (pre ++ (mid ++ post)).toArray pre.length vs = (pre ++ (vs ++ post)).toArray
  | [], mid, pre, h => by
    have : mid = [] := List.eq_nil_of_length_eq_zero h
    subst this
    rfl
  | v :: vs, [], pre, h => by simp at h
  | v :: vs, m :: mid, pre, h => by
    have hs : (pre ++ (m :: mid ++ post)).toArray.setIfInBounds pre.length v = ((pre ++ [v]) ++ (mid ++ post)).toArray := by
      rw [List.setIfInBounds_toArray, List.set_append_right _ _ (Nat.le_refl _), Nat.sub_self, List.cons_append, List.set_cons_zero, List.append_assoc]
      rfl
    rw [stL, hs]
    have := stL_mid post vs mid (pre ++ [v]) (by simpa using h)
    rw [List.length_append, List.length_cons, List.length_nil] at this
    rw [this, List.append_assoc]
    rfl
theorem tc_put {t t' : Ten} {p s q p' s' q' : Value} {o : Nat} {v : Value} (h : TLen t) (e : ∀ n vn a b c d f g x y vt a1 b1 c1 d1 f1 g1 a2 b2 c2 d2 f2 g2 po lo hi fi st tw se qu ra bu,
    t = ⟨n, vn, [a, b, c, d, f, g, x, y], vt, [a1, b1, c1, d1, f1, g1], [a2, b2, c2, d2, f2, g2], po, lo, hi, fi, st, tw, se, qu, ra, bu⟩ → (tc t p s q).set o v = tc t' p' s' q') : (tc t p s q).toArray.setIfInBounds o v = (tc t' p' s' q').toArray := by
  rw [List.setIfInBounds_toArray, tset h e]
theorem tc_key (t : Ten) (p s q : Value) (y : List Int) (h : TLen t) (hy : y.length = 8) : stL (tc t p s q).toArray 2 (y.map (Value.int .u8)) = (tc { t with key := y } p s q).toArray :=
  stL_mid _ (y.map (Value.int .u8)) (t.key.map (Value.int .u8)) [.string t.name, .int .u32 t.vni] (by rw [List.length_map, List.length_map, h.key, hy])
theorem tc_vmac (t : Ten) (p s q : Value) (y : List Int) (h : TLen t) (hy : y.length = 6) : stL (tc t p s q).toArray 11 (y.map (Value.int .u8)) = (tc { t with vmac := y } p s q).toArray := by
  have := stL_mid (t.host.map (Value.int .u8) ++ [p, .int .u16 t.lo, .int .u16 t.hi, .int .i64 t.filter, s, q, .int .i64 t.sess, .int .i64 t.queue, .int .u32 t.rate, .int .u32 t.burst]) (y.map (Value.int .u8)) (t.vmac.map (Value.int .u8)) (.string t.name :: .int .u32 t.vni :: (t.key.map (Value.int .u8) ++ [.int .u32 t.vtep])) (by rw [List.length_map, List.length_map, h.vmac, hy])
  rw [show (.string t.name :: .int .u32 t.vni :: (t.key.map (Value.int .u8) ++ [.int .u32 t.vtep]) : List Value).length = 11 by simp [h.key]] at this
  simpa [tc] using this
theorem tc_host (t : Ten) (p s q : Value) (y : List Int) (h : TLen t) (hy : y.length = 6) : stL (tc t p s q).toArray 17 (y.map (Value.int .u8)) = (tc { t with host := y } p s q).toArray := by
  have := stL_mid [p, .int .u16 t.lo, .int .u16 t.hi, .int .i64 t.filter, s, q, .int .i64 t.sess, .int .i64 t.queue, .int .u32 t.rate, .int .u32 t.burst] (y.map (Value.int .u8)) (t.host.map (Value.int .u8)) (.string t.name :: .int .u32 t.vni :: (t.key.map (Value.int .u8) ++ .int .u32 t.vtep :: t.vmac.map (Value.int .u8))) (by rw [List.length_map, List.length_map, h.host, hy])
  rw [show (.string t.name :: .int .u32 t.vni :: (t.key.map (Value.int .u8) ++ .int .u32 t.vtep :: t.vmac.map (Value.int .u8)) : List Value).length = 17 by simp [h.key, h.vmac]] at this
  simpa [tc] using this
def s1 (σ : Option (List Int)) := rnx σ
def s2 (σ : Option (List Int)) := nx 4 (s1 σ)
def s3 (σ : Option (List Int)) := nx 8 (s2 σ)
def s4 (σ : Option (List Int)) := nx 4 (s3 σ)
def s5 (σ : Option (List Int)) := nx 6 (s4 σ)
def s6 (σ : Option (List Int)) := nx 6 (s5 σ)
def s7 (σ : Option (List Int)) := nx 2 (s6 σ)
def s8 (σ : Option (List Int)) := nx 2 (s7 σ)
def s9 (σ : Option (List Int)) := nx 1 (s8 σ)
def s10 (σ : Option (List Int)) := nx 2 (s9 σ)
def s11 (σ : Option (List Int)) := nx 2 (s10 σ)
def s12 (σ : Option (List Int)) := nx 4 (s11 σ)
def s13 (σ : Option (List Int)) := nx 4 (s12 σ)
def s14 (σ : Option (List Int)) := nx 1 (s13 σ)
def rx (σ : Option (List Int)) : Nat := (num (tk 1 (s13 σ))).toNat
def ry (σ : Option (List Int)) : Nat := (num (tk 1 (s14 σ))).toNat
theorem owb_one {T : TypeId} {sz n : Nat} {v : Value} {xs : List Value} {B : List (Nat × Obj)} (h : OwB T sz v n xs B) : v.oneCell' = true := by
  rcases h.2 with ⟨rfl, -⟩ | ⟨g, cap, cur, rfl, -⟩ <;> rfl
theorem owb_slice {T : TypeId} {sz n : Nat} {v : Value} {xs : List Value} {B : List (Nat × Obj)} (h : OwB T sz v n xs B) : ∃ a m c, v = .slice a m c := by
  rcases h.2 with ⟨rfl, -⟩ | ⟨g, cap, cur, rfl, -⟩ <;> exact ⟨_, _, _, rfl⟩
theorem tc_one3 (t : Ten) {p s q : Value} (h1 : p.oneCell' = true) (h2 : s.oneCell' = true) (h3 : q.oneCell' = true) : (tc t p s q).toArray.all (·.oneCell') = true := by
  apply all_oneCell_toArray
  intro v hv
  simp only [tc, List.mem_cons, List.mem_append, List.mem_map, List.not_mem_nil, or_false] at hv
  rcases hv with rfl | rfl | ⟨x, _, rfl⟩ | rfl | ⟨x, _, rfl⟩ | ⟨x, _, rfl⟩ | rfl | rfl | rfl | rfl | rfl | rfl | rfl | rfl | rfl | rfl <;> first | rfl | assumption
end Go.Proofs.YtneciccdiledfaaGreatDoor

namespace Go.Proofs.YtneciccdiledfaaGreatDoor
open Go.RowKit
open Sm
open Cf
set_option linter.unusedVariables false
set_option maxRecDepth 20000

/-- A change that all bytes are. -/
def hdec : List Int → Option Chg
  | [] => none
  | b :: r => if b = 0 then (match spN.dec r ByteArray.empty with | some (s, []) => some ⟨false, s, ten0⟩ | _ => none)
    else if b = 1 then (match tdec r with | some (t, []) => some ⟨true, t.name, t⟩ | _ => none) else none
theorem rw_one {V : World} {n : Nat} {p : Value} {xs : List (List Value)} (h : Rw V n p xs) : p.oneCell' = true := by
  obtain ⟨a, c, rfl, _⟩ := h; rfl
theorem tc_one2 (t : Ten) {p s q : Value} (h1 : p.oneCell' = true) (h2 : s.oneCell' = true) (h3 : q.oneCell' = true) : (tc t p s q).toArray.all (·.oneCell') = true := by
  apply all_oneCell_toArray
  intro v hv
  simp only [tc, List.mem_cons, List.mem_append, List.mem_map, List.not_mem_nil, or_false] at hv
  rcases hv with rfl | rfl | ⟨x, _, rfl⟩ | rfl | ⟨x, _, rfl⟩ | ⟨x, _, rfl⟩ | rfl | rfl | rfl | rfl | rfl | rfl | rfl | rfl | rfl | rfl <;> first | rfl | assumption
end Go.Proofs.YtneciccdiledfaaGreatDoor

