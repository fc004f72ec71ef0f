/-
  Sessions: what the program's calls are asked to keep; the chapter's example.
-/
import Derived.Test.YtgeeijinhneoiaaSsAdd
namespace Go.Proofs.Ytgeeijinhneoiaa
open Go.RowKit
open Sm
open Po
open Wh
set_option linter.unusedVariables false
set_option linter.unusedSimpArgs false
set_option maxRecDepth 20000

namespace Ss
def KIn (k : Ky) : Prop := (0 ≤ k.1 ∧ k.1 ≤ 255) ∧ (0 ≤ k.2.1 ∧ k.2.1 ≤ 4294967295) ∧ (0 ≤ k.2.2 ∧ k.2.2 ≤ 65535)
def PIn (q : Pn) : Prop := (0 ≤ q.1 ∧ q.1 ≤ 4294967295) ∧ (0 ≤ q.2 ∧ q.2 ≤ 65535)
def SIn (s : Sn) : Prop := KIn (key s) ∧ PIn (s.oip, s.op) ∧ (0 ≤ s.gen ∧ s.gen ≤ 4294967295) ∧ (∀ q ∈ s.ps, PIn q) ∧ (-9223372036854775808 ≤ s.st ∧ s.st ≤ 9223372036854775807) ∧ (0 ≤ s.un ∧ s.un ≤ 4294967295)
/-- A session whose peers lie in the blocks D. -/
def SD (D : List (Nat × Obj)) (val : Value) (x : Sn) : Prop := ∃ pv, val = .agg (sc x pv).toArray ∧ SlF 34 2 pv x.ps.length (px x.ps).flatten D
theorem SD.sv {D L : List (Nat × Obj)} {w V : World} {val : Value} {x : Sn} (h : SD D val x) (hM : Mem w V (D ++ L)) : SV V val x := by
  obtain ⟨pv, e, hs⟩ := h
  exact ⟨pv, e, SlF.rw px_two (by rw [px_len]; exact hs) hM⟩
def SkQ (PS : List Sn → Nat → List (Nat × Obj) → Prop) (w : World) (p : Nat) (L : List (Nat × Obj)) (r : Value) (xs : List Sn) (e : Ending) (W' : World) : Prop :=
  e = .returned r ∧ ∃ B', PS xs p B' ∧ Mem w W' (B' ++ L)
def SfQ (PS : List Sn → Nat → List (Nat × Obj) → Prop) (w : World) (p : Nat) (L : List (Nat × Obj)) (o : Option Sn) (xs : List Sn) (e : Ending) (W' : World) : Prop :=
  ∃ val D B', e = .returned (.tuple #[val, .bool o.isSome]) ∧ SD D val (o.getD sn0) ∧ PS xs p B' ∧ Mem w W' (D ++ (B' ++ L))
def SaQ (PS : List Sn → Nat → List (Nat × Obj) → Prop) (w : World) (p : Nat) (L : List (Nat × Obj)) (xs : List Sn) (e : Ending) (W' : World) : Prop :=
  ∃ v C D B', e = .returned v ∧ (∃ zs : List Hn, zs.map (·.1) = xs ∧ SlF 39 9 v zs.length (sx zs).flatten C ∧ ∀ z ∈ zs, SlF 34 2 z.2 z.1.ps.length (px z.1.ps).flatten D) ∧ PS xs p B' ∧ Mem w W' (D ++ (C ++ (B' ++ L)))
/-- The program's table: PS xs p B: the box p, with all that belongs to it in the blocks B, holds these. -/
structure SC (w : World) (PS : List Sn → Nat → List (Nat × Obj) → Prop) : Prop where
  new : ∀ (W : World), Below w.heap.size w W → Calls Try.prog 11 #[] W fun e W' => ∃ p B, e = .returned (.pointer (some ⟨p, 0, none⟩)) ∧ PS [] p B ∧ Mem W W' B
  add : ∀ {W : World} {p : Nat} {xs : List Sn} {B L : List (Nat × Obj)}, PS xs p B → Mem w W (B ++ L) → xs.length ≤ 1000 → ∀ {val : Value} {s : Sn}, SV W val s → SIn s → s.ps.length ≤ 1000 → ∀ most : Int, (-9223372036854775808 ≤ most ∧ most ≤ 9223372036854775807) →
    Calls Try.prog 13 #[.pointer (some ⟨p, 0, none⟩), val, .int .i64 most] W (SkQ PS w p L (.int .i64 (ac s most xs)) (ax s most xs))
  find : ∀ {W : World} {p : Nat} {xs : List Sn} {B L : List (Nat × Obj)}, PS xs p B → Mem w W (B ++ L) → xs.length ≤ 1000 → ∀ k : Ky, KIn k →
    Calls Try.prog 19 #[.pointer (some ⟨p, 0, none⟩), .agg #[.int .u8 k.1, .int .u32 k.2.1, .int .u16 k.2.2]] W (SfQ PS w p L (fk k xs) xs)
  out : ∀ {W : World} {p : Nat} {xs : List Sn} {B L : List (Nat × Obj)}, PS xs p B → Mem w W (B ++ L) → xs.length ≤ 1000 → ∀ (pr : Int) (q : Pn), (0 ≤ pr ∧ pr ≤ 255) → PIn q →
    Calls Try.prog 21 #[.pointer (some ⟨p, 0, none⟩), .int .u8 pr, .agg #[.int .u32 q.1, .int .u16 q.2]] W (SfQ PS w p L (fo pr q xs) xs)
  put : ∀ {W : World} {p : Nat} {xs : List Sn} {B L : List (Nat × Obj)}, PS xs p B → Mem w W (B ++ L) → xs.length ≤ 1000 → ∀ {val : Value} {s : Sn}, SV W val s → SIn s → s.ps.length ≤ 1000 →
    Calls Try.prog 15 #[.pointer (some ⟨p, 0, none⟩), val] W (SkQ PS w p L (.bool (fk (key s) xs).isSome) (pt s xs))
  drop : ∀ {W : World} {p : Nat} {xs : List Sn} {B L : List (Nat × Obj)}, PS xs p B → Mem w W (B ++ L) → xs.length ≤ 1000 → ∀ k : Ky, KIn k →
    Calls Try.prog 17 #[.pointer (some ⟨p, 0, none⟩), .agg #[.int .u8 k.1, .int .u32 k.2.1, .int .u16 k.2.2]] W (SkQ PS w p L (.bool (fk k xs).isSome) (dk k xs))
  all : ∀ {W : World} {p : Nat} {xs : List Sn} {B L : List (Nat × Obj)}, PS xs p B → Mem w W (B ++ L) → xs.length ≤ 1000 →
    Calls Try.prog 25 #[.pointer (some ⟨p, 0, none⟩)] W (SaQ PS w p L xs)
  len : ∀ {W : World} {p : Nat} {xs : List Sn} {B L : List (Nat × Obj)}, PS xs p B → Mem w W (B ++ L) → xs.length ≤ 1000 →
    Calls Try.prog 26 #[.pointer (some ⟨p, 0, none⟩)] W (SkQ PS w p L (.int .i64 xs.length) xs)
  step : ∀ (W : World), Below w.heap.size w W → ∀ (pr st fl : Int) (inb : Bool), (0 ≤ pr ∧ pr ≤ 255) → (-9223372036854775808 ≤ st ∧ st ≤ 9223372036854775807) → (0 ≤ fl ∧ fl ≤ 255) →
    Calls Try.prog 27 #[.int .u8 pr, .int .i64 st, .int .u8 fl, .bool inb] W fun e W' => e = .returned (.int .i64 (stp pr st fl inb)) ∧ Below W.heap.size W W'
  life : ∀ (W : World), Below w.heap.size w W → ∀ (pr st : Int), (0 ≤ pr ∧ pr ≤ 255) → (-9223372036854775808 ≤ st ∧ st ≤ 9223372036854775807) →
    Calls Try.prog 29 #[.int .u8 pr, .int .i64 st] W fun e W' => e = .returned (.int .u32 (lif pr st)) ∧ Below W.heap.size W W'
  peer : ∀ (W : World), Below w.heap.size w W → ∀ {v : Value} {l : List Pn}, PR W v l → (∀ q ∈ l, PIn q) → l.length ≤ 1000 → ∀ q : Pn, PIn q →
    Calls Try.prog 31 #[v, .agg #[.int .u32 q.1, .int .u16 q.2]] W fun e W' => ∃ v', e = .returned v' ∧ ∃ D, SlF 34 2 v' (peer l q).length (px (peer l q)).flatten D ∧ Mem W W' D
  allows : ∀ (W : World), Below w.heap.size w W → ∀ {v : Value} {l : List Pn}, PR W v l → (∀ q ∈ l, PIn q) → l.length ≤ 1000 → ∀ (f : Int) (q : Pn), (-9223372036854775808 ≤ f ∧ f ≤ 9223372036854775807) → PIn q →
    Calls Try.prog 34 #[.int .i64 f, v, .agg #[.int .u32 q.1, .int .u16 q.2]] W fun e W' => e = .returned (.bool (alw f l q)) ∧ Below W.heap.size W W'
def s0 : Sn := ⟨17, 1, 2, 3, 4, 0, [], 0, 0⟩
theorem s0_in : SIn s0 := by simp [SIn, KIn, PIn, s0, key]
theorem k19_a : ac s0 1 [] = 0 ∧ ax s0 1 [] = [s0] := ⟨rfl, rfl⟩
theorem k19_b : ac s0 1 [s0] = 131 ∧ ax s0 1 [s0] = [s0] := ⟨rfl, rfl⟩
theorem k19_c : fo 17 (3, 4) [s0] = some s0 := rfl
theorem k19_d : stp 6 0 18 false = 1 := by decide
theorem k19_e : lif 17 0 = 30 := by decide
theorem k19_f : peer [] (0, 0) = [(0, 0)] := by decide
theorem k19_g : alw 0 [] (0, 0) = true := by decide
section
variable {PS : List Sn → Nat → List (Nat × Obj) → Prop}
set_option maxHeartbeats 8000000 in
theorem known19_any (W : World) (hc : SC W PS) : Calls Try.prog 9 #[] W fun e W' => e = .returned (.bool true) ∧ Below W.heap.size W W' := by
  have HC : Hid (SC W PS) := hc
  have C1 := hc.new W (Below.refl _ _)
  clear hc
  go_enter Try.func9, Try.ntmps9
  go_wp2_with fail
  refine C1.mono ?_
  rintro e W1 ⟨p, B, rfl, h1, m1⟩
  clear C1
  obtain ⟨h, hh⟩ : ∃ h, W1.heap.size = h := ⟨_, rfl⟩
  have HM1 : Hid (Mem W (W1.alloc (.cells #[.int .u8 17, .int .u32 1, .int .u16 2, .int .u32 3, .int .u16 4, .int .u32 0, .slice none 0 0, .int .i64 0, .int .u32 0] 39)) (B ++ [(h, .cells #[.int .u8 17, .int .u32 1, .int .u16 2, .int .u32 3, .int .u16 4, .int .u32 0, .slice none 0 0, .int .i64 0, .int .u32 0] 39 (0, 0))])) := m1.push h _ hh.symm
  clear m1
  go_upto_region 5 with fail
  refine wp_letter (fun X => Mem W X (B ++ [(h, .cells #[.int .u8 17, .int .u32 1, .int .u16 2, .int .u32 3, .int .u16 4, .int .u32 0, .slice none 0 0, .int .i64 0, .int .u32 0] 39 (0, 0))])) (by exact HM1.out) ?_
  intro X hX
  clear HM1 hh W1
  have HS0 : Hid ((fun V : World => V.cell? ⟨h, 0, none⟩ = some (.int .u8 17) ∧ V.cell? ⟨h, 1, none⟩ = some (.int .u32 1) ∧ V.cell? ⟨h, 2, none⟩ = some (.int .u16 2) ∧ V.cell? ⟨h, 3, none⟩ = some (.int .u32 3) ∧ V.cell? ⟨h, 4, none⟩ = some (.int .u16 4) ∧ V.cell? ⟨h, 5, none⟩ = some (.int .u32 0) ∧ V.cell? ⟨h, 6, none⟩ = some (.slice none 0 0) ∧ V.cell? ⟨h, 7, none⟩ = some (.int .i64 0) ∧ V.cell? ⟨h, 8, none⟩ = some (.int .u32 0)) X.drew) := bx_of 0 (hX.drew.perm List.perm_append_comm) rfl
  have C2 := HC.out.add (L := [(h, .cells #[.int .u8 17, .int .u32 1, .int .u16 2, .int .u32 3, .int .u16 4, .int .u32 0, .slice none 0 0, .int .i64 0, .int .u32 0] 39 (0, 0))]) h1 hX.drew (by simp) (val := .agg #[.int .u8 17, .int .u32 1, .int .u16 2, .int .u32 3, .int .u16 4, .int .u32 0, .slice none 0 0, .int .i64 0, .int .u32 0]) (s := s0) ⟨.slice none 0 0, rfl, pr_nil _⟩ s0_in (by simp [s0]) 1 (by omega)
  rw [k19_a.1, k19_a.2] at C2
  clear h1 hX
  refine wp_region_held_drew (S := (fun V : World => V.cell? ⟨h, 0, none⟩ = some (.int .u8 17) ∧ V.cell? ⟨h, 1, none⟩ = some (.int .u32 1) ∧ V.cell? ⟨h, 2, none⟩ = some (.int .u16 2) ∧ V.cell? ⟨h, 3, none⟩ = some (.int .u32 3) ∧ V.cell? ⟨h, 4, none⟩ = some (.int .u16 4) ∧ V.cell? ⟨h, 5, none⟩ = some (.int .u32 0) ∧ V.cell? ⟨h, 6, none⟩ = some (.slice none 0 0) ∧ V.cell? ⟨h, 7, none⟩ = some (.int .i64 0) ∧ V.cell? ⟨h, 8, none⟩ = some (.int .u32 0))) (by kernel_rfl) HS0.out (fun hHeld => ?_)
  refine wpAnyH_take (i := 0) (v := ?_) rfl (by kernel_rfl) (by kernel_rfl) (by kernel_rfl) (fun _ _ _ h => h) (Or.inl ⟨by rfl, ?z1⟩) (by assumption) ?_
  case z1 =>
   intro w hSw
   (try dsimp only at hSw)
   go_simp
   all_goals with_reducible rfl
  try simp only [List.getElem_toArray, List.getElem_cons_zero, List.getElem_cons_succ, Act.put, List.setIfInBounds_toArray, List.set_cons_zero, List.set_cons_succ]
  refine wpAnyH_take (i := 1) (v := ?_) rfl (by kernel_rfl) (by kernel_rfl) (by kernel_rfl) (fun _ _ _ h => h) (Or.inl ⟨by rfl, ?z2⟩) (by assumption) ?_
  case z2 =>
   intro w hSw
   (try dsimp only at hSw)
   go_simp
   all_goals with_reducible rfl
  try simp only [List.getElem_toArray, List.getElem_cons_zero, List.getElem_cons_succ, Act.put, List.setIfInBounds_toArray, List.set_cons_zero, List.set_cons_succ]
  refine wpAnyH_take (i := 3) (v := ?_) rfl (by kernel_rfl) (by kernel_rfl) (by kernel_rfl) (fun _ _ _ h => h) (Or.inl ⟨by rfl, ?z3⟩) (by assumption) ?_
  case z3 =>
   intro w hSw
   (try dsimp only at hSw)
   go_simp
   all_goals with_reducible rfl
  try simp only [List.getElem_toArray, List.getElem_cons_zero, List.getElem_cons_succ, Act.put, List.setIfInBounds_toArray, List.set_cons_zero, List.set_cons_succ]
  refine wpAnyH_take (i := 4) (v := ?_) rfl (by kernel_rfl) (by kernel_rfl) (by kernel_rfl) (fun _ _ _ h => h) (Or.inl ⟨by rfl, ?z4⟩) (by assumption) ?_
  case z4 =>
   intro w hSw
   (try dsimp only at hSw)
   go_simp
   all_goals with_reducible rfl
  try simp only [List.getElem_toArray, List.getElem_cons_zero, List.getElem_cons_succ, Act.put, List.setIfInBounds_toArray, List.set_cons_zero, List.set_cons_succ]
  refine wpAnyH_ready (rs := [2]) (by kernel_rfl) (by simp) ?_
  refine AllReadyH.cons rfl (fun K hK => ?_) AllReadyH.nil
  go_simp
  with_reducible refine (C2).mono ?_
  rintro e W2 ⟨rfl, B2, h2, m2⟩
  try go_wp2_with fail
  have C3 := HC.out.add (L := [(h, .cells #[.int .u8 17, .int .u32 1, .int .u16 2, .int .u32 3, .int .u16 4, .int .u32 0, .slice none 0 0, .int .i64 0, .int .u32 0] 39 (0, 0))]) h2 m2 (by simp) (val := .agg #[.int .u8 17, .int .u32 1, .int .u16 2, .int .u32 3, .int .u16 4, .int .u32 0, .slice none 0 0, .int .i64 0, .int .u32 0]) (s := s0) ⟨.slice none 0 0, rfl, pr_nil _⟩ s0_in (by simp [s0]) 1 (by omega)
  rw [k19_b.1, k19_b.2] at C3
  refine hK.out _ _ (bx_of 0 (m2.perm (List.perm_append_comm)) rfl) (fun hHeld => ?_)
  clear hK K
  try simp only [List.getElem_toArray, List.getElem_cons_zero, List.getElem_cons_succ, Act.put, List.setIfInBounds_toArray, List.set_cons_zero, List.set_cons_succ]
  refine wpAnyH_ready (rs := [5]) (by kernel_rfl) (by simp) ?_
  refine AllReadyH.cons rfl (fun K hK => ?_) AllReadyH.nil
  go_simp
  with_reducible refine (C3).mono ?_
  rintro e W3 ⟨rfl, B3, h3, m3⟩
  try go_wp2_with fail
  refine hK.out _ _ (bx_of 0 (m3.perm (List.perm_append_comm)) rfl) (fun hHeld => ?_)
  clear hK K
  try simp only [List.getElem_toArray, List.getElem_cons_zero, List.getElem_cons_succ, Act.put, List.setIfInBounds_toArray, List.set_cons_zero, List.set_cons_succ]
  refine wpAnyH_take (i := 6) (v := ?_) rfl (by kernel_rfl) (by kernel_rfl) (by kernel_rfl) (fun _ _ _ h => h) (Or.inl ⟨by rfl, ?z5⟩) (by assumption) ?_
  case z5 =>
   intro w hSw
   (try dsimp only at hSw)
   go_simp
   all_goals with_reducible rfl
  try simp only [List.getElem_toArray, List.getElem_cons_zero, List.getElem_cons_succ, Act.put, List.setIfInBounds_toArray, List.set_cons_zero, List.set_cons_succ]
  refine wpAnyH_take (i := 7) (v := ?_) rfl (by kernel_rfl) (by kernel_rfl) (by kernel_rfl) (fun _ _ _ h => h) (Or.inl ⟨by rfl, ?z6⟩) (by assumption) ?_
  case z6 =>
   intro w hSw
   (try dsimp only at hSw)
   go_simp
   all_goals with_reducible rfl
  try simp only [List.getElem_toArray, List.getElem_cons_zero, List.getElem_cons_succ, Act.put, List.setIfInBounds_toArray, List.set_cons_zero, List.set_cons_succ]
  refine wpAnyH_done (by kernel_rfl) ?_ _

  have C4 := HC.out.out h3 m3 (by simp) 17 (3, 4) (by omega) (by simp [PIn])
  rw [k19_c] at C4
  clear HS0 C2 C3 h2 m2 h3 m3
  go_wp2_with fail
  refine C4.mono ?_
  rintro e W4 ⟨val, D4, B4, rfl, ⟨pv, rfl, hv⟩, h4, m4⟩
  obtain ⟨-, pa, pc, rfl, -⟩ := id hv
  have hv' : SlF 34 2 (.slice pa 0 pc) 0 (px []).flatten D4 := hv
  clear hv C4
  simp only [Option.getD_some, sc, s0, List.length_nil, Option.isSome_some]
  obtain ⟨g1, hg1⟩ : ∃ g, W4.heap.size = g := ⟨_, rfl⟩
  have HM4 : Hid (Mem W (W4.alloc (.cells #[.int .u8 17, .int .u32 1, .int .u16 2, .int .u32 3, .int .u16 4, .int .u32 0, .slice pa 0 pc, .int .i64 0, .int .u32 0] 39)) ((D4 ++ (B4 ++ [(h, .cells #[.int .u8 17, .int .u32 1, .int .u16 2, .int .u32 3, .int .u16 4, .int .u32 0, .slice none 0 0, .int .i64 0, .int .u32 0] 39 (0, 0))])) ++ [(g1, .cells #[.int .u8 17, .int .u32 1, .int .u16 2, .int .u32 3, .int .u16 4, .int .u32 0, .slice pa 0 pc, .int .i64 0, .int .u32 0] 39 (0, 0))])) := m4.push g1 _ hg1.symm
  clear m4
  go_upto_region 7 with fail
  refine wp_letter (fun X => Mem W X ((D4 ++ (B4 ++ [(h, .cells #[.int .u8 17, .int .u32 1, .int .u16 2, .int .u32 3, .int .u16 4, .int .u32 0, .slice none 0 0, .int .i64 0, .int .u32 0] 39 (0, 0))])) ++ [(g1, .cells #[.int .u8 17, .int .u32 1, .int .u16 2, .int .u32 3, .int .u16 4, .int .u32 0, .slice pa 0 pc, .int .i64 0, .int .u32 0] 39 (0, 0))])) (by exact HM4.out) ?_
  intro Y hY
  clear HM4 hg1 W4
  obtain ⟨q0, q1, q2, q3, q4, q5, q6, q7, q8⟩ := bx_of 0 (hY.perm (show List.Perm _ ((h, .cells #[.int .u8 17, .int .u32 1, .int .u16 2, .int .u32 3, .int .u16 4, .int .u32 0, .slice none 0 0, .int .i64 0, .int .u32 0] 39 (0, 0)) :: (D4 ++ (B4 ++ [(g1, .cells #[.int .u8 17, .int .u32 1, .int .u16 2, .int .u32 3, .int .u16 4, .int .u32 0, .slice pa 0 pc, .int .i64 0, .int .u32 0] 39 (0, 0))]))) from by
    classical
    rw [List.perm_iff_count]
    intro q
    simp only [List.count_append, List.count_cons, List.count_nil]
    omega)) rfl
  obtain ⟨t0, t1, t2, t3, t4, t5, t6, t7, t8⟩ := bx_of 0 (hY.perm (show List.Perm _ ((g1, .cells #[.int .u8 17, .int .u32 1, .int .u16 2, .int .u32 3, .int .u16 4, .int .u32 0, .slice pa 0 pc, .int .i64 0, .int .u32 0] 39 (0, 0)) :: (D4 ++ (B4 ++ [(h, .cells #[.int .u8 17, .int .u32 1, .int .u16 2, .int .u32 3, .int .u16 4, .int .u32 0, .slice none 0 0, .int .i64 0, .int .u32 0] 39 (0, 0))]))) from by
    classical
    rw [List.perm_iff_count]
    intro q
    simp only [List.count_append, List.count_cons, List.count_nil]
    omega)) rfl
  have hp : PR Y (.slice pa 0 pc) [] := SlF.rw px_two (by rw [px_len]; exact hv') (show Mem W Y (D4 ++ ((B4 ++ [(h, .cells #[.int .u8 17, .int .u32 1, .int .u16 2, .int .u32 3, .int .u16 4, .int .u32 0, .slice none 0 0, .int .i64 0, .int .u32 0] 39 (0, 0))]) ++ [(g1, .cells #[.int .u8 17, .int .u32 1, .int .u16 2, .int .u32 3, .int .u16 4, .int .u32 0, .slice pa 0 pc, .int .i64 0, .int .u32 0] 39 (0, 0))])) by rw [← List.append_assoc]; exact hY)
  have C5 : Calls Try.prog 23 #[.agg #[.int .u8 17, .int .u32 1, .int .u16 2, .int .u32 3, .int .u16 4, .int .u32 0, .slice pa 0 pc, .int .i64 0, .int .u32 0], .agg #[.int .u8 17, .int .u32 1, .int .u16 2, .int .u32 3, .int .u16 4, .int .u32 0, .slice none 0 0, .int .i64 0, .int .u32 0]] Y fun e W' => e = .returned (.bool true) ∧ Below Y.heap.size Y W' := sess_yes (W := Y) (x := s0) ⟨.slice pa 0 pc, rfl, hp⟩ ⟨.slice none 0 0, rfl, pr_nil _⟩
  have hM5 := hY.perm (show List.Perm _ (B4 ++ (D4 ++ [(h, .cells #[.int .u8 17, .int .u32 1, .int .u16 2, .int .u32 3, .int .u16 4, .int .u32 0, .slice none 0 0, .int .i64 0, .int .u32 0] 39 (0, 0)), (g1, .cells #[.int .u8 17, .int .u32 1, .int .u16 2, .int .u32 3, .int .u16 4, .int .u32 0, .slice pa 0 pc, .int .i64 0, .int .u32 0] 39 (0, 0))])) from by
    classical
    rw [List.perm_iff_count]
    intro q
    simp only [List.count_append, List.count_cons, List.count_nil]
    omega)
  have HM5 : Hid (Mem W Y (B4 ++ (D4 ++ [(h, .cells #[.int .u8 17, .int .u32 1, .int .u16 2, .int .u32 3, .int .u16 4, .int .u32 0, .slice none 0 0, .int .i64 0, .int .u32 0] 39 (0, 0)), (g1, .cells #[.int .u8 17, .int .u32 1, .int .u16 2, .int .u32 3, .int .u16 4, .int .u32 0, .slice pa 0 pc, .int .i64 0, .int .u32 0] 39 (0, 0))]))) := hM5
  clear hv' hY hp hM5
  go_wp2_with fail
  refine C5.mono ?_
  rintro e W5 ⟨rfl, hb5⟩
  have C6 := HC.out.len h4 (HM5.out.after hb5) (by simp)
  clear C5 hb5 HM5 h4 q0 q1 q2 q3 q4 q5 q6 q7 q8 t0 t1 t2 t3 t4 t5 t6 t7 t8
  go_wp2_with fail
  refine C6.mono ?_
  rintro e W6 ⟨rfl, B6, h6, m6⟩
  have HB6 : Hid (Below W.heap.size W W6) := m6.below
  have C7 := HC.out.step W6 m6.below 6 0 18 false (by omega) (by omega) (by omega)
  rw [k19_d] at C7
  clear C6 h6 m6
  go_wp2_with fail
  refine C7.mono ?_
  rintro e W7 ⟨rfl, hb7⟩
  have hB7 := HB6.out.trans (hb7.mono HB6.out.size)
  have C8 := HC.out.life W7 hB7 17 0 (by omega) (by omega)
  rw [k19_e] at C8
  have HB7 : Hid (Below W.heap.size W W7) := hB7
  clear C7 hb7 HB6 hB7
  go_wp2_with fail
  refine C8.mono ?_
  rintro e W8 ⟨rfl, hb8⟩
  have hB8 := HB7.out.trans (hb8.mono HB7.out.size)
  have C9 := HC.out.peer W8 hB8 (pr_nil W8) (by simp) (by simp) (0, 0) (by simp [PIn])
  have HB8 : Hid (Below W.heap.size W W8) := hB8
  clear C8 hb8 HB7 hB8
  go_wp2_with fail
  refine C9.mono ?_
  rintro e W9 ⟨v', rfl, D9, hv9, m9⟩
  rw [k19_f] at hv9
  obtain ⟨-, ua, uc, rfl, -⟩ := hv9
  have hB9 := HB8.out.trans (m9.below.mono HB8.out.size)
  have C10 := HC.out.allows W9 hB9 (pr_nil W9) (by simp) (by simp) 0 (0, 0) (by omega) (by simp [PIn])
  rw [k19_g] at C10
  have HB9 : Hid (Below W.heap.size W W9) := hB9
  clear C9 m9 HB8 hB9
  go_wp2_with fail
  refine C10.mono ?_
  rintro e W10 ⟨rfl, hb10⟩
  have HB10 : Hid (Below W.heap.size W W10) := HB9.out.trans (hb10.mono HB9.out.size)
  clear C10 hb10 HB9
  go_wp2_with fail
  go_ret
  exact ⟨rfl, HB10.out⟩
end
end Ss
end Go.Proofs.Ytgeeijinhneoiaa
