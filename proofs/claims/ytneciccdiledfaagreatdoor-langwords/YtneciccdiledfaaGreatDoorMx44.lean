/-
  Settings as text: the program's writer: a tenant's other lines.
  Settings as text: the program's reader: a tenant's other lines: pool.
  Settings as text: the program's reader: a tenant's other lines: twice.
  Settings as text: the document's own words of a line.
  Settings as text: the document's own reader of a line: must, ip, num.
  Settings as text: the program's lines: rune by rune, whole.
-/
import Derived.Test.YtneciccdiledfaaGreatDoorMx43
import Derived.Test.YtneciccdiledfaaGreatDoorMx41
import Derived.Test.YtneciccdiledfaaGreatDoorMx06
import Derived.Test.YtneciccdiledfaaGreatDoorMx39
import Derived.Test.YtneciccdiledfaaGreatDoorMx03
import Derived.Test.YtneciccdiledfaaGreatDoorMx08
import Derived.Test.YtneciccdiledfaaGreatDoorMx13
import Derived.Test.YtneciccdiledfaaGreatDoorMx11
import Derived.Test.YtneciccdiledfaaGreatDoorMx07
import Derived.Lib.SpaceUEq
set_option linter.unusedVariables false
set_option linter.unusedSimpArgs false
set_option maxRecDepth 20000
namespace Go.Proofs.YtneciccdiledfaaGreatDoor
open Go.RowKit
open List (getElem_toArray getElem_cons_zero getElem_cons_succ setIfInBounds_toArray set_cons_zero set_cons_succ)
open La
open Ad
open Sm (IsBytes)
theorem txtR_eq (t : Ten) : (txtR t).flatMap spc = (txtP t).flatMap spc ++ (spc [wPorts, La.dec t.lo, La.dec t.hi] ++ (spc [wFilter, fw t.filter] ++ ((txtS wStatic t.stat).flatMap spc ++ ((txtS wTwice t.twi).flatMap spc ++ (spc [wQuota, La.dec t.sess, La.dec t.queue] ++ spc [wRate, La.dec t.rate, La.dec t.burst]))))) := by
 unfold txtR
 simp [List.flatMap_append]
set_option maxHeartbeats 16000000 in
theorem wparts_any {w V : World} {g : Nat} {l : List UInt8} {K : List (Nat × Obj)} {t : Ten} {v : Value} (hV : Vs w) (hF : FW w) (h : Bu w V g l K) (hT : TV w v t) (hi : TIn t) (hr : TRg t) (hs : 0 ≤ t.sess ∧ 0 ≤ t.queue) (hp9 : t.pool.length ≤ 90000) (hlen : l.length + ((txtR t).flatMap spc).length ≤ 90000000) :
  Calls Tryz.prog 34 #[.pointer (some ⟨g, 0, none⟩), v] V fun e V' => e = .returned (.tuple #[]) ∧ Bu w V' g (l ++ (txtR t).flatMap spc) K := by
 obtain ⟨hl, p, s, q, rfl, h1, h2, h3⟩ := hT
 obtain ⟨g1, hg1⟩ : ∃ g1, V.heap.size = g1 := ⟨_, rfl⟩
 have HP : Hid (Bu w (V.alloc (.cells (tc t p s q).toArray 45)) g l ((g1, .cells (tc t p s q).toArray 45) :: K)) := h.push _ hg1.symm
 have KS0 : ∀ X L', Bu w X g L' ((g1, .cells (tc t p s q).toArray 45) :: K) → X.cell? ⟨g1, 23, none⟩ = some p ∧ X.cell? ⟨g1, 24, none⟩ = some (.int .u16 t.lo) ∧ X.cell? ⟨g1, 25, none⟩ = some (.int .u16 t.hi) ∧ X.cell? ⟨g1, 26, none⟩ = some (.int .i64 t.filter) ∧ X.cell? ⟨g1, 27, none⟩ = some s ∧ X.cell? ⟨g1, 28, none⟩ = some q ∧ X.cell? ⟨g1, 29, none⟩ = some (.int .i64 t.sess) ∧ X.cell? ⟨g1, 30, none⟩ = some (.int .i64 t.queue) ∧ X.cell? ⟨g1, 31, none⟩ = some (.int .u32 t.rate) ∧ X.cell? ⟨g1, 32, none⟩ = some (.int .u32 t.burst) := by
  intro X L' hX
  obtain ⟨-, -, -, -, -, -, a1, a2, a3, a4, a5, a6, a7, a8, a9, a10⟩ := ten_box hl hX.mem (List.mem_cons_self ..)
  exact ⟨a1, a2, a3, a4, a5, a6, a7, a8, a9, a10⟩
 obtain ⟨K1, hK1⟩ : ∃ K1, ((g1, Obj.cells (tc t p s q).toArray 45) :: K) = K1 := ⟨_, rfl⟩
 have C1 : Hid (∀ X, Below w.heap.size w X → Calls Tryz.prog 64 #[.int .u16 t.lo] X fun e w' => e = .returned (.string ⟨(La.dec t.lo).toArray⟩) ∧ Below X.heap.size X w') := fun X hb => number16_any (hV.below hb) t.lo hr.lo.1 hr.lo.2
 have C2 : Hid (∀ X, Below w.heap.size w X → Calls Tryz.prog 64 #[.int .u16 t.hi] X fun e w' => e = .returned (.string ⟨(La.dec t.hi).toArray⟩) ∧ Below X.heap.size X w') := fun X hb => number16_any (hV.below hb) t.hi hr.hi.1 hr.hi.2
 have C3 : Hid (∀ X, Below w.heap.size w X → Calls Tryz.prog 65 #[.int .i64 t.filter] X fun e w' => e = .returned (.string ⟨(fw t.filter).toArray⟩) ∧ X = w') := fun X hb => filterText_any (hF.below hb) t.filter
 have C6 : Hid (∀ X, Below w.heap.size w X → Calls Tryz.prog 67 #[.int .i64 t.sess] X fun e w' => e = .returned (.string ⟨(La.dec t.sess).toArray⟩) ∧ Below X.heap.size X w') := fun X hb => number64_any (hV.below hb) t.sess hs.1 hr.sess.2
 have C7 : Hid (∀ X, Below w.heap.size w X → Calls Tryz.prog 67 #[.int .i64 t.queue] X fun e w' => e = .returned (.string ⟨(La.dec t.queue).toArray⟩) ∧ Below X.heap.size X w') := fun X hb => number64_any (hV.below hb) t.queue hs.2 hr.queue.2
 have C8 : Hid (∀ X, Below w.heap.size w X → Calls Tryz.prog 62 #[.int .u32 t.rate] X fun e w' => e = .returned (.string ⟨(La.dec t.rate).toArray⟩) ∧ Below X.heap.size X w') := fun X hb => number32_any (hV.below hb) t.rate hr.rate.1 hr.rate.2
 have C9 : Hid (∀ X, Below w.heap.size w X → Calls Tryz.prog 62 #[.int .u32 t.burst] X fun e w' => e = .returned (.string ⟨(La.dec t.burst).toArray⟩) ∧ Below X.heap.size X w') := fun X hb => number32_any (hV.below hb) t.burst hr.burst.1 hr.burst.2
 rw [txtR_eq] at hlen ⊢
 obtain ⟨P, hP⟩ : ∃ P, (txtP t).flatMap spc = P := ⟨_, rfl⟩
 obtain ⟨T1, hT1⟩ : ∃ P, spc [wPorts, La.dec t.lo, La.dec t.hi] = P := ⟨_, rfl⟩
 obtain ⟨T2, hT2⟩ : ∃ P, spc [wFilter, fw t.filter] = P := ⟨_, rfl⟩
 obtain ⟨T3, hT3⟩ : ∃ P, (txtS wStatic t.stat).flatMap spc = P := ⟨_, rfl⟩
 obtain ⟨T4, hT4⟩ : ∃ P, (txtS wTwice t.twi).flatMap spc = P := ⟨_, rfl⟩
 obtain ⟨T5, hT5⟩ : ∃ P, spc [wQuota, La.dec t.sess, La.dec t.queue] = P := ⟨_, rfl⟩
 obtain ⟨T6, hT6⟩ : ∃ P, spc [wRate, La.dec t.rate, La.dec t.burst] = P := ⟨_, rfl⟩
 rw [hP, hT1, hT2, hT3, hT4, hT5, hT6] at hlen ⊢
 simp only [List.length_append] at hlen
 have CP : Hid (t.pool ≠ [] → ∀ X, Bu w X g l K1 → Calls Tryz.prog 63 #[.pointer (some ⟨g, 0, none⟩), p] X fun e V' => e = .returned (.tuple #[]) ∧ Bu w V' g (l ++ P) K1) := by
  intro hne X hX
  have e : (txtP t).flatMap spc = spc (wPool :: t.pool.map ipx) := by unfold txtP; rw [if_neg hne]; simp
  rw [← hP, e]
  exact wpool_any hV hX p t.pool h1 hp9 hr.pool (by rw [← e, hP]; omega)
 have CPN : Hid (t.pool = [] → P = []) := by
  intro e
  rw [← hP]; unfold txtP; rw [if_pos e]; rfl
 have CL1 : Hid (∀ X, Bu w X g (l ++ P) K1 → Calls Tryz.prog 58 #[.pointer (some ⟨g, 0, none⟩), .slice (some ⟨X.heap.size, 0, none⟩) 3 3] (X.alloc (.cells #[.string ⟨#[112, 111, 114, 116, 115]⟩, .string ⟨(La.dec t.lo).toArray⟩, .string ⟨(La.dec t.hi).toArray⟩] 9)) fun e V' => e = .returned (.tuple #[]) ∧ Bu w V' g ((l ++ P) ++ T1) K1) := by
  intro X hX
  have := wlit_any hX [⟨#[112, 111, 114, 116, 115]⟩, ⟨(La.dec t.lo).toArray⟩, ⟨(La.dec t.hi).toArray⟩] 3 rfl (by decide) (by
   show (l ++ P).length + (spc [wPorts, La.dec t.lo, La.dec t.hi]).length ≤ _
   rw [hT1]; simp only [List.length_append]; omega)
  rw [← hT1]; exact this
 have CL2 : Hid (∀ X, Bu w X g ((l ++ P) ++ T1) K1 → Calls Tryz.prog 58 #[.pointer (some ⟨g, 0, none⟩), .slice (some ⟨X.heap.size, 0, none⟩) 2 2] (X.alloc (.cells #[.string ⟨#[102, 105, 108, 116, 101, 114]⟩, .string ⟨(fw t.filter).toArray⟩] 9)) fun e V' => e = .returned (.tuple #[]) ∧ Bu w V' g (((l ++ P) ++ T1) ++ T2) K1) := by
  intro X hX
  have := wlit_any hX [⟨#[102, 105, 108, 116, 101, 114]⟩, ⟨(fw t.filter).toArray⟩] 2 rfl (by decide) (by
   show ((l ++ P) ++ T1).length + (spc [wFilter, fw t.filter]).length ≤ _
   rw [hT2]; simp only [List.length_append]; omega)
  rw [← hT2]; exact this
 have CP3 : Hid (∀ X, Bu w X g (((l ++ P) ++ T1) ++ T2) K1 → Calls Tryz.prog 66 #[.pointer (some ⟨g, 0, none⟩), .string ⟨#[115, 116, 97, 116, 105, 99]⟩, s] X fun e V' => e = .returned (.tuple #[]) ∧ Bu w V' g ((((l ++ P) ++ T1) ++ T2) ++ T3) K1) := by
  intro X hX
  have := wpairs_any hV hX ⟨#[115, 116, 97, 116, 105, 99]⟩ s t.stat h2 hi.stat hr.stat (by
   show (((l ++ P) ++ T1) ++ T2).length + ((txtS wStatic t.stat).flatMap spc).length ≤ _
   rw [hT3]; simp only [List.length_append]; omega)
  rw [← hT3]; exact this
 have CP4 : Hid (∀ X, Bu w X g ((((l ++ P) ++ T1) ++ T2) ++ T3) K1 → Calls Tryz.prog 66 #[.pointer (some ⟨g, 0, none⟩), .string ⟨#[116, 119, 105, 99, 101]⟩, q] X fun e V' => e = .returned (.tuple #[]) ∧ Bu w V' g (((((l ++ P) ++ T1) ++ T2) ++ T3) ++ T4) K1) := by
  intro X hX
  have := wpairs_any hV hX ⟨#[116, 119, 105, 99, 101]⟩ q t.twi h3 hi.twi hr.twi (by
   show ((((l ++ P) ++ T1) ++ T2) ++ T3).length + ((txtS wTwice t.twi).flatMap spc).length ≤ _
   rw [hT4]; simp only [List.length_append]; omega)
  rw [← hT4]; exact this
 have CL5 : Hid (∀ X, Bu w X g (((((l ++ P) ++ T1) ++ T2) ++ T3) ++ T4) K1 → Calls Tryz.prog 58 #[.pointer (some ⟨g, 0, none⟩), .slice (some ⟨X.heap.size, 0, none⟩) 3 3] (X.alloc (.cells #[.string ⟨#[113, 117, 111, 116, 97]⟩, .string ⟨(La.dec t.sess).toArray⟩, .string ⟨(La.dec t.queue).toArray⟩] 9)) fun e V' => e = .returned (.tuple #[]) ∧ Bu w V' g ((((((l ++ P) ++ T1) ++ T2) ++ T3) ++ T4) ++ T5) K1) := by
  intro X hX
  have := wlit_any hX [⟨#[113, 117, 111, 116, 97]⟩, ⟨(La.dec t.sess).toArray⟩, ⟨(La.dec t.queue).toArray⟩] 3 rfl (by decide) (by
   show (((((l ++ P) ++ T1) ++ T2) ++ T3) ++ T4).length + (spc [wQuota, La.dec t.sess, La.dec t.queue]).length ≤ _
   rw [hT5]; simp only [List.length_append]; omega)
  rw [← hT5]; exact this
 have CL6 : Hid (∀ X, Bu w X g ((((((l ++ P) ++ T1) ++ T2) ++ T3) ++ T4) ++ T5) K1 → Calls Tryz.prog 58 #[.pointer (some ⟨g, 0, none⟩), .slice (some ⟨X.heap.size, 0, none⟩) 3 3] (X.alloc (.cells #[.string ⟨#[114, 97, 116, 101]⟩, .string ⟨(La.dec t.rate).toArray⟩, .string ⟨(La.dec t.burst).toArray⟩] 9)) fun e V' => e = .returned (.tuple #[]) ∧ Bu w V' g (l ++ (P ++ (T1 ++ (T2 ++ (T3 ++ (T4 ++ (T5 ++ T6))))))) K1) := by
  intro X hX
  have := wlit_any hX [⟨#[114, 97, 116, 101]⟩, ⟨(La.dec t.rate).toArray⟩, ⟨(La.dec t.burst).toArray⟩] 3 rfl (by decide) (by
   show ((((((l ++ P) ++ T1) ++ T2) ++ T3) ++ T4) ++ T5).length + (spc [wRate, La.dec t.rate, La.dec t.burst]).length ≤ _
   rw [hT6]; simp only [List.length_append]; omega)
  refine this.mono (fun e V' hh => ⟨hh.1, ?_⟩)
  have h7 := hh.2
  rw [show ([⟨#[114, 97, 116, 101]⟩, ⟨(La.dec t.rate).toArray⟩, ⟨(La.dec t.burst).toArray⟩] : List ByteArray).map (·.data.toList) = [wRate, La.dec t.rate, La.dec t.burst] from rfl, hT6] at h7
  simpa only [List.append_assoc] using h7
 obtain ⟨np, hnp⟩ : ∃ np, t.pool.length = np := ⟨_, rfl⟩
 have hpv : ∃ a c, p = .slice a np c := by
  obtain ⟨a, c, e, -⟩ := h1
  exact ⟨a, c, by rw [e]; simp [ux, hnp]⟩
 have HNE : Hid ((0 < np → t.pool ≠ []) ∧ (¬ 0 < np → t.pool = [])) := ⟨fun hh e => by rw [e] at hnp; simp at hnp; omega, fun hh => List.eq_nil_of_length_eq_zero (by omega)⟩
 rw [hK1] at KS0 HP
 have HDr : Hid (∀ X L', Bu w X g L' K1 → Bu w X g L' K) := fun X L' hX => by rw [← hK1] at hX; exact hX.drop1
 obtain ⟨A, hA⟩ : ∃ A, (tc t p s q).toArray = A := ⟨_, rfl⟩
 rw [hA] at HP ⊢
 clear hA hnp hK1 h hlen hr hs hp9 hi hl h2 h3 hP hT1 hT2 hT3 hT4 hT5 hT6 h1
 generalize t.pool = tp at *
 generalize (⟨(La.dec t.lo).toArray⟩ : ByteArray) = s1 at *
 generalize (⟨(La.dec t.hi).toArray⟩ : ByteArray) = s2 at *
 generalize (⟨(fw t.filter).toArray⟩ : ByteArray) = s3 at *
 generalize (⟨(La.dec t.sess).toArray⟩ : ByteArray) = s6 at *
 generalize (⟨(La.dec t.queue).toArray⟩ : ByteArray) = s7 at *
 generalize (⟨(La.dec t.rate).toArray⟩ : ByteArray) = s8 at *
 generalize (⟨(La.dec t.burst).toArray⟩ : ByteArray) = s9 at *
 generalize t.lo = n1 at *
 generalize t.hi = n2 at *
 generalize t.filter = n3 at *
 generalize t.sess = n6 at *
 generalize t.queue = n7 at *
 generalize t.rate = n8 at *
 generalize t.burst = n9 at *
 have KS : Hid (∀ X L', Bu w X g L' K1 → X.cell? ⟨g1, 23, none⟩ = some p ∧ X.cell? ⟨g1, 24, none⟩ = some (.int .u16 n1) ∧ X.cell? ⟨g1, 25, none⟩ = some (.int .u16 n2) ∧ X.cell? ⟨g1, 26, none⟩ = some (.int .i64 n3) ∧ X.cell? ⟨g1, 27, none⟩ = some s ∧ X.cell? ⟨g1, 28, none⟩ = some q ∧ X.cell? ⟨g1, 29, none⟩ = some (.int .i64 n6) ∧ X.cell? ⟨g1, 30, none⟩ = some (.int .i64 n7) ∧ X.cell? ⟨g1, 31, none⟩ = some (.int .u32 n8) ∧ X.cell? ⟨g1, 32, none⟩ = some (.int .u32 n9)) := KS0
 clear KS0
 obtain ⟨pa, pcp, rfl⟩ := hpv
 go_enter Tryz.func34, Tryz.ntmps34
 go_upto_region 1 with fail
 refine wp_letter (fun X => Bu w X g l K1) (by exact HP.out) ?_
 intro V0 hR
 try simp only [hg1]
 clear HP hg1
 have HB : Hid (Bu w V0 g l K1) := hR
 have k23 := (KS.out _ _ hR).1
 clear hR
 go_upto_if 7 with fail
 go_cut [] from 4 (fun w' => Hid (Bu w w' g (l ++ P) K1))
 case first =>
  by_cases hne : 0 < np
  ·have hz : (0 : Int) < np := by omega
   have C := CP.out (HNE.out.1 hne) _ HB.out
   clear HNE
   go_wp2_with fail
   refine C.mono ?_
   rintro e W1 ⟨rfl, hB1⟩
   have HB1 : Hid (Bu w W1 g (l ++ P) K1) := hB1
   clear hB1 C
   go_wp2_with fail
   go_meet
   case rel => exact HB1
  ·have hz : ¬ (0 : Int) < np := by omega
   have HB1 : Hid (Bu w V0 g (l ++ P) K1) := by rw [CPN.out (HNE.out.2 hne), List.append_nil]; exact HB.out
   clear HNE
   go_wp2_with fail
   go_meet
   case rel => exact HB1
 case rest =>
  have HBX : Hid (Bu w wc g (l ++ P) K1) := hcut
  clear hcut HB k23 CP CPN HNE
  go_upto_region 3 with fail
  refine wp_letter (fun X => Bu w X g (l ++ P) K1) (by exact HBX.out) ?_
  intro Vp hR
  have HB0 : Hid (Bu w Vp.drew g (l ++ P) K1) := hR.after ((Below.refl _ _).drew)
  have KS2 : Hid (∀ X L', Bu w X g L' K1 → X.cell? ⟨g1, 24, none⟩ = some (.int .u16 n1) ∧ X.cell? ⟨g1, 25, none⟩ = some (.int .u16 n2)) := fun X L' hX => by
   obtain ⟨a1, a2, a3, a4, a5, a6, a7, a8, a9, a10⟩ := KS.out X L' hX
   exact ⟨a2, a3⟩
  clear hR HBX
  refine wp_region_held_drew (S := fun X => X.cell? ⟨g1, 24, none⟩ = some (.int .u16 n1) ∧ X.cell? ⟨g1, 25, none⟩ = some (.int .u16 n2)) (by kernel_rfl) (KS2.out _ _ HB0.out) (fun hHeld => ?_)
  refine wpAnyH_take (i := 0) (v := ?_) rfl (by kernel_rfl) (by kernel_rfl) (by kernel_rfl) (fun _ _ _ h => h) (Or.inl ⟨by rfl, ?py0⟩) (by assumption) ?pr0
  case py0 => intro w hSw; (try dsimp only at hSw); go_simp; all_goals with_reducible rfl
  try simp only [getElem_toArray, getElem_cons_zero, getElem_cons_succ, Act.put, setIfInBounds_toArray, set_cons_zero, set_cons_succ]
  refine wpAnyH_take (i := 1) (v := ?_) rfl (by kernel_rfl) (by kernel_rfl) (by kernel_rfl) (fun _ _ _ h => h) (Or.inl ⟨by rfl, ?py1⟩) (by assumption) ?pr1
  case py1 => intro w hSw; (try dsimp only at hSw); go_simp; all_goals with_reducible rfl
  try simp only [getElem_toArray, getElem_cons_zero, getElem_cons_succ, Act.put, setIfInBounds_toArray, set_cons_zero, set_cons_succ]
  refine wpAnyH_take (i := 2) (v := ?_) rfl (by kernel_rfl) (by kernel_rfl) (by kernel_rfl) (fun _ _ _ h => h) (Or.inl ⟨by rfl, ?py2⟩) (by assumption) ?pr2
  case py2 => intro w hSw; (try dsimp only at hSw); go_simp; all_goals with_reducible rfl
  try simp only [getElem_toArray, getElem_cons_zero, getElem_cons_succ, Act.put, setIfInBounds_toArray, set_cons_zero, set_cons_succ]
  refine wpAnyH_take (i := 4) (v := ?_) rfl (by kernel_rfl) (by kernel_rfl) (by kernel_rfl) (fun _ _ _ h => h) (Or.inl ⟨by rfl, ?py4⟩) (by assumption) ?pr4
  case py4 => intro w hSw; (try dsimp only at hSw); go_simp; all_goals with_reducible rfl
  try simp only [getElem_toArray, getElem_cons_zero, getElem_cons_succ, Act.put, setIfInBounds_toArray, set_cons_zero, set_cons_succ]
  refine wpAnyH_take (i := 5) (v := ?_) rfl (by kernel_rfl) (by kernel_rfl) (by kernel_rfl) (fun _ _ _ h => h) (Or.inl ⟨by rfl, ?py5⟩) (by assumption) ?pr5
  case py5 => intro w hSw; (try dsimp only at hSw); go_simp; all_goals with_reducible rfl
  try simp only [getElem_toArray, getElem_cons_zero, getElem_cons_succ, Act.put, setIfInBounds_toArray, set_cons_zero, set_cons_succ]
  refine wpAnyH_ready (rs := [3]) (by kernel_rfl) (by simp) ?_
  refine AllReadyH.cons rfl (fun K hK => ?_) AllReadyH.nil
  go_simp
  with_reducible refine (C1.out _ HB0.out.mem.below).mono ?_
  rintro e W1 ⟨rfl, hb1⟩
  try go_wp2_with fail
  refine hK.out _ _ (KS2.out _ _ (HB0.out.after hb1)) (fun hHeld => ?_)
  clear hK K
  try simp only [getElem_toArray, getElem_cons_zero, getElem_cons_succ, Act.put, setIfInBounds_toArray, set_cons_zero, set_cons_succ]
  refine wpAnyH_ready (rs := [6]) (by kernel_rfl) (by simp) ?_
  refine AllReadyH.cons rfl (fun K hK => ?_) AllReadyH.nil
  go_simp
  with_reducible refine (C2.out _ (HB0.out.after hb1).mem.below).mono ?_
  rintro e W2 ⟨rfl, hb2⟩
  try go_wp2_with fail
  refine hK.out _ _ (KS2.out _ _ ((HB0.out.after hb1).after hb2)) (fun hHeld => ?_)
  clear hK K
  try simp only [getElem_toArray, getElem_cons_zero, getElem_cons_succ, Act.put, setIfInBounds_toArray, set_cons_zero, set_cons_succ]
  refine wpAnyH_ready (rs := [7]) (by kernel_rfl) (by simp) ?_
  refine AllReadyH.cons rfl (fun K hK => ?_) AllReadyH.nil
  go_simp
  refine hK.out _ _ (KS2.out _ _ (((HB0.out.after hb1).after hb2).after ((Below.refl _ _).alloc (Nat.le_refl _) _))) (fun hHeld => ?_)
  clear hK K
  try simp only [getElem_toArray, getElem_cons_zero, getElem_cons_succ, Act.put, setIfInBounds_toArray, set_cons_zero, set_cons_succ]
  refine wpAnyH_ready (rs := [8]) (by kernel_rfl) (by simp) ?_
  refine AllReadyH.cons rfl (fun K hK => ?_) AllReadyH.nil
  go_simp
  with_reducible refine (CL1.out _ ((HB0.out.after hb1).after hb2)).mono ?_
  rintro e W3 ⟨rfl, hB3⟩
  try go_wp2_with fail
  refine hK.out _ _ (KS2.out _ _ hB3) (fun hHeld => ?_)
  clear hK K
  try simp only [getElem_toArray, getElem_cons_zero, getElem_cons_succ, Act.put, setIfInBounds_toArray, set_cons_zero, set_cons_succ]
  refine wpAnyH_done (by kernel_rfl) ?_ _
  have HB1 : Hid (Bu w W3 g ((l ++ P) ++ T1) K1) := hB3
  have k26 := (KS.out _ _ hB3).2.2.2.1
  have CF := C3.out _ hB3.mem.below
  clear hB3 hb1 hb2 HB0 KS2 CL1
  go_wp2_with fail
  refine CF.mono ?_
  rintro e _ ⟨rfl, rfl⟩
  have CM := CL2.out _ HB1.out
  clear CF k26
  go_wp2_with fail
  refine CM.mono ?_
  rintro e W4 ⟨rfl, hB4⟩
  have k27 := (KS.out _ _ hB4).2.2.2.2.1
  have CS := CP3.out _ hB4
  clear hB4 CM HB1 CL2
  go_wp2_with fail
  refine CS.mono ?_
  rintro e W5 ⟨rfl, hB5⟩
  have k28 := (KS.out _ _ hB5).2.2.2.2.2.1
  have CT := CP4.out _ hB5
  clear hB5 CS k27 CP3
  go_wp2_with fail
  refine CT.mono ?_
  rintro e W6 ⟨rfl, hB6⟩
  have HBX : Hid (Bu w W6 g (((((l ++ P) ++ T1) ++ T2) ++ T3) ++ T4) K1) := hB6
  clear hB6 CT k28 CP4
  go_upto_region 7 with fail
  refine wp_letter (fun X => Bu w X g (((((l ++ P) ++ T1) ++ T2) ++ T3) ++ T4) K1) (by exact HBX.out) ?_
  intro Vq hR
  have HB0 : Hid (Bu w Vq.drew g (((((l ++ P) ++ T1) ++ T2) ++ T3) ++ T4) K1) := hR.after ((Below.refl _ _).drew)
  have KS2 : Hid (∀ X L', Bu w X g L' K1 → X.cell? ⟨g1, 29, none⟩ = some (.int .i64 n6) ∧ X.cell? ⟨g1, 30, none⟩ = some (.int .i64 n7)) := fun X L' hX => by
   obtain ⟨a1, a2, a3, a4, a5, a6, a7, a8, a9, a10⟩ := KS.out X L' hX
   exact ⟨a7, a8⟩
  clear hR HBX
  refine wp_region_held_drew (S := fun X => X.cell? ⟨g1, 29, none⟩ = some (.int .i64 n6) ∧ X.cell? ⟨g1, 30, none⟩ = some (.int .i64 n7)) (by kernel_rfl) (KS2.out _ _ HB0.out) (fun hHeld => ?_)
  refine wpAnyH_take (i := 0) (v := ?_) rfl (by kernel_rfl) (by kernel_rfl) (by kernel_rfl) (fun _ _ _ h => h) (Or.inl ⟨by rfl, ?qy0⟩) (by assumption) ?qr0
  case qy0 => intro w hSw; (try dsimp only at hSw); go_simp; all_goals with_reducible rfl
  try simp only [getElem_toArray, getElem_cons_zero, getElem_cons_succ, Act.put, setIfInBounds_toArray, set_cons_zero, set_cons_succ]
  refine wpAnyH_take (i := 1) (v := ?_) rfl (by kernel_rfl) (by kernel_rfl) (by kernel_rfl) (fun _ _ _ h => h) (Or.inl ⟨by rfl, ?qy1⟩) (by assumption) ?qr1
  case qy1 => intro w hSw; (try dsimp only at hSw); go_simp; all_goals with_reducible rfl
  try simp only [getElem_toArray, getElem_cons_zero, getElem_cons_succ, Act.put, setIfInBounds_toArray, set_cons_zero, set_cons_succ]
  refine wpAnyH_take (i := 2) (v := ?_) rfl (by kernel_rfl) (by kernel_rfl) (by kernel_rfl) (fun _ _ _ h => h) (Or.inl ⟨by rfl, ?qy2⟩) (by assumption) ?qr2
  case qy2 => intro w hSw; (try dsimp only at hSw); go_simp; all_goals with_reducible rfl
  try simp only [getElem_toArray, getElem_cons_zero, getElem_cons_succ, Act.put, setIfInBounds_toArray, set_cons_zero, set_cons_succ]
  refine wpAnyH_take (i := 4) (v := ?_) rfl (by kernel_rfl) (by kernel_rfl) (by kernel_rfl) (fun _ _ _ h => h) (Or.inl ⟨by rfl, ?qy4⟩) (by assumption) ?qr4
  case qy4 => intro w hSw; (try dsimp only at hSw); go_simp; all_goals with_reducible rfl
  try simp only [getElem_toArray, getElem_cons_zero, getElem_cons_succ, Act.put, setIfInBounds_toArray, set_cons_zero, set_cons_succ]
  refine wpAnyH_take (i := 5) (v := ?_) rfl (by kernel_rfl) (by kernel_rfl) (by kernel_rfl) (fun _ _ _ h => h) (Or.inl ⟨by rfl, ?qy5⟩) (by assumption) ?qr5
  case qy5 => intro w hSw; (try dsimp only at hSw); go_simp; all_goals with_reducible rfl
  try simp only [getElem_toArray, getElem_cons_zero, getElem_cons_succ, Act.put, setIfInBounds_toArray, set_cons_zero, set_cons_succ]
  refine wpAnyH_ready (rs := [3]) (by kernel_rfl) (by simp) ?_
  refine AllReadyH.cons rfl (fun K hK => ?_) AllReadyH.nil
  go_simp
  with_reducible refine (C6.out _ HB0.out.mem.below).mono ?_
  rintro e W1 ⟨rfl, hb1⟩
  try go_wp2_with fail
  refine hK.out _ _ (KS2.out _ _ (HB0.out.after hb1)) (fun hHeld => ?_)
  clear hK K
  try simp only [getElem_toArray, getElem_cons_zero, getElem_cons_succ, Act.put, setIfInBounds_toArray, set_cons_zero, set_cons_succ]
  refine wpAnyH_ready (rs := [6]) (by kernel_rfl) (by simp) ?_
  refine AllReadyH.cons rfl (fun K hK => ?_) AllReadyH.nil
  go_simp
  with_reducible refine (C7.out _ (HB0.out.after hb1).mem.below).mono ?_
  rintro e W2 ⟨rfl, hb2⟩
  try go_wp2_with fail
  refine hK.out _ _ (KS2.out _ _ ((HB0.out.after hb1).after hb2)) (fun hHeld => ?_)
  clear hK K
  try simp only [getElem_toArray, getElem_cons_zero, getElem_cons_succ, Act.put, setIfInBounds_toArray, set_cons_zero, set_cons_succ]
  refine wpAnyH_ready (rs := [7]) (by kernel_rfl) (by simp) ?_
  refine AllReadyH.cons rfl (fun K hK => ?_) AllReadyH.nil
  go_simp
  refine hK.out _ _ (KS2.out _ _ (((HB0.out.after hb1).after hb2).after ((Below.refl _ _).alloc (Nat.le_refl _) _))) (fun hHeld => ?_)
  clear hK K
  try simp only [getElem_toArray, getElem_cons_zero, getElem_cons_succ, Act.put, setIfInBounds_toArray, set_cons_zero, set_cons_succ]
  refine wpAnyH_ready (rs := [8]) (by kernel_rfl) (by simp) ?_
  refine AllReadyH.cons rfl (fun K hK => ?_) AllReadyH.nil
  go_simp
  with_reducible refine (CL5.out _ ((HB0.out.after hb1).after hb2)).mono ?_
  rintro e W3 ⟨rfl, hB3⟩
  try go_wp2_with fail
  refine hK.out _ _ (KS2.out _ _ hB3) (fun hHeld => ?_)
  clear hK K
  try simp only [getElem_toArray, getElem_cons_zero, getElem_cons_succ, Act.put, setIfInBounds_toArray, set_cons_zero, set_cons_succ]
  refine wpAnyH_done (by kernel_rfl) ?_ _
  have HBX : Hid (Bu w W3 g ((((((l ++ P) ++ T1) ++ T2) ++ T3) ++ T4) ++ T5) K1) := hB3
  clear hB3 hb1 hb2 HB0 KS2 CL5
  go_upto_region 8 with fail
  refine wp_letter (fun X => Bu w X g ((((((l ++ P) ++ T1) ++ T2) ++ T3) ++ T4) ++ T5) K1) (by exact HBX.out) ?_
  intro Vr hR
  have HB0 : Hid (Bu w Vr.drew g ((((((l ++ P) ++ T1) ++ T2) ++ T3) ++ T4) ++ T5) K1) := hR.after ((Below.refl _ _).drew)
  have KS2 : Hid (∀ X L', Bu w X g L' K1 → X.cell? ⟨g1, 31, none⟩ = some (.int .u32 n8) ∧ X.cell? ⟨g1, 32, none⟩ = some (.int .u32 n9)) := fun X L' hX => by
   obtain ⟨a1, a2, a3, a4, a5, a6, a7, a8, a9, a10⟩ := KS.out X L' hX
   exact ⟨a9, a10⟩
  clear hR HBX
  refine wp_region_held_drew (S := fun X => X.cell? ⟨g1, 31, none⟩ = some (.int .u32 n8) ∧ X.cell? ⟨g1, 32, none⟩ = some (.int .u32 n9)) (by kernel_rfl) (KS2.out _ _ HB0.out) (fun hHeld => ?_)
  refine wpAnyH_take (i := 0) (v := ?_) rfl (by kernel_rfl) (by kernel_rfl) (by kernel_rfl) (fun _ _ _ h => h) (Or.inl ⟨by rfl, ?ry0⟩) (by assumption) ?rr0
  case ry0 => intro w hSw; (try dsimp only at hSw); go_simp; all_goals with_reducible rfl
  try simp only [getElem_toArray, getElem_cons_zero, getElem_cons_succ, Act.put, setIfInBounds_toArray, set_cons_zero, set_cons_succ]
  refine wpAnyH_take (i := 1) (v := ?_) rfl (by kernel_rfl) (by kernel_rfl) (by kernel_rfl) (fun _ _ _ h => h) (Or.inl ⟨by rfl, ?ry1⟩) (by assumption) ?rr1
  case ry1 => intro w hSw; (try dsimp only at hSw); go_simp; all_goals with_reducible rfl
  try simp only [getElem_toArray, getElem_cons_zero, getElem_cons_succ, Act.put, setIfInBounds_toArray, set_cons_zero, set_cons_succ]
  refine wpAnyH_take (i := 2) (v := ?_) rfl (by kernel_rfl) (by kernel_rfl) (by kernel_rfl) (fun _ _ _ h => h) (Or.inl ⟨by rfl, ?ry2⟩) (by assumption) ?rr2
  case ry2 => intro w hSw; (try dsimp only at hSw); go_simp; all_goals with_reducible rfl
  try simp only [getElem_toArray, getElem_cons_zero, getElem_cons_succ, Act.put, setIfInBounds_toArray, set_cons_zero, set_cons_succ]
  refine wpAnyH_take (i := 4) (v := ?_) rfl (by kernel_rfl) (by kernel_rfl) (by kernel_rfl) (fun _ _ _ h => h) (Or.inl ⟨by rfl, ?ry4⟩) (by assumption) ?rr4
  case ry4 => intro w hSw; (try dsimp only at hSw); go_simp; all_goals with_reducible rfl
  try simp only [getElem_toArray, getElem_cons_zero, getElem_cons_succ, Act.put, setIfInBounds_toArray, set_cons_zero, set_cons_succ]
  refine wpAnyH_take (i := 5) (v := ?_) rfl (by kernel_rfl) (by kernel_rfl) (by kernel_rfl) (fun _ _ _ h => h) (Or.inl ⟨by rfl, ?ry5⟩) (by assumption) ?rr5
  case ry5 => intro w hSw; (try dsimp only at hSw); go_simp; all_goals with_reducible rfl
  try simp only [getElem_toArray, getElem_cons_zero, getElem_cons_succ, Act.put, setIfInBounds_toArray, set_cons_zero, set_cons_succ]
  refine wpAnyH_ready (rs := [3]) (by kernel_rfl) (by simp) ?_
  refine AllReadyH.cons rfl (fun K hK => ?_) AllReadyH.nil
  go_simp
  with_reducible refine (C8.out _ HB0.out.mem.below).mono ?_
  rintro e W1 ⟨rfl, hb1⟩
  try go_wp2_with fail
  refine hK.out _ _ (KS2.out _ _ (HB0.out.after hb1)) (fun hHeld => ?_)
  clear hK K
  try simp only [getElem_toArray, getElem_cons_zero, getElem_cons_succ, Act.put, setIfInBounds_toArray, set_cons_zero, set_cons_succ]
  refine wpAnyH_ready (rs := [6]) (by kernel_rfl) (by simp) ?_
  refine AllReadyH.cons rfl (fun K hK => ?_) AllReadyH.nil
  go_simp
  with_reducible refine (C9.out _ (HB0.out.after hb1).mem.below).mono ?_
  rintro e W2 ⟨rfl, hb2⟩
  try go_wp2_with fail
  refine hK.out _ _ (KS2.out _ _ ((HB0.out.after hb1).after hb2)) (fun hHeld => ?_)
  clear hK K
  try simp only [getElem_toArray, getElem_cons_zero, getElem_cons_succ, Act.put, setIfInBounds_toArray, set_cons_zero, set_cons_succ]
  refine wpAnyH_ready (rs := [7]) (by kernel_rfl) (by simp) ?_
  refine AllReadyH.cons rfl (fun K hK => ?_) AllReadyH.nil
  go_simp
  refine hK.out _ _ (KS2.out _ _ (((HB0.out.after hb1).after hb2).after ((Below.refl _ _).alloc (Nat.le_refl _) _))) (fun hHeld => ?_)
  clear hK K
  try simp only [getElem_toArray, getElem_cons_zero, getElem_cons_succ, Act.put, setIfInBounds_toArray, set_cons_zero, set_cons_succ]
  refine wpAnyH_ready (rs := [8]) (by kernel_rfl) (by simp) ?_
  refine AllReadyH.cons rfl (fun K hK => ?_) AllReadyH.nil
  go_simp
  with_reducible refine (CL6.out _ ((HB0.out.after hb1).after hb2)).mono ?_
  rintro e W3 ⟨rfl, hB3⟩
  try go_wp2_with fail
  refine hK.out _ _ (KS2.out _ _ hB3) (fun hHeld => ?_)
  clear hK K
  try simp only [getElem_toArray, getElem_cons_zero, getElem_cons_succ, Act.put, setIfInBounds_toArray, set_cons_zero, set_cons_succ]
  refine wpAnyH_done (by kernel_rfl) ?_ _
  have HF : Hid (Bu w W3 g (l ++ (P ++ (T1 ++ (T2 ++ (T3 ++ (T4 ++ (T5 ++ T6))))))) K1) := hB3
  clear hB3 hb1 hb2 HB0 KS2 CL6
  go_wp2_with fail
  go_end0
  exact ⟨rfl, HDr.out _ _ HF.out⟩
end Go.Proofs.YtneciccdiledfaaGreatDoor
namespace Go.Proofs.YtneciccdiledfaaGreatDoor
open Go.RowKit
open List (getElem_toArray getElem_cons_zero getElem_cons_succ setIfInBounds_toArray set_cons_zero set_cons_succ)
open La
open Ad
def lnN (g : Nat) (w : World) : Nat := match w.cell? ⟨g, 0, none⟩ with
 | some (.slice _ n _) => n
 | _ => 0
theorem lnN_of {w V : World} {g : Nat} {lp : List Value} {lt : TypeId} {σ : Sg} {W K : List (Nat × Obj)} (h : LnS w V g lp lt σ W K) : lnN g V = σ.ws.length := by
 obtain ⟨-, -, v, ⟨a, c, rfl, -⟩, hM⟩ := h
 have : V.cell? ⟨g, 0, none⟩ = some (.slice a σ.ws.length c) := hM.cell 0 rfl 0
 unfold lnN; rw [this]
theorem LnS.len {w V : World} {g : Nat} {lp : List Value} {lt : TypeId} {σ : Sg} {W K : List (Nat × Obj)} (h : LnS w V g lp lt σ W K) : ∃ a c, V.cell? ⟨g, 0, none⟩ = some (.slice a σ.ws.length c) := by
 obtain ⟨-, -, v, ⟨a, c, rfl, -⟩, hM⟩ := h
 exact ⟨a, c, hM.cell 0 rfl 0⟩
set_option maxHeartbeats 8000000 in
theorem part_pool {w V : World} {g : Nat} {lp : List Value} {lt : TypeId} {σ : Sg} {W K L : List (Nat × Obj)} {gt : Nat} {pre post : List Value} {T : TypeId} {t : Ten} (hV : Vs w) (hF : FW w) (h : LnS w V g lp lt σ W (L ++ K)) (hT : TAt gt pre post T t L) (hlen : t.pool.length + σ.ws.length ≤ 900000) (b : Wd) (hb : b.1.data.toList = wPool) :
  Calls Tryz.prog 83 #[.pointer (some ⟨g, 0, none⟩), .agg #[.string b.1, .int .i64 b.2], .pointer (some ⟨gt, pre.length, none⟩)] V (PP w g lp lt W K gt pre post T (La.part b t σ)) := by
 obtain ⟨b1, b2⟩ := b
 simp only at hb
 have hb1 : b1 = ⟨#[112, 111, 111, 108]⟩ := by rw [show b1 = ⟨b1.data.toList.toArray⟩ from rfl, hb]; rfl
 have hp : La.part (b1, b2) t σ = ({ t with pool := t.pool ++ (pl σ.ws σ.fin σ.bad).1 }, (pl σ.ws σ.fin σ.bad).2) := by unfold La.part; rw [if_pos hb]
 rw [hp, h.1]
 have hsb : σ = ⟨σ.ws, σ.fin, none⟩ := by have := h.1; obtain ⟨a, b, c⟩ := σ; simp only at this; subst this; rfl
 have hfin : σ.fin = σ.fin := rfl
 obtain ⟨ws0, hws0⟩ : ∃ x, σ.ws = x := ⟨_, rfl⟩
 obtain ⟨fin, hfin⟩ : ∃ x, σ.fin = x := ⟨_, rfl⟩
 rw [hws0, hfin] at hsb ⊢
 rw [hws0] at hlen
 clear hws0 hfin
 obtain ⟨R1, hR1⟩ : ∃ x, (pl ws0 fin none).1 = x := ⟨_, rfl⟩
 obtain ⟨R2, hR2⟩ : ∃ x, (pl ws0 fin none).2 = x := ⟨_, rfl⟩
 rw [hR1, hR2]
 subst hsb
 clear hb hp
 subst hb1
 have HR0 : Hid (LnS w (V.alloc (.cells #[.string ⟨#[112, 111, 111, 108]⟩, .int .i64 b2] 149)) g lp lt ⟨ws0, fin, none⟩ W (L ++ K)) := h.after ((Below.refl _ _).alloc (Nat.le_refl _) _)
 have HT : Hid (TAt gt pre post T t L) := hT
 clear h hT
 obtain ⟨n, hn⟩ : ∃ n, pre.length = n := ⟨_, rfl⟩
 have HN : Hid (pre.length = n) := hn
 rw [hn]
 clear hn
 go_enter Tryz.func83, Tryz.ntmps83
 have H0 : Hid (∃ L acc, LnS w (V.alloc (.cells #[.string ⟨#[112, 111, 111, 108]⟩, .int .i64 b2] 149)) g lp lt ⟨ws0, fin, none⟩ W (L ++ K) ∧ TAt gt pre post T { t with pool := t.pool ++ acc } L ∧ acc ++ (pl ws0 fin none).1 = R1 ∧ (pl ws0 fin none).2 = R2 ∧ t.pool.length + acc.length + ws0.length ≤ 900000) := ⟨L, [], HR0.out, by rw [List.append_nil]; exact HT.out, by rw [List.nil_append]; exact hR1, hR2, by simpa using hlen⟩
 have HX : Hid (1 + 1 = 2) := rfl
 clear hR1 hR2 HR0 HT hlen
 go_wp2_with fail
 go_loopw [] (fun w' => ∃ r, Hid (∃ L acc, LnS w w' g lp lt ⟨r, fin, none⟩ W (L ++ K) ∧ TAt gt pre post T { t with pool := t.pool ++ acc } L ∧ acc ++ (pl r fin none).1 = R1 ∧ (pl r fin none).2 = R2 ∧ t.pool.length + acc.length + r.length ≤ 900000)) (fun w' => lnN g w')
 case atStart => exact ⟨ws0, H0⟩
 case round =>
  obtain ⟨r, HR⟩ := hrel
  clear H0
  obtain ⟨L0, acc, hR, hT, hp1, hp2, hlen⟩ := HR.out
  obtain ⟨wa, wc, dl⟩ := hR.len
  simp only at dl
  cases r with
  | nil =>
   rw [pl] at hp1 hp2
   simp only [List.append_nil] at hp1 hp2
   subst hp1
   subst hp2
   have HF : Hid (LnS w wr g lp lt ⟨[], fin, none⟩ W (L0 ++ K) ∧ TAt gt pre post T { t with pool := t.pool ++ acc } L0) := ⟨hR, hT⟩
   clear HR hR hT hlen
   go_wp2_with fail
   go_end0
   exact Or.inl ⟨rfl, rfl, L0, HF.out.2, HF.out.1⟩
  | cons b r =>
   have hlz : (0 : Int) < ((b :: r).length : Nat) := by simp
   obtain ⟨nl, hnl⟩ : ∃ nl, (b :: r).length = nl := ⟨_, rfl⟩
   rw [hnl] at dl hlz hlen
   obtain ⟨A, p, B, R, hperm, hpA, hB, hlt, hnew⟩ := (tat_list hT w []).1
   rw [HN.out] at hpA hlt hnew
   have hR2 : LnS w wr g lp lt ⟨b :: r, fin, none⟩ W ((gt, .cells A T (0, 0)) :: (B ++ (R ++ K))) := (hR.perm (hperm.append_right K)).perm (by classical rw [List.perm_iff_count]; intro z; simp only [List.count_append, List.count_cons]; omega)
   have HG : Hid (∀ X σ', LnS w X g lp lt σ' W ((gt, .cells A T (0, 0)) :: (B ++ (R ++ K))) → X.cell? ⟨gt, n + 23, none⟩ = some p) := fun X σ' hX => (hX.cellK (i := 0) rfl (n + 23)).trans hpA
   obtain ⟨pa, pm, pc, rfl⟩ := owb_slice hB
   have hR2d := hR2.after ((Below.refl _ _).drew)
   have C := value_ip hV hR2d
   have p0 := HG.out _ _ hR2d
   have hl0 := lnN_of hR2
   cases hip : ip b.1.data.toList with
   | none =>
    have hbz := vnx_no (f := ip) (σ := ⟨b :: r, fin, none⟩) rfl rfl (by rw [hip]; rfl)
    have hbad : R2.bad = some b.2 := by rw [← hp2, pl, hip]
    have C2 : Calls Tryz.prog 73 #[.pointer (some ⟨g, 0, none⟩), .func (.func 74) #[] #[]] wr.drew (Pan w b.2) := C.mono (by
     rintro e V1 (⟨h1, -⟩ | ⟨a', h1, hP⟩)
     ·rw [hbz] at h1; cases h1
     ·rw [hbz] at h1; cases h1; exact hP)
    clear C HR hR hT hp1 hp2 hlen hperm hpA hB hlt hnew hR2 hR2d hl0 hip hbz hnl
    go_upto_region 5 with fail
    refine wp_region_held_drew (S := fun _ => True) (by kernel_rfl) trivial (fun hHeld => ?_)
    refine wpAnyH_take (i := 0) (v := ?_) rfl (by kernel_rfl) (by kernel_rfl) (by kernel_rfl) (fun _ _ _ h => h) (Or.inl ⟨by rfl, ?pay0⟩) (by assumption) ?par0
    case pay0 => intro w hSw; (try dsimp only at hSw); go_simp; all_goals with_reducible rfl
    try simp only [getElem_toArray, getElem_cons_zero, getElem_cons_succ, Act.put, setIfInBounds_toArray, set_cons_zero, set_cons_succ]
    refine wpAnyH_take (i := 1) (v := ?_) rfl (by kernel_rfl) (by kernel_rfl) (by kernel_rfl) (fun _ _ _ h => h) (Or.inl ⟨by rfl, ?pay1⟩) (by assumption) ?par1
    case pay1 => intro w hSw; (try dsimp only at hSw); go_simp; all_goals with_reducible rfl
    try simp only [getElem_toArray, getElem_cons_zero, getElem_cons_succ, Act.put, setIfInBounds_toArray, set_cons_zero, set_cons_succ]
    refine wpAnyH_take (i := 2) (v := ?_) rfl (by kernel_rfl) (by kernel_rfl) (by kernel_rfl) (fun _ _ _ h => h) (Or.inl ⟨by rfl, ?pay2⟩) (by assumption) ?par2
    case pay2 => intro w hSw; (try dsimp only at hSw); go_simp; all_goals with_reducible rfl
    try simp only [getElem_toArray, getElem_cons_zero, getElem_cons_succ, Act.put, setIfInBounds_toArray, set_cons_zero, set_cons_succ]
    refine wpAnyH_take (i := 3) (v := ?_) rfl (by kernel_rfl) (by kernel_rfl) (by kernel_rfl) (fun _ _ _ h => h) (Or.inl ⟨by rfl, ?pay3⟩) (by assumption) ?par3
    case pay3 => intro w hSw; (try dsimp only at hSw); go_simp; all_goals with_reducible rfl
    try simp only [getElem_toArray, getElem_cons_zero, getElem_cons_succ, Act.put, setIfInBounds_toArray, set_cons_zero, set_cons_succ]
    refine wpAnyH_take (i := 5) (v := ?_) rfl (by kernel_rfl) (by kernel_rfl) (by kernel_rfl) (fun _ _ _ h => h) (Or.inl ⟨by rfl, ?pay5⟩) (by assumption) ?par5
    case pay5 => intro w hSw; (try dsimp only at hSw); go_simp; all_goals with_reducible rfl
    try simp only [getElem_toArray, getElem_cons_zero, getElem_cons_succ, Act.put, setIfInBounds_toArray, set_cons_zero, set_cons_succ]
    refine wpAnyH_ready (rs := [4, 6]) (by kernel_rfl) (by simp) ?_
    refine AllReadyH.cons rfl (fun KK hK => ?_) (AllReadyH.cons rfl (fun KK hK => ?_) AllReadyH.nil)
    ·go_simp
     refine hK.out _ _ trivial (fun hHeld => ?_)
     clear hK KK
     try simp only [getElem_toArray, getElem_cons_zero, getElem_cons_succ, Act.put, setIfInBounds_toArray, set_cons_zero, set_cons_succ]
     refine wpAnyH_ready (rs := [6]) (by kernel_rfl) (by simp) ?_
     refine AllReadyH.cons rfl (fun KK hK => ?_) AllReadyH.nil
     go_simp
     with_reducible refine C2.mono ?_
     rintro e V1 ⟨g', rfl, hM⟩
     exact ⟨rfl, Or.inr ⟨_, hbad, g', rfl, hM⟩⟩
    ·go_simp
     with_reducible refine C2.mono ?_
     rintro e V1 ⟨g', rfl, hM⟩
     exact ⟨rfl, Or.inr ⟨_, hbad, g', rfl, hM⟩⟩
   | some m =>
    obtain ⟨hvn, hwd⟩ := vnx_yes (f := ip) (σ := ⟨b :: r, fin, none⟩) rfl rfl (by rw [hip]; rfl)
    simp only at hvn
    rw [hvn] at C
    have hval : nv (val ip ⟨b :: r, fin, none⟩) = (m : Int) := by show nv (ip b.1.data.toList) = m; rw [hip]; rfl
    rw [hval] at C
    rw [pl, hip] at hp1 hp2
    simp only at hp1 hp2
    obtain ⟨x, hx⟩ : ∃ x : Int, (m : Int) = x := ⟨_, rfl⟩
    rw [hx] at C hp1
    have C2 : Calls Tryz.prog 73 #[.pointer (some ⟨g, 0, none⟩), .func (.func 74) #[] #[]] wr.drew fun e V' => e = .returned (.int .u32 x) ∧ LnS w V' g lp lt ⟨r, fin, none⟩ W ((gt, .cells A T (0, 0)) :: (B ++ (R ++ K))) := C.mono (by
     rintro e V1 (⟨h1, hP⟩ | ⟨a', h1, hP⟩)
     ·exact hP
     ·cases h1)
    have hpl : ({ t with pool := t.pool ++ acc } : Ten).pool = t.pool ++ acc := rfl
    have STEP : Hid (∀ V2, LnS w V2 g lp lt ⟨r, fin, none⟩ W ((gt, .cells A T (0, 0)) :: (B ++ (R ++ K))) → ∃ v4 V4, (Builtin.append_ #[41, 41] 41 #[.slice pa pm pc, .slice (some ⟨V2.heap.size, 0, none⟩) 1 1]).run Tryz.prog (V2.alloc (.cells #[.int .u32 x] 23)) = .ok v4 V4 ∧ (∃ a m c, v4 = .slice a m c) ∧ (∃ v0, V4.cell? ⟨gt, n + 23, none⟩ = some v0) ∧ (∀ j, V4.frozen? ⟨gt, j, none⟩ = false) ∧
      ∀ a m c, v4 = .slice a m c → Hid (∃ L acc, LnS w (V4.setCell ⟨gt, n + 23, none⟩ v4) g lp lt ⟨r, fin, none⟩ W (L ++ K) ∧ TAt gt pre post T { t with pool := t.pool ++ acc } L ∧ acc ++ (pl r fin none).1 = R1 ∧ (pl r fin none).2 = R2 ∧ t.pool.length + acc.length + r.length ≤ 900000) ∧ lnN g (V4.setCell ⟨gt, n + 23, none⟩ v4) = r.length) := by
     intro V2 h2
     have h3 := h2.after ((Below.refl V2.heap.size V2).alloc (Nat.le_refl _) (.cells #[.int .u32 x] 23))
     obtain ⟨q1, q2, u, q3, q4⟩ := h3
     obtain ⟨v4, V4, B4, hrun, hM4, hB4⟩ := mem_append (t := 41) (ty := 41) Tryz.underlying41 infoU rfl (by decide) (K := (g, .cells (u :: .int .i64 fin :: lp).toArray lt (0, 0)) :: (gt, .cells A T (0, 0)) :: (R ++ (K ++ W))) (q4.perm (by classical rw [List.perm_iff_count]; intro z; simp only [List.count_append, List.count_cons]; omega)) hB ⟨V2.heap.size, 0, none⟩ [.int .u32 x] rfl (fun j u hj => by
       rw [addr_mid, Nat.zero_add, World.cell?_alloc_new]
       simpa using hj) (by simp; rfl) (by rw [hpl, List.length_append]; omega) (by rw [hpl, List.length_append]; omega)
     have h4 : LnS w V4 g lp lt ⟨r, fin, none⟩ W ((gt, .cells A T (0, 0)) :: (B4 ++ (R ++ K))) := ⟨q1, q2, u, q3, hM4.perm (by classical rw [List.perm_iff_count]; intro z; simp only [List.count_append, List.count_cons]; omega)⟩
     refine ⟨v4, V4, hrun, owb_slice hB4, ⟨_, (h4.cellK (i := 0) rfl (n + 23)).trans hpA⟩, h4.freeK (i := 0) rfl, fun a m c e => ?_⟩
     subst e
     have hT' := hnew x a m c B4 hB4
     have h5 := h4.set (i := 0) rfl (n + 23) (.slice a m c)
     refine ⟨⟨_, acc ++ [x], h5.perm (K' := (((gt, Obj.cells (A.setIfInBounds (n + 23) (.slice a m c)) T (0, 0)) :: (B4 ++ R)) ++ K)) ?_, by rw [← List.append_assoc]; exact hT', by rw [List.append_assoc]; exact hp1, hp2, by rw [List.length_append]; have : (b :: r).length = r.length + 1 := rfl; simp only [List.length_cons, List.length_nil]; omega⟩, lnN_of h5⟩
     rw [List.set_cons_zero]
     classical
     rw [List.perm_iff_count]
     intro z
     simp only [List.count_append, List.count_cons]
     omega
    clear C HR hR hT hp1 hp2 hlen hperm hpA hB hlt hnew hR2 hR2d hip hvn hwd hval hx
    go_upto_region 5 with fail
    refine wp_region_held_drew (S := fun _ => True) (by kernel_rfl) trivial (fun hHeld => ?_)
    refine wpAnyH_take (i := 0) (v := ?_) rfl (by kernel_rfl) (by kernel_rfl) (by kernel_rfl) (fun _ _ _ h => h) (Or.inl ⟨by rfl, ?qay0⟩) (by assumption) ?qar0
    case qay0 => intro w hSw; (try dsimp only at hSw); go_simp; all_goals with_reducible rfl
    try simp only [getElem_toArray, getElem_cons_zero, getElem_cons_succ, Act.put, setIfInBounds_toArray, set_cons_zero, set_cons_succ]
    refine wpAnyH_take (i := 1) (v := ?_) rfl (by kernel_rfl) (by kernel_rfl) (by kernel_rfl) (fun _ _ _ h => h) (Or.inl ⟨by rfl, ?qay1⟩) (by assumption) ?qar1
    case qay1 => intro w hSw; (try dsimp only at hSw); go_simp; all_goals with_reducible rfl
    try simp only [getElem_toArray, getElem_cons_zero, getElem_cons_succ, Act.put, setIfInBounds_toArray, set_cons_zero, set_cons_succ]
    refine wpAnyH_take (i := 2) (v := ?_) rfl (by kernel_rfl) (by kernel_rfl) (by kernel_rfl) (fun _ _ _ h => h) (Or.inl ⟨by rfl, ?qay2⟩) (by assumption) ?qar2
    case qay2 => intro w hSw; (try dsimp only at hSw); go_simp; all_goals with_reducible rfl
    try simp only [getElem_toArray, getElem_cons_zero, getElem_cons_succ, Act.put, setIfInBounds_toArray, set_cons_zero, set_cons_succ]
    refine wpAnyH_take (i := 3) (v := ?_) rfl (by kernel_rfl) (by kernel_rfl) (by kernel_rfl) (fun _ _ _ h => h) (Or.inl ⟨by rfl, ?qay3⟩) (by assumption) ?qar3
    case qay3 => intro w hSw; (try dsimp only at hSw); go_simp; all_goals with_reducible rfl
    try simp only [getElem_toArray, getElem_cons_zero, getElem_cons_succ, Act.put, setIfInBounds_toArray, set_cons_zero, set_cons_succ]
    refine wpAnyH_take (i := 5) (v := ?_) rfl (by kernel_rfl) (by kernel_rfl) (by kernel_rfl) (fun _ _ _ h => h) (Or.inl ⟨by rfl, ?qay5⟩) (by assumption) ?qar5
    case qay5 => intro w hSw; (try dsimp only at hSw); go_simp; all_goals with_reducible rfl
    try simp only [getElem_toArray, getElem_cons_zero, getElem_cons_succ, Act.put, setIfInBounds_toArray, set_cons_zero, set_cons_succ]
    refine wpAnyH_ready (rs := [4, 6]) (by kernel_rfl) (by simp) ?_
    refine AllReadyH.cons rfl (fun KK hK => ?_) (AllReadyH.cons rfl (fun KK hK => ?_) AllReadyH.nil)
    ·go_simp
     refine hK.out _ _ trivial (fun hHeld => ?_)
     clear hK KK
     try simp only [getElem_toArray, getElem_cons_zero, getElem_cons_succ, Act.put, setIfInBounds_toArray, set_cons_zero, set_cons_succ]
     refine wpAnyH_ready (rs := [6]) (by kernel_rfl) (by simp) ?_
     refine AllReadyH.cons rfl (fun KK hK => ?_) AllReadyH.nil
     go_simp
     with_reducible refine C2.mono ?_
     rintro e V1 ⟨rfl, hP⟩
     try go_wp2_with fail
     have p1 := HG.out _ _ hP
     have p2 := HG.out _ _ (hP.after ((Below.refl V1.heap.size V1).alloc (Nat.le_refl _) (.cells #[.int .u32 x] 23)))
     obtain ⟨v4, V4, hrun, ⟨qa, qm, qc, rfl⟩, ⟨v0, cv0⟩, fr4, hH⟩ := STEP.out _ hP
     obtain ⟨HH, hN'⟩ := hH qa qm qc rfl
     have HM : Hid (lnN g (V4.setCell ⟨gt, n + 23, none⟩ (.slice qa qm qc)) = r.length ∧ lnN g wr = (b :: r).length) := ⟨hN', hl0⟩
     clear hP hH hN'
     refine hK.out _ _ trivial (fun hHeld => ?_)
     clear hK KK
     try simp only [getElem_toArray, getElem_cons_zero, getElem_cons_succ, Act.put, setIfInBounds_toArray, set_cons_zero, set_cons_succ]
     refine wpAnyH_ready (rs := [7]) (by kernel_rfl) (by simp) ?_
     refine AllReadyH.cons rfl (fun KK hK => ?_) AllReadyH.nil
     go_simp
     refine hK.out _ _ trivial (fun hHeld => ?_)
     clear hK KK
     try simp only [getElem_toArray, getElem_cons_zero, getElem_cons_succ, Act.put, setIfInBounds_toArray, set_cons_zero, set_cons_succ]
     refine wpAnyH_ready (rs := [8]) (by kernel_rfl) (by simp) ?_
     refine AllReadyH.cons rfl (fun KK hK => ?_) AllReadyH.nil
     refine step_append_run rfl (.tmp 23) (.tmp 26) 41 41 rfl (by simp [Act.eval]) (by simp [Act.eval]) hrun ?_
     refine hK.out _ _ trivial (fun hHeld => ?_)
     clear hK KK
     try simp only [getElem_toArray, getElem_cons_zero, getElem_cons_succ, Act.put, setIfInBounds_toArray, set_cons_zero, set_cons_succ]
     refine wpAnyH_take (i := 9) (v := ?_) rfl (by kernel_rfl) (by kernel_rfl) (by kernel_rfl) (fun _ _ _ h => h) (Or.inl ⟨by rfl, ?qbzy9⟩) (by assumption) ?qbzr9
     case qbzy9 => intro w hSw; (try dsimp only at hSw); go_simp; all_goals with_reducible rfl
     try simp only [getElem_toArray, getElem_cons_zero, getElem_cons_succ, Act.put, setIfInBounds_toArray, set_cons_zero, set_cons_succ]
     refine wpAnyH_take (i := 10) (v := ?_) rfl (by kernel_rfl) (by kernel_rfl) (by kernel_rfl) (fun _ _ _ h => h) (Or.inl ⟨by rfl, ?qbzy10⟩) (by assumption) ?qbzr10
     case qbzy10 => intro w hSw; (try dsimp only at hSw); go_simp; all_goals with_reducible rfl
     try simp only [getElem_toArray, getElem_cons_zero, getElem_cons_succ, Act.put, setIfInBounds_toArray, set_cons_zero, set_cons_succ]
     refine wpAnyH_ready (rs := [11]) (by kernel_rfl) (by simp) ?_
     refine AllReadyH.cons rfl (fun KK hK => ?_) AllReadyH.nil
     go_simp
     refine hK.out _ _ trivial (fun hHeld => ?_)
     clear hK KK
     try simp only [getElem_toArray, getElem_cons_zero, getElem_cons_succ, Act.put, setIfInBounds_toArray, set_cons_zero, set_cons_succ]
     refine wpAnyH_done (by kernel_rfl) ?_ _
     go_wp2_with fail
     go_roundw
     case rel => exact ⟨r, HH⟩
     case measure => rw [HM.out.1, HM.out.2]; simp
    ·go_simp
     with_reducible refine C2.mono ?_
     rintro e V1 ⟨rfl, hP⟩
     try go_wp2_with fail
     have p1 := HG.out _ _ hP
     have p2 := HG.out _ _ (hP.after ((Below.refl V1.heap.size V1).alloc (Nat.le_refl _) (.cells #[.int .u32 x] 23)))
     obtain ⟨v4, V4, hrun, ⟨qa, qm, qc, rfl⟩, ⟨v0, cv0⟩, fr4, hH⟩ := STEP.out _ hP
     obtain ⟨HH, hN'⟩ := hH qa qm qc rfl
     have HM : Hid (lnN g (V4.setCell ⟨gt, n + 23, none⟩ (.slice qa qm qc)) = r.length ∧ lnN g wr = (b :: r).length) := ⟨hN', hl0⟩
     clear hP hH hN'
     refine hK.out _ _ trivial (fun hHeld => ?_)
     clear hK KK
     try simp only [getElem_toArray, getElem_cons_zero, getElem_cons_succ, Act.put, setIfInBounds_toArray, set_cons_zero, set_cons_succ]
     refine wpAnyH_ready (rs := [4, 7]) (by kernel_rfl) (by simp) ?_
     refine AllReadyH.cons rfl (fun KK hK => ?_) (AllReadyH.cons rfl (fun KK hK => ?_) AllReadyH.nil)
     ·go_simp
      refine hK.out _ _ trivial (fun hHeld => ?_)
      clear hK KK
      try simp only [getElem_toArray, getElem_cons_zero, getElem_cons_succ, Act.put, setIfInBounds_toArray, set_cons_zero, set_cons_succ]
      refine wpAnyH_ready (rs := [7]) (by kernel_rfl) (by simp) ?_
      refine AllReadyH.cons rfl (fun KK hK => ?_) AllReadyH.nil
      go_simp
      refine hK.out _ _ trivial (fun hHeld => ?_)
      clear hK KK
      try simp only [getElem_toArray, getElem_cons_zero, getElem_cons_succ, Act.put, setIfInBounds_toArray, set_cons_zero, set_cons_succ]
      refine wpAnyH_ready (rs := [8]) (by kernel_rfl) (by simp) ?_
      refine AllReadyH.cons rfl (fun KK hK => ?_) AllReadyH.nil
      refine step_append_run rfl (.tmp 23) (.tmp 26) 41 41 rfl (by simp [Act.eval]) (by simp [Act.eval]) hrun ?_
      refine hK.out _ _ trivial (fun hHeld => ?_)
      clear hK KK
      try simp only [getElem_toArray, getElem_cons_zero, getElem_cons_succ, Act.put, setIfInBounds_toArray, set_cons_zero, set_cons_succ]
      refine wpAnyH_take (i := 9) (v := ?_) rfl (by kernel_rfl) (by kernel_rfl) (by kernel_rfl) (fun _ _ _ h => h) (Or.inl ⟨by rfl, ?qczy9⟩) (by assumption) ?qczr9
      case qczy9 => intro w hSw; (try dsimp only at hSw); go_simp; all_goals with_reducible rfl
      try simp only [getElem_toArray, getElem_cons_zero, getElem_cons_succ, Act.put, setIfInBounds_toArray, set_cons_zero, set_cons_succ]
      refine wpAnyH_take (i := 10) (v := ?_) rfl (by kernel_rfl) (by kernel_rfl) (by kernel_rfl) (fun _ _ _ h => h) (Or.inl ⟨by rfl, ?qczy10⟩) (by assumption) ?qczr10
      case qczy10 => intro w hSw; (try dsimp only at hSw); go_simp; all_goals with_reducible rfl
      try simp only [getElem_toArray, getElem_cons_zero, getElem_cons_succ, Act.put, setIfInBounds_toArray, set_cons_zero, set_cons_succ]
      refine wpAnyH_ready (rs := [11]) (by kernel_rfl) (by simp) ?_
      refine AllReadyH.cons rfl (fun KK hK => ?_) AllReadyH.nil
      go_simp
      refine hK.out _ _ trivial (fun hHeld => ?_)
      clear hK KK
      try simp only [getElem_toArray, getElem_cons_zero, getElem_cons_succ, Act.put, setIfInBounds_toArray, set_cons_zero, set_cons_succ]
      refine wpAnyH_done (by kernel_rfl) ?_ _
      go_wp2_with fail
      go_roundw
      case rel => exact ⟨r, HH⟩
      case measure => rw [HM.out.1, HM.out.2]; simp
     ·go_simp
      refine hK.out _ _ trivial (fun hHeld => ?_)
      clear hK KK
      try simp only [getElem_toArray, getElem_cons_zero, getElem_cons_succ, Act.put, setIfInBounds_toArray, set_cons_zero, set_cons_succ]
      refine wpAnyH_ready (rs := [4]) (by kernel_rfl) (by simp) ?_
      refine AllReadyH.cons rfl (fun KK hK => ?_) AllReadyH.nil
      go_simp
      refine hK.out _ _ trivial (fun hHeld => ?_)
      clear hK KK
      try simp only [getElem_toArray, getElem_cons_zero, getElem_cons_succ, Act.put, setIfInBounds_toArray, set_cons_zero, set_cons_succ]
      refine wpAnyH_ready (rs := [8]) (by kernel_rfl) (by simp) ?_
      refine AllReadyH.cons rfl (fun KK hK => ?_) AllReadyH.nil
      refine step_append_run rfl (.tmp 23) (.tmp 26) 41 41 rfl (by simp [Act.eval]) (by simp [Act.eval]) hrun ?_
      refine hK.out _ _ trivial (fun hHeld => ?_)
      clear hK KK
      try simp only [getElem_toArray, getElem_cons_zero, getElem_cons_succ, Act.put, setIfInBounds_toArray, set_cons_zero, set_cons_succ]
      refine wpAnyH_take (i := 9) (v := ?_) rfl (by kernel_rfl) (by kernel_rfl) (by kernel_rfl) (fun _ _ _ h => h) (Or.inl ⟨by rfl, ?qdzy9⟩) (by assumption) ?qdzr9
      case qdzy9 => intro w hSw; (try dsimp only at hSw); go_simp; all_goals with_reducible rfl
      try simp only [getElem_toArray, getElem_cons_zero, getElem_cons_succ, Act.put, setIfInBounds_toArray, set_cons_zero, set_cons_succ]
      refine wpAnyH_take (i := 10) (v := ?_) rfl (by kernel_rfl) (by kernel_rfl) (by kernel_rfl) (fun _ _ _ h => h) (Or.inl ⟨by rfl, ?qdzy10⟩) (by assumption) ?qdzr10
      case qdzy10 => intro w hSw; (try dsimp only at hSw); go_simp; all_goals with_reducible rfl
      try simp only [getElem_toArray, getElem_cons_zero, getElem_cons_succ, Act.put, setIfInBounds_toArray, set_cons_zero, set_cons_succ]
      refine wpAnyH_ready (rs := [11]) (by kernel_rfl) (by simp) ?_
      refine AllReadyH.cons rfl (fun KK hK => ?_) AllReadyH.nil
      go_simp
      refine hK.out _ _ trivial (fun hHeld => ?_)
      clear hK KK
      try simp only [getElem_toArray, getElem_cons_zero, getElem_cons_succ, Act.put, setIfInBounds_toArray, set_cons_zero, set_cons_succ]
      refine wpAnyH_done (by kernel_rfl) ?_ _
      go_wp2_with fail
      go_roundw
      case rel => exact ⟨r, HH⟩
      case measure => rw [HM.out.1, HM.out.2]; simp
end Go.Proofs.YtneciccdiledfaaGreatDoor
namespace Go.Proofs.YtneciccdiledfaaGreatDoor
open Go.RowKit
open List (getElem_toArray getElem_cons_zero getElem_cons_succ setIfInBounds_toArray set_cons_zero set_cons_succ)
open La
open Ad
set_option maxHeartbeats 8000000 in
theorem part_twice {w V : World} {g : Nat} {lp : List Value} {lt : TypeId} {σ : Sg} {W K L : List (Nat × Obj)} {gt : Nat} {pre post : List Value} {T : TypeId} {t : Ten} (hV : Vs w) (hF : FW w) (h : LnS w V g lp lt σ W (L ++ K)) (hT : TAt gt pre post T t L) (hlen : t.twi.length ≤ 900000) (b : Wd) (hb : b.1.data.toList = wTwice) :
  Calls Tryz.prog 83 #[.pointer (some ⟨g, 0, none⟩), .agg #[.string b.1, .int .i64 b.2], .pointer (some ⟨gt, pre.length, none⟩)] V (PP w g lp lt W K gt pre post T (La.part b t σ)) := by
 obtain ⟨b1, b2⟩ := b
 simp only at hb
 have hb1 : b1 = ⟨#[116, 119, 105, 99, 101]⟩ := by rw [show b1 = ⟨b1.data.toList.toArray⟩ from rfl, hb]; rfl
 have hp : La.part (b1, b2) t σ = ({ t with twi := t.twi ++ [(nv (val ip σ), nv (val ip (vnx ip σ)))] }, two2 ip σ) := by unfold La.part; rw [if_neg (by rw [hb]; decide)]; rw [if_neg (by rw [hb]; decide)]; rw [if_neg (by rw [hb]; decide)]; rw [if_neg (by rw [hb]; decide)]; rw [if_pos hb]
 rw [hp]
 clear hb hp
 subst hb1
 have HR0 : Hid (LnS w (V.alloc (.cells #[.string ⟨#[116, 119, 105, 99, 101]⟩, .int .i64 b2] 149)) g lp lt σ W (L ++ K)) := h.after ((Below.refl _ _).alloc (Nat.le_refl _) _)
 have HT : Hid (TAt gt pre post T t L) := hT
 clear h hT
 obtain ⟨n, hn⟩ : ∃ n, pre.length = n := ⟨_, rfl⟩
 have HN : Hid (pre.length = n) := hn
 rw [hn]
 clear hn
 go_enter Tryz.func83, Tryz.ntmps83
 go_upto_region 14 with fail
 refine wp_letter (fun X => LnS w X g lp lt σ W (L ++ K)) (by exact HR0.out) ?_
 intro V0 hR
 have HR : Hid (LnS w V0 g lp lt σ W (L ++ K)) := hR
 obtain ⟨x, hx⟩ : ∃ x, nv (val ip σ) = x := ⟨_, rfl⟩
 obtain ⟨y, hy⟩ : ∃ y, nv (val ip (vnx ip σ)) = y := ⟨_, rfl⟩
 have HE : Hid (nv (val ip σ) = x ∧ nv (val ip (vnx ip σ)) = y) := ⟨hx, hy⟩
 obtain ⟨A, p, B, R, hperm, hpA, hB, hlt, hnew⟩ := (tat_list HT.out w []).2.2
 rw [HN.out] at hpA hlt hnew
 have hR1 := hR.perm (hperm.append_right K)
 have hR2 : LnS w V0 g lp lt σ W ((gt, .cells A T (0, 0)) :: (B ++ (R ++ K))) := hR1.perm (by classical rw [List.perm_iff_count]; intro z; simp only [List.count_append, List.count_cons]; omega)
 have HG : Hid (∀ X σ', LnS w X g lp lt σ' W ((gt, .cells A T (0, 0)) :: (B ++ (R ++ K))) → X.cell? ⟨gt, n + 28, none⟩ = some p) := fun X σ' hX => (hX.cellK (i := 0) rfl (n + 28)).trans hpA
 obtain ⟨pa, pm, pc, rfl⟩ := owb_slice hB
 have hR2d := hR2.after ((Below.refl _ _).drew)
 have C := pair2_any hV hR2d
 rw [hx, hy] at C
 have p0 := HG.out _ _ hR2d
 have STEP : Hid (∀ V2, LnS w V2 g lp lt (two2 ip σ) W ((gt, .cells A T (0, 0)) :: (B ++ (R ++ K))) → ∃ v4 V4, (Builtin.append_ #[43, 43] 43 #[.slice pa pm pc, .slice (some ⟨V2.heap.size, 0, none⟩) 1 1]).run Tryz.prog (V2.alloc (.cells #[.int .u32 x, .int .u32 y] 96)) = .ok v4 V4 ∧ (∃ a m c, v4 = .slice a m c) ∧ (∃ v0, V4.cell? ⟨gt, n + 28, none⟩ = some v0) ∧ (∀ j, V4.frozen? ⟨gt, j, none⟩ = false) ∧
   ∀ a m c, v4 = .slice a m c → ∃ L', TAt gt pre post T { t with twi := t.twi ++ [(x, y)] } L' ∧ LnS w (V4.setCell ⟨gt, n + 28, none⟩ v4) g lp lt (two2 ip σ) W (L' ++ K)) := by
  intro V2 h2
  have h3 := h2.after ((Below.refl V2.heap.size V2).alloc (Nat.le_refl _) (.cells #[.int .u32 x, .int .u32 y] 96))
  obtain ⟨q1, q2, u, q3, q4⟩ := h3
  obtain ⟨v4, V4, B4, hrun, hM4, hB4⟩ := mem_append (t := 43) (ty := 43) Tryz.underlying43 infoP rfl (by decide) (K := (g, .cells (u :: .int .i64 (two2 ip σ).fin :: lp).toArray lt (0, 0)) :: (gt, .cells A T (0, 0)) :: (R ++ (K ++ W))) (q4.perm (by classical rw [List.perm_iff_count]; intro z; simp only [List.count_append, List.count_cons]; omega)) hB ⟨V2.heap.size, 0, none⟩ [.int .u32 x, .int .u32 y] rfl (fun j u hj => by
    rw [addr_mid, Nat.zero_add, World.cell?_alloc_new]
    simpa using hj) (by simp; exact ⟨rfl, rfl⟩) (by omega) (by omega)
  have h4 : LnS w V4 g lp lt (two2 ip σ) W ((gt, .cells A T (0, 0)) :: (B4 ++ (R ++ K))) := ⟨q1, q2, u, q3, hM4.perm (by classical rw [List.perm_iff_count]; intro z; simp only [List.count_append, List.count_cons]; omega)⟩
  refine ⟨v4, V4, hrun, owb_slice hB4, ⟨_, (h4.cellK (i := 0) rfl (n + 28)).trans hpA⟩, h4.freeK (i := 0) rfl, fun a m c e => ?_⟩
  subst e
  obtain ⟨L', hL', hT'⟩ := hnew x y a m c B4 hB4
  refine ⟨L', hT', (h4.set (i := 0) rfl (n + 28) (.slice a m c)).perm ?_⟩
  rw [List.set_cons_zero]
  refine List.Perm.trans ?_ (hL'.symm.append_right K)
  classical
  rw [List.perm_iff_count]
  intro z
  simp only [List.count_append, List.count_cons]
  omega
 clear hR hR1 hR2 hR2d hperm hpA hnew hB HR HR0 HT hx hy hlt
 cases hbz : (two2 ip σ).bad with
 | some a =>
  have C2 : Calls Tryz.prog 107 #[.pointer (some ⟨g, 0, none⟩)] V0.drew (Pan w a) := C.mono (by
   rintro e V1 (⟨h1, -⟩ | ⟨a', h1, hP⟩)
   ·rw [hbz] at h1; cases h1
   ·rw [hbz] at h1; cases h1; exact hP)
  clear C STEP
  refine wp_region_held_drew (S := fun _ => True) (by kernel_rfl) trivial (fun hHeld => ?_)
  refine wpAnyH_take (i := 0) (v := ?_) rfl (by kernel_rfl) (by kernel_rfl) (by kernel_rfl) (fun _ _ _ h => h) (Or.inl ⟨by rfl, ?pay0⟩) (by assumption) ?par0
  case pay0 => intro w hSw; (try dsimp only at hSw); go_simp; all_goals with_reducible rfl
  try simp only [getElem_toArray, getElem_cons_zero, getElem_cons_succ, Act.put, setIfInBounds_toArray, set_cons_zero, set_cons_succ]
  refine wpAnyH_take (i := 1) (v := ?_) rfl (by kernel_rfl) (by kernel_rfl) (by kernel_rfl) (fun _ _ _ h => h) (Or.inl ⟨by rfl, ?pay1⟩) (by assumption) ?par1
  case pay1 => intro w hSw; (try dsimp only at hSw); go_simp; all_goals with_reducible rfl
  try simp only [getElem_toArray, getElem_cons_zero, getElem_cons_succ, Act.put, setIfInBounds_toArray, set_cons_zero, set_cons_succ]
  refine wpAnyH_take (i := 2) (v := ?_) rfl (by kernel_rfl) (by kernel_rfl) (by kernel_rfl) (fun _ _ _ h => h) (Or.inl ⟨by rfl, ?pay2⟩) (by assumption) ?par2
  case pay2 => intro w hSw; (try dsimp only at hSw); go_simp; all_goals with_reducible rfl
  try simp only [getElem_toArray, getElem_cons_zero, getElem_cons_succ, Act.put, setIfInBounds_toArray, set_cons_zero, set_cons_succ]
  refine wpAnyH_take (i := 3) (v := ?_) rfl (by kernel_rfl) (by kernel_rfl) (by kernel_rfl) (fun _ _ _ h => h) (Or.inl ⟨by rfl, ?pay3⟩) (by assumption) ?par3
  case pay3 => intro w hSw; (try dsimp only at hSw); go_simp; all_goals with_reducible rfl
  try simp only [getElem_toArray, getElem_cons_zero, getElem_cons_succ, Act.put, setIfInBounds_toArray, set_cons_zero, set_cons_succ]
  refine wpAnyH_take (i := 5) (v := ?_) rfl (by kernel_rfl) (by kernel_rfl) (by kernel_rfl) (fun _ _ _ h => h) (Or.inl ⟨by rfl, ?pay5⟩) (by assumption) ?par5
  case pay5 => intro w hSw; (try dsimp only at hSw); go_simp; all_goals with_reducible rfl
  try simp only [getElem_toArray, getElem_cons_zero, getElem_cons_succ, Act.put, setIfInBounds_toArray, set_cons_zero, set_cons_succ]
  refine wpAnyH_ready (rs := [4, 6]) (by kernel_rfl) (by simp) ?_
  refine AllReadyH.cons rfl (fun KK hK => ?_) (AllReadyH.cons rfl (fun KK hK => ?_) AllReadyH.nil)
  ·go_simp
   refine hK.out _ _ trivial (fun hHeld => ?_)
   clear hK KK
   try simp only [getElem_toArray, getElem_cons_zero, getElem_cons_succ, Act.put, setIfInBounds_toArray, set_cons_zero, set_cons_succ]
   refine wpAnyH_ready (rs := [6]) (by kernel_rfl) (by simp) ?_
   refine AllReadyH.cons rfl (fun KK hK => ?_) AllReadyH.nil
   go_simp
   with_reducible refine C2.mono ?_
   rintro e V1 ⟨g', rfl, hM⟩
   exact ⟨rfl, Or.inr ⟨_, hbz, g', rfl, hM⟩⟩
  ·go_simp
   with_reducible refine C2.mono ?_
   rintro e V1 ⟨g', rfl, hM⟩
   exact ⟨rfl, Or.inr ⟨_, hbz, g', rfl, hM⟩⟩
 | none =>
  have C2 : Calls Tryz.prog 107 #[.pointer (some ⟨g, 0, none⟩)] V0.drew fun e V' => e = .returned (.agg #[.int .u32 x, .int .u32 y]) ∧ LnS w V' g lp lt (two2 ip σ) W ((gt, .cells A T (0, 0)) :: (B ++ (R ++ K))) := C.mono (by
   rintro e V1 (⟨h1, hP⟩ | ⟨a', h1, hP⟩)
   ·exact hP
   ·rw [hbz] at h1; cases h1)
  have HB : Hid ((two2 ip σ).bad = none) := hbz
  clear C hbz
  refine wp_region_held_drew (S := fun _ => True) (by kernel_rfl) trivial (fun hHeld => ?_)
  refine wpAnyH_take (i := 0) (v := ?_) rfl (by kernel_rfl) (by kernel_rfl) (by kernel_rfl) (fun _ _ _ h => h) (Or.inl ⟨by rfl, ?qay0⟩) (by assumption) ?qar0
  case qay0 => intro w hSw; (try dsimp only at hSw); go_simp; all_goals with_reducible rfl
  try simp only [getElem_toArray, getElem_cons_zero, getElem_cons_succ, Act.put, setIfInBounds_toArray, set_cons_zero, set_cons_succ]
  refine wpAnyH_take (i := 1) (v := ?_) rfl (by kernel_rfl) (by kernel_rfl) (by kernel_rfl) (fun _ _ _ h => h) (Or.inl ⟨by rfl, ?qay1⟩) (by assumption) ?qar1
  case qay1 => intro w hSw; (try dsimp only at hSw); go_simp; all_goals with_reducible rfl
  try simp only [getElem_toArray, getElem_cons_zero, getElem_cons_succ, Act.put, setIfInBounds_toArray, set_cons_zero, set_cons_succ]
  refine wpAnyH_take (i := 2) (v := ?_) rfl (by kernel_rfl) (by kernel_rfl) (by kernel_rfl) (fun _ _ _ h => h) (Or.inl ⟨by rfl, ?qay2⟩) (by assumption) ?qar2
  case qay2 => intro w hSw; (try dsimp only at hSw); go_simp; all_goals with_reducible rfl
  try simp only [getElem_toArray, getElem_cons_zero, getElem_cons_succ, Act.put, setIfInBounds_toArray, set_cons_zero, set_cons_succ]
  refine wpAnyH_take (i := 3) (v := ?_) rfl (by kernel_rfl) (by kernel_rfl) (by kernel_rfl) (fun _ _ _ h => h) (Or.inl ⟨by rfl, ?qay3⟩) (by assumption) ?qar3
  case qay3 => intro w hSw; (try dsimp only at hSw); go_simp; all_goals with_reducible rfl
  try simp only [getElem_toArray, getElem_cons_zero, getElem_cons_succ, Act.put, setIfInBounds_toArray, set_cons_zero, set_cons_succ]
  refine wpAnyH_take (i := 5) (v := ?_) rfl (by kernel_rfl) (by kernel_rfl) (by kernel_rfl) (fun _ _ _ h => h) (Or.inl ⟨by rfl, ?qay5⟩) (by assumption) ?qar5
  case qay5 => intro w hSw; (try dsimp only at hSw); go_simp; all_goals with_reducible rfl
  try simp only [getElem_toArray, getElem_cons_zero, getElem_cons_succ, Act.put, setIfInBounds_toArray, set_cons_zero, set_cons_succ]
  refine wpAnyH_ready (rs := [4, 6]) (by kernel_rfl) (by simp) ?_
  refine AllReadyH.cons rfl (fun KK hK => ?_) (AllReadyH.cons rfl (fun KK hK => ?_) AllReadyH.nil)
  ·go_simp
   refine hK.out _ _ trivial (fun hHeld => ?_)
   clear hK KK
   try simp only [getElem_toArray, getElem_cons_zero, getElem_cons_succ, Act.put, setIfInBounds_toArray, set_cons_zero, set_cons_succ]
   refine wpAnyH_ready (rs := [6]) (by kernel_rfl) (by simp) ?_
   refine AllReadyH.cons rfl (fun KK hK => ?_) AllReadyH.nil
   go_simp
   with_reducible refine C2.mono ?_
   rintro e V1 ⟨rfl, hP⟩
   try go_wp2_with fail
   have p1 := HG.out _ _ hP
   have p2 := HG.out _ _ (hP.after ((Below.refl V1.heap.size V1).alloc (Nat.le_refl _) (.cells #[.int .u32 x, .int .u32 y] 96)))
   obtain ⟨v4, V4, hrun, ⟨qa, qm, qc, rfl⟩, ⟨v0, cv0⟩, fr4, hH⟩ := STEP.out _ hP
   obtain ⟨L', hT', hN'⟩ := hH qa qm qc rfl
   have HH : Hid (TAt gt pre post T { t with twi := t.twi ++ [(x, y)] } L' ∧ LnS w (V4.setCell ⟨gt, n + 28, none⟩ (.slice qa qm qc)) g lp lt (two2 ip σ) W (L' ++ K)) := ⟨hT', hN'⟩
   clear hP hH hT' hN'
   refine hK.out _ _ trivial (fun hHeld => ?_)
   clear hK KK
   try simp only [getElem_toArray, getElem_cons_zero, getElem_cons_succ, Act.put, setIfInBounds_toArray, set_cons_zero, set_cons_succ]
   refine wpAnyH_ready (rs := [7]) (by kernel_rfl) (by simp) ?_
   refine AllReadyH.cons rfl (fun KK hK => ?_) AllReadyH.nil
   go_simp
   refine hK.out _ _ trivial (fun hHeld => ?_)
   clear hK KK
   try simp only [getElem_toArray, getElem_cons_zero, getElem_cons_succ, Act.put, setIfInBounds_toArray, set_cons_zero, set_cons_succ]
   refine wpAnyH_ready (rs := [8]) (by kernel_rfl) (by simp) ?_
   refine AllReadyH.cons rfl (fun KK hK => ?_) AllReadyH.nil
   refine step_append_run rfl (.tmp 72) (.tmp 75) 43 43 rfl (by simp [Act.eval]) (by simp [Act.eval]) hrun ?_
   refine hK.out _ _ trivial (fun hHeld => ?_)
   clear hK KK
   try simp only [getElem_toArray, getElem_cons_zero, getElem_cons_succ, Act.put, setIfInBounds_toArray, set_cons_zero, set_cons_succ]
   refine wpAnyH_take (i := 9) (v := ?_) rfl (by kernel_rfl) (by kernel_rfl) (by kernel_rfl) (fun _ _ _ h => h) (Or.inl ⟨by rfl, ?qbzy9⟩) (by assumption) ?qbzr9
   case qbzy9 => intro w hSw; (try dsimp only at hSw); go_simp; all_goals with_reducible rfl
   try simp only [getElem_toArray, getElem_cons_zero, getElem_cons_succ, Act.put, setIfInBounds_toArray, set_cons_zero, set_cons_succ]
   refine wpAnyH_take (i := 10) (v := ?_) rfl (by kernel_rfl) (by kernel_rfl) (by kernel_rfl) (fun _ _ _ h => h) (Or.inl ⟨by rfl, ?qbzy10⟩) (by assumption) ?qbzr10
   case qbzy10 => intro w hSw; (try dsimp only at hSw); go_simp; all_goals with_reducible rfl
   try simp only [getElem_toArray, getElem_cons_zero, getElem_cons_succ, Act.put, setIfInBounds_toArray, set_cons_zero, set_cons_succ]
   refine wpAnyH_ready (rs := [11]) (by kernel_rfl) (by simp) ?_
   refine AllReadyH.cons rfl (fun KK hK => ?_) AllReadyH.nil
   go_simp
   refine hK.out _ _ trivial (fun hHeld => ?_)
   clear hK KK
   try simp only [getElem_toArray, getElem_cons_zero, getElem_cons_succ, Act.put, setIfInBounds_toArray, set_cons_zero, set_cons_succ]
   refine wpAnyH_done (by kernel_rfl) ?_ _
   go_wp2_with fail
   go_end0
   exact Or.inl ⟨HB.out, rfl, L', by rw [HE.out.1, HE.out.2]; exact HH.out.1, HH.out.2⟩
  ·go_simp
   with_reducible refine C2.mono ?_
   rintro e V1 ⟨rfl, hP⟩
   try go_wp2_with fail
   have p1 := HG.out _ _ hP
   have p2 := HG.out _ _ (hP.after ((Below.refl V1.heap.size V1).alloc (Nat.le_refl _) (.cells #[.int .u32 x, .int .u32 y] 96)))
   obtain ⟨v4, V4, hrun, ⟨qa, qm, qc, rfl⟩, ⟨v0, cv0⟩, fr4, hH⟩ := STEP.out _ hP
   obtain ⟨L', hT', hN'⟩ := hH qa qm qc rfl
   have HH : Hid (TAt gt pre post T { t with twi := t.twi ++ [(x, y)] } L' ∧ LnS w (V4.setCell ⟨gt, n + 28, none⟩ (.slice qa qm qc)) g lp lt (two2 ip σ) W (L' ++ K)) := ⟨hT', hN'⟩
   clear hP hH hT' hN'
   refine hK.out _ _ trivial (fun hHeld => ?_)
   clear hK KK
   try simp only [getElem_toArray, getElem_cons_zero, getElem_cons_succ, Act.put, setIfInBounds_toArray, set_cons_zero, set_cons_succ]
   refine wpAnyH_ready (rs := [4, 7]) (by kernel_rfl) (by simp) ?_
   refine AllReadyH.cons rfl (fun KK hK => ?_) (AllReadyH.cons rfl (fun KK hK => ?_) AllReadyH.nil)
   ·go_simp
    refine hK.out _ _ trivial (fun hHeld => ?_)
    clear hK KK
    try simp only [getElem_toArray, getElem_cons_zero, getElem_cons_succ, Act.put, setIfInBounds_toArray, set_cons_zero, set_cons_succ]
    refine wpAnyH_ready (rs := [7]) (by kernel_rfl) (by simp) ?_
    refine AllReadyH.cons rfl (fun KK hK => ?_) AllReadyH.nil
    go_simp
    refine hK.out _ _ trivial (fun hHeld => ?_)
    clear hK KK
    try simp only [getElem_toArray, getElem_cons_zero, getElem_cons_succ, Act.put, setIfInBounds_toArray, set_cons_zero, set_cons_succ]
    refine wpAnyH_ready (rs := [8]) (by kernel_rfl) (by simp) ?_
    refine AllReadyH.cons rfl (fun KK hK => ?_) AllReadyH.nil
    refine step_append_run rfl (.tmp 72) (.tmp 75) 43 43 rfl (by simp [Act.eval]) (by simp [Act.eval]) hrun ?_
    refine hK.out _ _ trivial (fun hHeld => ?_)
    clear hK KK
    try simp only [getElem_toArray, getElem_cons_zero, getElem_cons_succ, Act.put, setIfInBounds_toArray, set_cons_zero, set_cons_succ]
    refine wpAnyH_take (i := 9) (v := ?_) rfl (by kernel_rfl) (by kernel_rfl) (by kernel_rfl) (fun _ _ _ h => h) (Or.inl ⟨by rfl, ?qczy9⟩) (by assumption) ?qczr9
    case qczy9 => intro w hSw; (try dsimp only at hSw); go_simp; all_goals with_reducible rfl
    try simp only [getElem_toArray, getElem_cons_zero, getElem_cons_succ, Act.put, setIfInBounds_toArray, set_cons_zero, set_cons_succ]
    refine wpAnyH_take (i := 10) (v := ?_) rfl (by kernel_rfl) (by kernel_rfl) (by kernel_rfl) (fun _ _ _ h => h) (Or.inl ⟨by rfl, ?qczy10⟩) (by assumption) ?qczr10
    case qczy10 => intro w hSw; (try dsimp only at hSw); go_simp; all_goals with_reducible rfl
    try simp only [getElem_toArray, getElem_cons_zero, getElem_cons_succ, Act.put, setIfInBounds_toArray, set_cons_zero, set_cons_succ]
    refine wpAnyH_ready (rs := [11]) (by kernel_rfl) (by simp) ?_
    refine AllReadyH.cons rfl (fun KK hK => ?_) AllReadyH.nil
    go_simp
    refine hK.out _ _ trivial (fun hHeld => ?_)
    clear hK KK
    try simp only [getElem_toArray, getElem_cons_zero, getElem_cons_succ, Act.put, setIfInBounds_toArray, set_cons_zero, set_cons_succ]
    refine wpAnyH_done (by kernel_rfl) ?_ _
    go_wp2_with fail
    go_end0
    exact Or.inl ⟨HB.out, rfl, L', by rw [HE.out.1, HE.out.2]; exact HH.out.1, HH.out.2⟩
   ·go_simp
    refine hK.out _ _ trivial (fun hHeld => ?_)
    clear hK KK
    try simp only [getElem_toArray, getElem_cons_zero, getElem_cons_succ, Act.put, setIfInBounds_toArray, set_cons_zero, set_cons_succ]
    refine wpAnyH_ready (rs := [4]) (by kernel_rfl) (by simp) ?_
    refine AllReadyH.cons rfl (fun KK hK => ?_) AllReadyH.nil
    go_simp
    refine hK.out _ _ trivial (fun hHeld => ?_)
    clear hK KK
    try simp only [getElem_toArray, getElem_cons_zero, getElem_cons_succ, Act.put, setIfInBounds_toArray, set_cons_zero, set_cons_succ]
    refine wpAnyH_ready (rs := [8]) (by kernel_rfl) (by simp) ?_
    refine AllReadyH.cons rfl (fun KK hK => ?_) AllReadyH.nil
    refine step_append_run rfl (.tmp 72) (.tmp 75) 43 43 rfl (by simp [Act.eval]) (by simp [Act.eval]) hrun ?_
    refine hK.out _ _ trivial (fun hHeld => ?_)
    clear hK KK
    try simp only [getElem_toArray, getElem_cons_zero, getElem_cons_succ, Act.put, setIfInBounds_toArray, set_cons_zero, set_cons_succ]
    refine wpAnyH_take (i := 9) (v := ?_) rfl (by kernel_rfl) (by kernel_rfl) (by kernel_rfl) (fun _ _ _ h => h) (Or.inl ⟨by rfl, ?qdzy9⟩) (by assumption) ?qdzr9
    case qdzy9 => intro w hSw; (try dsimp only at hSw); go_simp; all_goals with_reducible rfl
    try simp only [getElem_toArray, getElem_cons_zero, getElem_cons_succ, Act.put, setIfInBounds_toArray, set_cons_zero, set_cons_succ]
    refine wpAnyH_take (i := 10) (v := ?_) rfl (by kernel_rfl) (by kernel_rfl) (by kernel_rfl) (fun _ _ _ h => h) (Or.inl ⟨by rfl, ?qdzy10⟩) (by assumption) ?qdzr10
    case qdzy10 => intro w hSw; (try dsimp only at hSw); go_simp; all_goals with_reducible rfl
    try simp only [getElem_toArray, getElem_cons_zero, getElem_cons_succ, Act.put, setIfInBounds_toArray, set_cons_zero, set_cons_succ]
    refine wpAnyH_ready (rs := [11]) (by kernel_rfl) (by simp) ?_
    refine AllReadyH.cons rfl (fun KK hK => ?_) AllReadyH.nil
    go_simp
    refine hK.out _ _ trivial (fun hHeld => ?_)
    clear hK KK
    try simp only [getElem_toArray, getElem_cons_zero, getElem_cons_succ, Act.put, setIfInBounds_toArray, set_cons_zero, set_cons_succ]
    refine wpAnyH_done (by kernel_rfl) ?_ _
    go_wp2_with fail
    go_end0
    exact Or.inl ⟨HB.out, rfl, L', by rw [HE.out.1, HE.out.2]; exact HH.out.1, HH.out.2⟩
end Go.Proofs.YtneciccdiledfaaGreatDoor
namespace Go.Proofs.YtneciccdiledfaaGreatDoor
open Go.RowKit
open La
open Ad
theorem ext_ext (s : ByteArray) (a b i k : Nat) (h : a + k ≤ b) : (s.extract a b).extract i k = s.extract (a + i) (a + k) := by
 rw [ByteArray.extract_extract, Nat.min_eq_left h]
theorem infoRW : (Tryz.prog.info? 79).map (fun i => (i.zero, i.size, i.bytes)) = some (some (.agg #[.string ⟨#[]⟩, .int .i64 0]), 2, 24) := by kernel_rfl
theorem lw_start (s : ByteArray) {b : UInt8} (r : List UInt8) (p : Nat) (h1 : b ≠ 35) (h2 : b ≠ 32) : lw s (b :: r) p none = lw s (b :: r) p (some p) := by
 rw [lw_word _ _ _ _ h1 h2, lw_word _ _ _ _ h1 h2]; rfl
def Rwo (w V : World) (l : Value) (ws : List Wd) (K : List (Nat × Obj)) : Prop := ∃ B, OwB 79 2 l ws.length (ws.map wcs).flatten B ∧ Mem w V (B ++ K)
theorem Rwo.one {w V : World} {l : Value} {ws : List Wd} {K : List (Nat × Obj)} (h : Rwo w V l ws K) (hn : ws.length ≤ 900000) (x : ByteArray) (p : Nat) :
  ∃ v' V', (Builtin.append_ #[66, 66] 66 #[l, .slice (some ⟨V.heap.size, 0, none⟩) 1 1]).run Tryz.prog (V.alloc (.cells #[.string x, .int .i64 p] 79)) = .ok v' V' ∧ Rwo w V' v' (ws ++ [(x, p)]) K := by
 obtain ⟨B, hB, hM⟩ := h
 obtain ⟨v4, V4, B4, hap, hM4, hB4⟩ := mem_append (t := 66) (ty := 66) Tryz.underlying66 infoRW rfl (by decide) (hM.after ((Below.refl _ _).alloc (Nat.le_refl _) (.cells #[.string x, .int .i64 p] 79))) hB ⟨V.heap.size, 0, none⟩ [.string x, .int .i64 p] rfl (fun j u hj => by
    rw [addr_mid, Nat.zero_add, World.cell?_alloc_new]
    simpa using hj) (by simp; exact ⟨rfl, rfl⟩) (by omega) (by omega)
 exact ⟨v4, V4, hap, B4, by rw [List.length_append, List.map_append, List.flatten_append]; exact hB4, hM4⟩
theorem Rwo.sl {w V : World} {l : Value} {ws : List Wd} {K : List (Nat × Obj)} (h : Rwo w V l ws K) : ∃ a m c, l = .slice a m c := by
 obtain ⟨B, hB, hM⟩ := h; exact owb_slice hB
theorem byte_ne {b : UInt8} {c : Nat} (hc : c < 256) (h : b ≠ UInt8.ofNat c) : ((b.toNat : Int) == (c : Int)) = false := by
 rw [beq_eq_false_iff_ne]; intro e
 apply h; apply UInt8.toNat_inj.1
 rw [UInt8.toNat_ofNat']; omega
set_option maxHeartbeats 1000000 in
theorem rwords_any {w V : World} {K : List (Nat × Obj)} (hK : Mem w V K) (s : ByteArray) (f e : Nat) (hs : s.size ≤ 32768) (hfe : f ≤ e) (he : e ≤ s.size) :
  Calls Tryz.prog 22 #[.string (s.extract f e), .int .i64 (f : Int)] V fun x V' => ∃ v, x = .returned v ∧ Rwo w V' v (lw s (s.extract f e).data.toList f none) K := by
 have hLs : (s.extract f e).size = e - f := by rw [ByteArray.size_extract]; omega
 have hext : ∀ i k, k ≤ e - f → (s.extract f e).extract i k = s.extract (f + i) (f + k) := fun i k h => ext_ext s f e i k (by omega)
 generalize s.extract f e = L at hLs hext ⊢
 obtain ⟨R, hR⟩ : ∃ R, lw s L.data.toList f none = R := ⟨_, rfl⟩
 rw [hR]
 have HK : Hid (Rwo w V (.slice none 0 0) [] K) := ⟨[], OwB.nil _ _, hK⟩
 clear hK
 go_enter Tryz.func22, Tryz.ntmps22
 go_wp2_with fail
 go_loopw [5, 6, 7] (fun l ii kk w' => ∃ (i : Nat) (ws : List Wd), ii = .int .i64 i ∧ i ≤ L.size ∧ ws.length ≤ i ∧ ws ++ lw s (L.data.toList.drop i) (f + i) none = R ∧ Hid (Rwo w w' l ws K)) (fun _ ii _ _ => L.size - (intOf ii).toNat)
 case atStart => exact ⟨0, [], rfl, Nat.zero_le _, Nat.le_refl _, by simpa using hR, HK⟩
 case round =>
  obtain ⟨i, ws, rfl, hil, hwl, hrest, HO⟩ := hrel
  clear HK hR
  by_cases hin : i < L.size
  ·have hiz : (i : Int) < L.size := by omega
   have hdr := drop_cons L i hin
   have hix : ∀ W, (Instr.index 9 (.string L) (.int .i64 i)).run Tryz.prog W = .ok (.int .u8 ((L[i]'hin).toNat : Int)) W := by
    intro W
    rw [run_index_string W 9 L .i64 i Tryz.underlying9, dif_pos ⟨by omega, hiz⟩]
    simp
   have w1 : IntKind.i64.wrap ((i : Int) + 1) = ((i + 1 : Nat) : Int) := by rw [wrap64 (by omega) (by omega)]; omega
   obtain ⟨b, hb⟩ : ∃ b, L[i]'hin = b := ⟨_, rfl⟩
   rw [hb] at hdr
   simp only [hb] at hix
   rw [hdr] at hrest
   by_cases h35 : b = 35
   ·subst h35
    rw [lw_hash] at hrest
    have hend : ws = R := by simpa [ended] using hrest
    have hn35 : (((35 : UInt8).toNat : Int) == (35 : Int)) = true := by decide
    obtain ⟨a, m, c, rfl⟩ := HO.out.sl
    clear hdr hb hrest hext
    go_wp2_with fail
    go_ret
    rw [← hend]
    exact ⟨_, rfl, HO.out⟩
   ·have n35 : ((b.toNat : Int) == (35 : Int)) = false := byte_ne (c := 35) (by decide) h35
    by_cases h32 : b = 32
    ·subst h32
     rw [lw_blank] at hrest
     have hn32 : (((32 : UInt8).toNat : Int) == (32 : Int)) = true := by decide
     have hrest2 : ws ++ lw s (L.data.toList.drop (i + 1)) (f + (i + 1)) none = R := by simpa [ended, Nat.add_assoc] using hrest
     clear hdr hb hrest hext
     go_wp2_with fail
     go_roundw
     case rel => exact ⟨i + 1, ws, rfl, by omega, by omega, hrest2, HO⟩
     case measure => simp [intOf]; omega
    ·have n32 : ((b.toNat : Int) == (32 : Int)) = false := byte_ne (c := 32) (by decide) h32
     rw [lw_start s _ _ h35 h32, ← hdr] at hrest
     obtain ⟨a, m, c, rfl⟩ := HO.out.sl
     have hbi : ∀ b2, (L.data.toList.drop i).head? = some b2 → b2 = b := by
      intro b2 h2; rw [hdr] at h2; simpa using h2.symm
     have n35m : ((b.toNat : Int) != (35 : Int)) = true := by simpa using n35
     clear hb hdr
     generalize (b.toNat : Int) = bn at hix n35 n35m n32
     go_wp2_with fail
     go_loopw [7] (fun kk w' => Hid (Rwo w w' (.slice a m c) ws K) ∧ ∃ k : Nat, kk = .int .i64 k ∧ i ≤ k ∧ k ≤ L.size ∧ ws ++ lw s (L.data.toList.drop k) (f + k) (some (f + i)) = R) (fun kk _ => L.size - (intOf kk).toNat)
     case atStart => exact ⟨HO, i, rfl, Nat.le_refl _, hil, hrest⟩
     case round =>
      clear HO hrest
      obtain ⟨HO, k, rfl, hik, hkl, hrest⟩ := hrel
      obtain ⟨p, hfi⟩ : ∃ p, f + i = p := ⟨_, rfl⟩
      obtain ⟨x, hx⟩ : ∃ x, s.extract (f + i) (f + k) = x := ⟨_, rfl⟩
      have hpw : IntKind.i64.wrap ((f : Int) + (i : Int)) = (p : Int) := by rw [wrap64 (by omega) (by omega)]; omega
      have hsl : ∀ W, (Instr.slice 9 (.string L) (some (.int .i64 (i : Int))) (some (.int .i64 (k : Int))) none).run Tryz.prog W = .ok (.string x) W := by
       intro W
       rw [run_slice_string W 9 L .i64 .i64 i k Tryz.underlying9 (by omega) (by omega) (by omega)]
       simp only [Int.toNat_natCast]
       rw [hext i k (by omega), hx]
      by_cases hkn : k < L.size
      ·have hkz : (k : Int) < L.size := by omega
       have hdk := drop_cons L k hkn
       have hkx : ∀ W, (Instr.index 9 (.string L) (.int .i64 k)).run Tryz.prog W = .ok (.int .u8 ((L[k]'hkn).toNat : Int)) W := by
        intro W
        rw [run_index_string W 9 L .i64 k Tryz.underlying9, dif_pos ⟨by omega, hkz⟩]
        simp
       have wk1 : IntKind.i64.wrap ((k : Int) + 1) = ((k + 1 : Nat) : Int) := by rw [wrap64 (by omega) (by omega)]; omega
       obtain ⟨d, hd⟩ : ∃ d, L[k]'hkn = d := ⟨_, rfl⟩
       rw [hd] at hdk
       simp only [hd] at hkx
       have hlt : d = 32 ∨ d = 35 → i < k := by
        intro h
        rcases Nat.lt_or_ge i k with h2 | h2
        ·exact h2
        ·have e : i = k := by omega
         have := hbi d (by rw [e, hdk]; rfl)
         rcases h with h | h
         ·exact absurd (this.symm.trans h) h32
         ·exact absurd (this.symm.trans h) h35
       clear hbi hd
       by_cases k32 : d = 32
       ·have hlt2 := hlt (Or.inl k32)
        subst k32
        have hk32 : (((32 : UInt8).toNat : Int) == (32 : Int)) = true := by decide
        clear hlt
        obtain ⟨v', V', hap, hO2⟩ := HO.out.one (by omega) x p
        have hrest2 : (ws ++ [(x, p)]) ++ lw s (L.data.toList.drop k) (f + k) none = R := by
         rw [lw_end s (Or.inr (Or.inl (by rw [hdk]; rfl)))] at hrest
         rw [hx, hfi] at hrest
         simpa using hrest
        have HO2 : Hid (Rwo w V' v' (ws ++ [(x, p)]) K) := hO2
        have HR2 : Hid ((ws ++ [(x, p)]) ++ lw s (L.data.toList.drop k) (f + k) none = R) := hrest2
        clear hO2 hrest hrest2 hext hx hfi HO
        go_wp2_with (at_builtin; refine wpList_append_run (.tmp 43) (.tmp 52) 66 66 (by with_reducible rfl) hap rfl rfl (by simp [Act.eval]) (by simp [Act.eval]) ?_)
        go_roundw
        case rel => exact ⟨k, ws ++ [(x, p)], rfl, hkl, by simp; omega, HR2.out, HO2⟩
        case measure => simp [intOf]; omega
       ·by_cases k35 : d = 35
        ·have hlt2 := hlt (Or.inr k35)
         subst k35
         have hk35 : (((35 : UInt8).toNat : Int) == (35 : Int)) = true := by decide
         have hk32 : (((35 : UInt8).toNat : Int) == (32 : Int)) = false := by decide
         clear hlt k32
         obtain ⟨v', V', hap, hO2⟩ := HO.out.one (by omega) x p
         have hrest2 : (ws ++ [(x, p)]) ++ lw s (L.data.toList.drop k) (f + k) none = R := by
          rw [lw_end s (Or.inr (Or.inr (by rw [hdk]; rfl)))] at hrest
          rw [hx, hfi] at hrest
          simpa using hrest
         have HO2 : Hid (Rwo w V' v' (ws ++ [(x, p)]) K) := hO2
         have HR2 : Hid ((ws ++ [(x, p)]) ++ lw s (L.data.toList.drop k) (f + k) none = R) := hrest2
         clear hO2 hrest hrest2 hext hx hfi HO
         go_wp2_with (at_builtin; refine wpList_append_run (.tmp 43) (.tmp 52) 66 66 (by with_reducible rfl) hap rfl rfl (by simp [Act.eval]) (by simp [Act.eval]) ?_)
         go_roundw
         case rel => exact ⟨k, ws ++ [(x, p)], rfl, hkl, by simp; omega, HR2.out, HO2⟩
         case measure => simp [intOf]; omega
        ·have hk32 : ((d.toNat : Int) == (32 : Int)) = false := byte_ne (c := 32) (by decide) k32
         have hk35 : ((d.toNat : Int) == (35 : Int)) = false := byte_ne (c := 35) (by decide) k35
         have hrest2 : ws ++ lw s (L.data.toList.drop (k + 1)) (f + (k + 1)) (some (f + i)) = R := by
          rw [hdk, lw_word _ _ _ _ k35 k32] at hrest
          exact hrest
         have q1 : ¬ ((d.toNat : Int) = 32) := by simpa using hk32
         have q2 : ¬ ((d.toNat : Int) = 35) := by simpa using hk35
         have q3 : ((d.toNat : Int) != 32) = true := by simpa using q1
         have q4 : ((d.toNat : Int) != 35) = true := by simpa using q2
         generalize (d.toNat : Int) = dn at hkx q1 q2 q3 q4 hk32 hk35
         clear hlt hdk hrest hsl hpw hx hext
         go_wp2_with fail
         go_roundw
         case rel => first | exact ⟨HO, k + 1, rfl, by omega, by omega, hrest2⟩ | exact ⟨_, _, _, _, _, _, _, _, _, _, _, _, _, _, _, _, _, _, _, ⟨HO, k + 1, rfl, by omega, by omega, hrest2⟩, rfl⟩
         case measure => simp [intOf]; omega
      ·have hkz : ¬ (k : Int) < L.size := by omega
       have hkzd : decide ((k : Int) < L.size) = false := by simpa using hkz
       have hlt2 : i < k := by omega
       have hke : L.data.toList.drop k = [] := by apply List.drop_of_length_le; rw [text_len]; omega
       clear hbi
       obtain ⟨v', V', hap, hO2⟩ := HO.out.one (by omega) x p
       have hrest2 : (ws ++ [(x, p)]) ++ lw s (L.data.toList.drop k) (f + k) none = R := by
        rw [lw_end s (Or.inl hke)] at hrest
        rw [hx, hfi] at hrest
        simpa using hrest
       have HO2 : Hid (Rwo w V' v' (ws ++ [(x, p)]) K) := hO2
       have HR2 : Hid ((ws ++ [(x, p)]) ++ lw s (L.data.toList.drop k) (f + k) none = R) := hrest2
       clear hO2 hrest hrest2 hext hx hfi HO
       go_wp2_with (at_builtin; refine wpList_append_run (.tmp 43) (.tmp 52) 66 66 (by with_reducible rfl) hap rfl rfl (by simp [Act.eval]) (by simp [Act.eval]) ?_)
       go_roundw
       case rel => exact ⟨k, ws ++ [(x, p)], rfl, hkl, by simp; omega, HR2.out, HO2⟩
       case measure => simp [intOf]; omega
  ·have hiz : ¬ (i : Int) < L.size := by omega
   have hizd : decide ((i : Int) < L.size) = false := by simpa using hiz
   have hie : L.data.toList.drop i = [] := by apply List.drop_of_length_le; rw [text_len]; omega
   rw [hie, lw_nil] at hrest
   have hend : ws = R := by simpa [ended] using hrest
   obtain ⟨a, m, c, rfl⟩ := HO.out.sl
   clear hrest hie hext
   go_wp2_with fail
   go_ret
   rw [← hend]
   exact ⟨_, rfl, HO.out⟩
end Go.Proofs.YtneciccdiledfaaGreatDoor
namespace Go.Proofs.YtneciccdiledfaaGreatDoor
open Go.RowKit
open La
open Ad
theorem Lg.small {w V : World} {g : Nat} {σ : Sg} {W K : List (Nat × Obj)} (h : Lg w V g σ W K) : (La.wd σ).1.size ≤ 32768 := by
 unfold La.wd
 split
 ·exact Nat.zero_le _
 ·rename_i x r e
  exact h.1 x (by rw [e]; exact List.mem_cons_self ..)
set_option maxHeartbeats 1000000 in
theorem rmust_any {w V : World} {g : Nat} {σ : Sg} {W K : List (Nat × Obj)} (h : Lg w V g σ W K) (s : List UInt8) :
  Calls Tryz.prog 23 #[.pointer (some ⟨g, 0, none⟩), .string ⟨s.toArray⟩] V fun e V' => e = .returned (.tuple #[]) ∧ Lg w V' g (must s σ) W K := by
 have C := rword_any h
 by_cases hx : wt σ = s
 ·have hmu : must s σ = nxt σ := by unfold must; rw [if_pos hx]
  have hs : (La.wd σ).1 = ⟨s.toArray⟩ := by rw [← hx]
  rw [hmu]
  rw [hs] at C
  generalize (La.wd σ).2 = x2 at C
  generalize nxt σ = τ at C ⊢
  clear h hmu hx hs
  go_enter Tryz.func23, Tryz.ntmps23
  go_wp2_with fail
  refine C.mono ?_
  rintro e V1 ⟨rfl, hL⟩
  have HL : Hid (Lg w V1 g τ W K) := hL
  clear hL C
  go_wp2_with fail
  go_end0
  exact ⟨rfl, Lg.after HL.out ((Below.refl _ _).alloc (Nat.le_refl _) _)⟩
 ·have hmu : must s σ = (nxt σ).fail (La.wd σ).2 := by unfold must; rw [if_neg hx]
  have hcmp : ((La.wd σ).1.toList == s) = false := by
   rw [beq_eq_false_iff_ne]; intro e; exact hx (by unfold wt; rw [← ByteArray.toList_eq]; exact e)
  rw [hmu]
  generalize (La.wd σ).2 = x2 at C ⊢
  generalize (La.wd σ).1 = x1 at C hcmp
  generalize nxt σ = τ at C ⊢
  clear h hmu hx
  go_enter Tryz.func23, Tryz.ntmps23
  go_wp2_with fail
  refine C.mono ?_
  rintro e V1 ⟨rfl, hL⟩
  have CF := rfail_any (hL.after ((Below.refl _ _).alloc (Nat.le_refl _) (.cells #[.string x1, .int .i64 x2] 79))) x2
  clear hL C
  go_wp2_with fail
  refine CF.mono ?_
  rintro e V2 ⟨rfl, hL⟩
  have HL : Hid (Lg w V2 g (τ.fail x2) W K) := hL
  clear hL CF
  go_wp2_with fail
  go_end0
  exact ⟨rfl, HL.out⟩
set_option maxHeartbeats 800000 in
theorem rlip_any {w V : World} {g : Nat} {σ : Sg} {W K : List (Nat × Obj)} (h : Lg w V g σ W K) :
  Calls Tryz.prog 24 #[.pointer (some ⟨g, 0, none⟩)] V fun e V' => e = .returned (.int .u32 (nv (val ip σ))) ∧ Lg w V' g (vnx ip σ) W K := by
 have C := rword_any h
 have hsz : (La.wd σ).1.size ≤ 40000 := by have := h.small; omega
 have hval : val ip σ = ip (La.wd σ).1.data.toList := rfl
 have hnx : vnx ip σ = if (ip (La.wd σ).1.data.toList).isSome then nxt σ else (nxt σ).fail (La.wd σ).2 := rfl
 rw [hval, hnx]
 clear hval hnx h
 generalize (La.wd σ).1 = x1 at C hsz ⊢
 generalize (La.wd σ).2 = x2 at C ⊢
 generalize nxt σ = τ at C ⊢
 have CI := fun V => rip_any V x1 hsz
 cases hs : ip x1.data.toList with
 | none =>
  rw [hs] at CI
  simp only [ne, Option.isSome_none, if_true, Bool.false_eq_true, if_false] at CI ⊢
  generalize nv none = y at CI ⊢
  clear hs hsz
  go_enter Tryz.func24, Tryz.ntmps24
  go_wp2_with fail
  refine C.mono ?_
  rintro e V1 ⟨rfl, hL⟩
  obtain ⟨g0, hg0⟩ : ∃ g0, V1.heap.size = g0 := ⟨_, rfl⟩
  have HP : Hid (Lg w (V1.alloc (.cells #[.string x1, .int .i64 x2] 79)) g τ W ((g0, (.cells #[.string x1, .int .i64 x2] 79)) :: K)) := hL.push _ hg0.symm
  have HG : Hid (V1.heap.size = g0) := hg0
  clear hL C hg0
  go_upto_region 2 with fail
  refine wp_letter (fun X => Lg w X g τ W ((g0, (.cells #[.string x1, .int .i64 x2] 79)) :: K)) (by exact HP.out) ?_
  intro V2 hR
  try simp only [HG.out]
  have d0 : V2.cell? ⟨g0, 0, none⟩ = some (.string x1) := hR.cellK (i := 0) rfl 0
  have HR : Hid (Lg w V2 g τ W ((g0, (.cells #[.string x1, .int .i64 x2] 79)) :: K)) := hR
  have CJ := CI V2
  clear hR HP HG CI
  go_wp2_with fail
  refine CJ.mono ?_
  rintro e V3 ⟨rfl, hB⟩
  have hL : Lg w V3 g τ W ((g0, (.cells #[.string x1, .int .i64 x2] 79)) :: K) := HR.out.after hB
  have d1 : V3.cell? ⟨g0, 1, none⟩ = some (.int .i64 x2) := hL.cellK (i := 0) rfl 1
  have CF := rfail_any hL x2
  clear HR CJ hL d0
  go_wp2_with fail
  refine CF.mono ?_
  rintro e V4 ⟨rfl, hL⟩
  have HL : Hid (Lg w V4 g (τ.fail x2) W ((g0, (.cells #[.string x1, .int .i64 x2] 79)) :: K)) := hL
  clear hL CF
  go_wp2_with fail
  exact bodyPost_ret (v := .int .u32 y) (by simp [results, Tryz.results24, go_sem]) rfl ⟨rfl, HL.out.drop1⟩
 | some n =>
  rw [hs] at CI
  simp only [ne, Option.isSome_some, if_true, Bool.false_eq_true, if_false] at CI ⊢
  generalize nv (some n) = y at CI ⊢
  clear hs hsz
  go_enter Tryz.func24, Tryz.ntmps24
  go_wp2_with fail
  refine C.mono ?_
  rintro e V1 ⟨rfl, hL⟩
  obtain ⟨g0, hg0⟩ : ∃ g0, V1.heap.size = g0 := ⟨_, rfl⟩
  have HP : Hid (Lg w (V1.alloc (.cells #[.string x1, .int .i64 x2] 79)) g τ W ((g0, (.cells #[.string x1, .int .i64 x2] 79)) :: K)) := hL.push _ hg0.symm
  have HG : Hid (V1.heap.size = g0) := hg0
  clear hL C hg0
  go_upto_region 2 with fail
  refine wp_letter (fun X => Lg w X g τ W ((g0, (.cells #[.string x1, .int .i64 x2] 79)) :: K)) (by exact HP.out) ?_
  intro V2 hR
  try simp only [HG.out]
  have d0 : V2.cell? ⟨g0, 0, none⟩ = some (.string x1) := hR.cellK (i := 0) rfl 0
  have HR : Hid (Lg w V2 g τ W ((g0, (.cells #[.string x1, .int .i64 x2] 79)) :: K)) := hR
  have CJ := CI V2
  clear hR HP HG CI
  go_wp2_with fail
  refine CJ.mono ?_
  rintro e V3 ⟨rfl, hB⟩
  have HL : Hid (Lg w V3 g τ W ((g0, (.cells #[.string x1, .int .i64 x2] 79)) :: K)) := HR.out.after hB
  clear HR CJ
  go_wp2_with fail
  exact bodyPost_ret (v := .int .u32 y) (by simp [results, Tryz.results24, go_sem]) rfl ⟨rfl, HL.out.drop1⟩
set_option maxHeartbeats 800000 in
theorem rlnum_any {w V : World} {g : Nat} {σ : Sg} {W K : List (Nat × Obj)} (h : Lg w V g σ W K) (m : Nat) (hm : m ≤ 4294967295) :
  Calls Tryz.prog 27 #[.pointer (some ⟨g, 0, none⟩), .int .u32 (m : Int)] V fun e V' => e = .returned (.int .u32 (nv (val (fun l => num l m) σ))) ∧ Lg w V' g (vnx (fun l => num l m) σ) W K := by
 have C := rword_any h
 have hsz : (La.wd σ).1.size ≤ 40000 := by have := h.small; omega
 have hval : val (fun l => num l m) σ = num (La.wd σ).1.data.toList m := rfl
 have hnx : vnx (fun l => num l m) σ = if (num (La.wd σ).1.data.toList m).isSome then nxt σ else (nxt σ).fail (La.wd σ).2 := rfl
 rw [hval, hnx]
 clear hval hnx h
 generalize (La.wd σ).1 = x1 at C hsz ⊢
 generalize (La.wd σ).2 = x2 at C ⊢
 generalize nxt σ = τ at C ⊢
 have CI := fun V => rnum_any x1 m hm (by omega) V
 cases hs : num x1.data.toList m with
 | none =>
  rw [hs] at CI
  simp only [ne, Option.isSome_none, if_true, Bool.false_eq_true, if_false] at CI ⊢
  generalize nv none = y at CI ⊢
  clear hs hsz
  go_enter Tryz.func27, Tryz.ntmps27
  go_wp2_with fail
  refine C.mono ?_
  rintro e V1 ⟨rfl, hL⟩
  obtain ⟨g0, hg0⟩ : ∃ g0, V1.heap.size = g0 := ⟨_, rfl⟩
  have HP : Hid (Lg w (V1.alloc (.cells #[.string x1, .int .i64 x2] 79)) g τ W ((g0, (.cells #[.string x1, .int .i64 x2] 79)) :: K)) := hL.push _ hg0.symm
  have HG : Hid (V1.heap.size = g0) := hg0
  clear hL C hg0
  go_upto_region 2 with fail
  refine wp_letter (fun X => Lg w X g τ W ((g0, (.cells #[.string x1, .int .i64 x2] 79)) :: K)) (by exact HP.out) ?_
  intro V2 hR
  try simp only [HG.out]
  have d0 : V2.cell? ⟨g0, 0, none⟩ = some (.string x1) := hR.cellK (i := 0) rfl 0
  have HR : Hid (Lg w V2 g τ W ((g0, (.cells #[.string x1, .int .i64 x2] 79)) :: K)) := hR
  have CJ := CI V2
  clear hR HP HG CI
  go_wp2_with fail
  refine CJ.mono ?_
  rintro e _ ⟨rfl, rfl⟩
  have hL : Lg w V2 g τ W ((g0, (.cells #[.string x1, .int .i64 x2] 79)) :: K) := HR.out
  have d1 : V2.cell? ⟨g0, 1, none⟩ = some (.int .i64 x2) := hL.cellK (i := 0) rfl 1
  have CF := rfail_any hL x2
  clear HR CJ hL d0
  go_wp2_with fail
  refine CF.mono ?_
  rintro e V4 ⟨rfl, hL⟩
  have HL : Hid (Lg w V4 g (τ.fail x2) W ((g0, (.cells #[.string x1, .int .i64 x2] 79)) :: K)) := hL
  clear hL CF
  go_wp2_with fail
  exact bodyPost_ret (v := .int .u32 y) (by simp [results, Tryz.results27, go_sem]) rfl ⟨rfl, HL.out.drop1⟩
 | some n =>
  rw [hs] at CI
  simp only [ne, Option.isSome_some, if_true, Bool.false_eq_true, if_false] at CI ⊢
  generalize nv (some n) = y at CI ⊢
  clear hs hsz
  go_enter Tryz.func27, Tryz.ntmps27
  go_wp2_with fail
  refine C.mono ?_
  rintro e V1 ⟨rfl, hL⟩
  obtain ⟨g0, hg0⟩ : ∃ g0, V1.heap.size = g0 := ⟨_, rfl⟩
  have HP : Hid (Lg w (V1.alloc (.cells #[.string x1, .int .i64 x2] 79)) g τ W ((g0, (.cells #[.string x1, .int .i64 x2] 79)) :: K)) := hL.push _ hg0.symm
  have HG : Hid (V1.heap.size = g0) := hg0
  clear hL C hg0
  go_upto_region 2 with fail
  refine wp_letter (fun X => Lg w X g τ W ((g0, (.cells #[.string x1, .int .i64 x2] 79)) :: K)) (by exact HP.out) ?_
  intro V2 hR
  try simp only [HG.out]
  have d0 : V2.cell? ⟨g0, 0, none⟩ = some (.string x1) := hR.cellK (i := 0) rfl 0
  have HR : Hid (Lg w V2 g τ W ((g0, (.cells #[.string x1, .int .i64 x2] 79)) :: K)) := hR
  have CJ := CI V2
  clear hR HP HG CI
  go_wp2_with fail
  refine CJ.mono ?_
  rintro e _ ⟨rfl, rfl⟩
  have HL : Hid (Lg w V2 g τ W ((g0, (.cells #[.string x1, .int .i64 x2] 79)) :: K)) := HR.out
  clear HR CJ
  go_wp2_with fail
  exact bodyPost_ret (v := .int .u32 y) (by simp [results, Tryz.results27, go_sem]) rfl ⟨rfl, HL.out.drop1⟩
end Go.Proofs.YtneciccdiledfaaGreatDoor
namespace Go.Proofs.YtneciccdiledfaaGreatDoor
open Go.RowKit
open La
open Ad
section
variable {w V : World} {g : Nat} {s : ByteArray} {ls : List (List Wd × Nat)} {ws : List Wd} {cur : Option Nat} {m : Bool} {K : List (Nat × Obj)}
theorem CtS.cells (h : CtS w V g s ls ws cur m K) : (∃ v, V.cell? ⟨g, 1, none⟩ = some v) ∧ V.cell? ⟨g, 3, none⟩ = some (.int .i64 (curI cur)) ∧ V.cell? ⟨g, 4, none⟩ = some (.bool m) ∧ ∀ j, V.frozen? ⟨g, j, none⟩ = false := by
 obtain ⟨zs, vl, vw, Bl, Bw, C, h1, h2, h3, h4, hM⟩ := h
 exact ⟨⟨_, hM.cell 0 rfl 1⟩, hM.cell 0 rfl 3, hM.cell 0 rfl 4, hM.free 0 rfl⟩
theorem CtS.begins (h : CtS w V g s ls ws cur m K) (p : Nat) : CtS w (V.setCell ⟨g, 3, none⟩ (.int .i64 (p : Int))) g s ls ws (some p) m K := by
 obtain ⟨zs, vl, vw, Bl, Bw, C, h1, h2, h3, h4, hM⟩ := h
 exact ⟨zs, vl, vw, Bl, Bw, C, h1, h2, h3, h4, hM.set 0 rfl 3 _⟩
theorem CtS.mutes (h : CtS w V g s ls ws cur m K) : CtS w (V.setCell ⟨g, 4, none⟩ (.bool true)) g s ls ws cur true K := by
 obtain ⟨zs, vl, vw, Bl, Bw, C, h1, h2, h3, h4, hM⟩ := h
 exact ⟨zs, vl, vw, Bl, Bw, C, h1, h2, h3, h4, hM.set 0 rfl 4 _⟩
set_option maxHeartbeats 4000000 in
theorem step_feed (h : CtS w V g s ls ws cur m K) (p : Nat) (hs : s.size ≤ 32768) (hp : p ≤ s.size) (hc : ∀ b, cur = some b → b ≤ p) (hn : ws.length ≤ 900000) (hl : ls.length ≤ 900000) :
  Calls Tryz.prog 70 #[.pointer (some ⟨g, 0, none⟩), .int .i64 (p : Int), .int .i32 10] V fun e V' => e = .returned (.tuple #[]) ∧ CtS w V' g s (ls ++ lined (ended s ws cur p) p) [] none false K := by
 have C := endLine_any h p hs hp hc hn hl
 clear h hc
 go_enter Tryz.func70, Tryz.ntmps70
 go_wp2_with fail
 refine C.mono ?_
 rintro e V1 ⟨rfl, hC⟩
 have HC : Hid (CtS w V1 g s (ls ++ lined (ended s ws cur p) p) [] none false K) := hC
 clear hC C
 go_wp2_with fail
 go_end0
 exact ⟨rfl, HC.out⟩
set_option maxHeartbeats 4000000 in
theorem step_mute (h : CtS w V g s ls ws cur true K) (p : Nat) (r : Nat) (hr : r ≠ 10) :
  Calls Tryz.prog 70 #[.pointer (some ⟨g, 0, none⟩), .int .i64 (p : Int), .int .i32 (r : Int)] V fun e V' => e = .returned (.tuple #[]) ∧ CtS w V' g s ls ws cur true K := by
 have HC : Hid (CtS w V g s ls ws cur true K) := h
 obtain ⟨-, -, d4, -⟩ := h.cells
 have r1 : ((r : Int) == 10) = false := by rw [beq_eq_false_iff_ne]; omega
 clear h
 go_enter Tryz.func70, Tryz.ntmps70
 go_wp2_with fail
 go_end0
 exact ⟨rfl, HC.out⟩
set_option maxHeartbeats 4000000 in
theorem step_blank (h : CtS w V g s ls ws cur false K) (p : Nat) (hs : s.size ≤ 32768) (hp : p ≤ s.size) (hc : ∀ b, cur = some b → b ≤ p) (hn : ws.length ≤ 900000) :
  Calls Tryz.prog 70 #[.pointer (some ⟨g, 0, none⟩), .int .i64 (p : Int), .int .i32 32] V fun e V' => e = .returned (.tuple #[]) ∧ CtS w V' g s ls (ended s ws cur p) none false K := by
 have C := endWord_any h p hs hp hc hn
 obtain ⟨-, -, d4, -⟩ := h.cells
 clear h hc
 go_enter Tryz.func70, Tryz.ntmps70
 go_wp2_with fail
 refine C.mono ?_
 rintro e V1 ⟨rfl, hC⟩
 have HC : Hid (CtS w V1 g s ls (ended s ws cur p) none false K) := hC
 clear hC C d4
 go_wp2_with fail
 go_end0
 exact ⟨rfl, HC.out⟩
set_option maxHeartbeats 4000000 in
theorem step_hash (h : CtS w V g s ls ws cur false K) (p : Nat) (hs : s.size ≤ 32768) (hp : p ≤ s.size) (hc : ∀ b, cur = some b → b ≤ p) (hn : ws.length ≤ 900000) :
  Calls Tryz.prog 70 #[.pointer (some ⟨g, 0, none⟩), .int .i64 (p : Int), .int .i32 35] V fun e V' => e = .returned (.tuple #[]) ∧ CtS w V' g s ls (ended s ws cur p) none true K := by
 have C := endWord_any h p hs hp hc hn
 obtain ⟨-, -, d4, -⟩ := h.cells
 clear h hc
 go_enter Tryz.func70, Tryz.ntmps70
 go_wp2_with fail
 refine C.mono ?_
 rintro e V1 ⟨rfl, hC⟩
 have HC : Hid (CtS w (V1.setCell ⟨g, 4, none⟩ (.bool true)) g s ls (ended s ws cur p) none true K) := hC.mutes
 obtain ⟨-, -, k4, kf⟩ := hC.cells
 clear hC C d4
 go_wp2_with fail
 go_end0
 exact ⟨rfl, HC.out⟩
set_option maxHeartbeats 4000000 in
theorem step_word (h : CtS w V g s ls ws cur false K) (p : Nat) (r : Nat) (h1 : r ≠ 10) (h2 : r ≠ 32) (h3 : r ≠ 35) :
  Calls Tryz.prog 70 #[.pointer (some ⟨g, 0, none⟩), .int .i64 (p : Int), .int .i32 (r : Int)] V fun e V' => e = .returned (.tuple #[]) ∧ CtS w V' g s ls ws (some (cur.getD p)) false K := by
 obtain ⟨-, d3, d4, kf⟩ := h.cells
 have r1 : ((r : Int) == 10) = false := by rw [beq_eq_false_iff_ne]; omega
 have r2 : ((r : Int) == 32) = false := by rw [beq_eq_false_iff_ne]; omega
 have r3 : ((r : Int) == 35) = false := by rw [beq_eq_false_iff_ne]; omega
 cases cur with
 | none =>
  have HC : Hid (CtS w (V.setCell ⟨g, 3, none⟩ (.int .i64 (p : Int))) g s ls ws (some p) false K) := h.begins p
  simp only [curI] at d3
  clear h
  go_enter Tryz.func70, Tryz.ntmps70
  go_wp2_with fail
  go_end0
  exact ⟨rfl, HC.out⟩
 | some b =>
  have HC : Hid (CtS w V g s ls ws (some b) false K) := h
  simp only [curI] at d3
  have hbz : ((b : Int) == -1) = false := by rw [beq_eq_false_iff_ne]; omega
  clear h
  go_enter Tryz.func70, Tryz.ntmps70
  go_wp2_with fail
  go_end0
  exact ⟨rfl, HC.out⟩
end
theorem rune_high (s : ByteArray) (p : Nat) (hp : p < s.size) (h : 128 ≤ (s[p]'hp).toNat) : p + (Utf8.decode s p).2 ≤ s.size ∧ ∀ j, j < (Utf8.decode s p).2 → 128 ≤ ((s.data.toList.drop p).getD j 0).toNat := by
 have hN := Lib.decode_N s p
 have hc := Lib.decodeN_conts (s.data.toList.length - p) (s.data.toList.getD p 0).toNat (s.data.toList.getD (p + 1) 0).toNat (s.data.toList.getD (p + 2) 0).toNat (s.data.toList.getD (p + 3) 0).toNat
 rw [← hN] at hc
 have hl : s.data.toList.length = s.size := text_len s
 have h0 : 128 ≤ (s.data.toList.getD p 0).toNat := by
  have e : s.data.toList.getD p 0 = s[p]'hp := by
   have := drop_cons s p hp
   have e2 : (s.data.toList.drop p).getD 0 0 = s.data.toList.getD p 0 := by rw [Lib.getD_dropU, Nat.add_zero]
   rw [← e2, this]; rfl
  rw [e]; exact h
 rw [hl] at hc
 generalize (Utf8.decode s p).2 = k at hc
 obtain ⟨c1, c2, c3, c4⟩ := hc
 refine ⟨?_, fun j hj => ?_⟩
 ·have : k ≤ 1 ∨ k = 2 ∨ k = 3 ∨ k = 4 := by omega
  rcases this with h | h | h | h
  ·omega
  ·have := (c1 (by omega)).2; omega
  ·have := (c2 (by omega)).2; omega
  ·have := (c3 (by omega)).2; omega
 ·rw [Lib.getD_dropU]
  match j with
  | 0 => exact h0
  | 1 => have := (c1 (by omega)).1; omega
  | 2 => have := (c2 (by omega)).1; omega
  | 3 => have := (c3 (by omega)).1; omega
  | j + 4 => omega
end Go.Proofs.YtneciccdiledfaaGreatDoor
