/-
  The statements' seat of settings: its tenants.
  Settings as text: the program's reader: a tenant's other lines: filter, static, twice, none of these.
  Settings as text: the program's lines: a word's end, a line's end.
  Settings as text: the program's writer: pairs, a pool.
  Settings as text: the document's own reader of a line: fail, word, must.
-/
import Derived.Test.YtneciccdiledfaaGreatDoorMx39
import Derived.Test.YtneciccdiledfaaGreatDoorMx42
import Derived.Test.YtneciccdiledfaaGreatDoorMx22
import Derived.Deep.DeepCutAuto
import Derived.Deep.RegionWith
import Derived.Test.YtneciccdiledfaaGreatDoorMx40
set_option linter.unusedVariables false
set_option linter.unusedSimpArgs false
set_option maxRecDepth 20000
namespace Go.Proofs.YtneciccdiledfaaGreatDoor
open Go.RowKit
open List (getElem_toArray getElem_cons_zero getElem_cons_succ setIfInBounds_toArray set_cons_zero set_cons_succ)
open La
open Ad
open Sm (IsBytes)
def Tb (w V : World) (gb g4 : Nat) (t : Ten) : Prop := ∃ L, TAt gb [] [] 45 t L ∧ Mem w V (L ++ [(g4, .cells tz 45)])
theorem Tb.after {w V V' : World} {gb g4 : Nat} {t : Ten} (h : Tb w V gb g4 t) (hb : Below V.heap.size V V') : Tb w V' gb g4 t := by
 obtain ⟨L, h1, h2⟩ := h; exact ⟨L, h1, h2.after hb⟩
theorem Tb.below {w V : World} {gb g4 : Nat} {t : Ten} (h : Tb w V gb g4 t) : Below w.heap.size w V := by obtain ⟨L, h1, h2⟩ := h; exact h2.below
theorem tb_set {w V : World} {gb g4 : Nat} {t t' : Ten} {o : Nat} {v : Value} (h : Tb w V gb g4 t) (hs : ∀ L, TAt gb [] [] 45 t L → ∃ A R, L = (gb, .cells A 45) :: R ∧ ([] : List Value).length + o < A.size ∧ TAt gb [] [] 45 t' ((gb, .cells (A.setIfInBounds (([] : List Value).length + o) v) 45) :: R)) :
  (∃ v0, V.cell? ⟨gb, o, none⟩ = some v0) ∧ V.frozen? ⟨gb, o, none⟩ = false ∧ Tb w (V.setCell ⟨gb, o, none⟩ v) gb g4 t' := by
 obtain ⟨L, hT, hM⟩ := h
 obtain ⟨A, R, rfl, hlt, hT'⟩ := hs L hT
 rw [List.length_nil, Nat.zero_add] at hlt hT'
 refine ⟨⟨_, (hM.cell 0 rfl o).trans (Array.getElem?_eq_getElem hlt)⟩, hM.free 0 rfl o, _, hT', ?_⟩
 exact hM.set 0 rfl o v
theorem tb_pool {w V : World} {gb g4 : Nat} {t : Ten} (h : Tb w V gb g4 t) (x : Int) {gs : Nat} (hgs : V.heap.size = gs) :
  (∃ v0, (V.alloc (.cells #[.int .u32 x] 23)).cell? ⟨gb, 23, none⟩ = some v0) ∧ (V.alloc (.cells #[.int .u32 x] 23)).frozen? ⟨gb, 23, none⟩ = false ∧ Tb w ((V.alloc (.cells #[.int .u32 x] 23)).setCell ⟨gb, 23, none⟩ (.slice (some ⟨gs, 0, none⟩) 1 1)) gb g4 { t with pool := [x] } := by
 obtain ⟨L, ⟨hlen, p, s, q, B1, B2, B3, k1, k2, k3, rfl⟩, hM⟩ := h
 have hM1 : Mem w V (B1 ++ ((gb, .cells ([] ++ (tc t p s q ++ [])).toArray 45) :: ((B2 ++ B3) ++ [(g4, .cells tz 45)]))) := hM.perm (by
  classical
  rw [List.perm_iff_count]
  intro z
  simp only [List.count_append, List.count_cons, List.count_nil]
  omega)
 have hM2 := hM1.dropA.front (.cells #[.int .u32 x] 23) hgs.symm
 have hlt : 23 < ([] ++ (tc t p s q ++ [])).toArray.size := by rw [List.size_toArray]; simp [tc_len hlen]
 refine ⟨⟨_, (hM2.cell 1 rfl 23).trans (Array.getElem?_eq_getElem hlt)⟩, hM2.free 1 rfl 23, _, ⟨⟨hlen.key, hlen.vmac, hlen.host⟩, .slice (some ⟨gs, 0, none⟩) 1 1, s, q, [(gs, .cells #[.int .u32 x] 23)], B2, B3, owb_mk (T := 23) (sz := 1) (n := 1) (cap := 1) (g := gs) (X := [.int .u32 x]) (Y := []) rfl (Nat.le_refl _) (by unfold maxLen; omega) rfl, k2, k3, rfl⟩, ?_⟩
 have hM3 := hM2.set 1 rfl 23 (.slice (some ⟨gs, 0, none⟩) 1 1)
 have e : ([] ++ (tc t p s q ++ [])).toArray.setIfInBounds 23 (.slice (some ⟨gs, 0, none⟩) 1 1) = ([] ++ (tc { t with pool := [x] } (.slice (some ⟨gs, 0, none⟩) 1 1) (s) (q) ++ [])).toArray := by
  have := set_mid [] (tc t p s q) [] 23 (.slice (some ⟨gs, 0, none⟩) 1 1) (by rw [tc_len hlen]; omega)
  rw [List.length_nil, Nat.zero_add] at this
  rw [this]
  rw [tset (t' := { t with pool := [x] }) (p' := .slice (some ⟨gs, 0, none⟩) 1 1) (s' := s) (q' := q) hlen (by rintro n vn a b c d f g x y vt a1 b1 c1 d1 f1 g1 a2 b2 c2 d2 f2 g2 po lo hi fi st tw se qu ra bu rfl; rfl)]
 simp only [List.set_cons_succ, List.set_cons_zero] at hM3
 rw [e] at hM3
 exact hM3.perm (by
  classical
  rw [List.perm_iff_count]
  intro z
  simp only [List.count_append, List.count_cons, List.count_nil]
  omega)
theorem tb_stat {w V : World} {gb g4 : Nat} {t : Ten} (h : Tb w V gb g4 t) (x y : Int) {gs : Nat} (hgs : V.heap.size = gs) :
  (∃ v0, (V.alloc (.cells #[.int .u32 x, .int .u32 y] 96)).cell? ⟨gb, 27, none⟩ = some v0) ∧ (V.alloc (.cells #[.int .u32 x, .int .u32 y] 96)).frozen? ⟨gb, 27, none⟩ = false ∧ Tb w ((V.alloc (.cells #[.int .u32 x, .int .u32 y] 96)).setCell ⟨gb, 27, none⟩ (.slice (some ⟨gs, 0, none⟩) 1 1)) gb g4 { t with stat := [(x, y)] } := by
 obtain ⟨L, ⟨hlen, p, s, q, B1, B2, B3, k1, k2, k3, rfl⟩, hM⟩ := h
 have hM1 : Mem w V (B2 ++ ((gb, .cells ([] ++ (tc t p s q ++ [])).toArray 45) :: ((B1 ++ B3) ++ [(g4, .cells tz 45)]))) := hM.perm (by
  classical
  rw [List.perm_iff_count]
  intro z
  simp only [List.count_append, List.count_cons, List.count_nil]
  omega)
 have hM2 := hM1.dropA.front (.cells #[.int .u32 x, .int .u32 y] 96) hgs.symm
 have hlt : 27 < ([] ++ (tc t p s q ++ [])).toArray.size := by rw [List.size_toArray]; simp [tc_len hlen]
 refine ⟨⟨_, (hM2.cell 1 rfl 27).trans (Array.getElem?_eq_getElem hlt)⟩, hM2.free 1 rfl 27, _, ⟨⟨hlen.key, hlen.vmac, hlen.host⟩, p, .slice (some ⟨gs, 0, none⟩) 1 1, q, B1, [(gs, .cells #[.int .u32 x, .int .u32 y] 96)], B3, k1, owb_mk (T := 96) (sz := 2) (n := 1) (cap := 1) (g := gs) (X := [.int .u32 x, .int .u32 y]) (Y := []) rfl (Nat.le_refl _) (by unfold maxLen; omega) rfl, k3, rfl⟩, ?_⟩
 have hM3 := hM2.set 1 rfl 27 (.slice (some ⟨gs, 0, none⟩) 1 1)
 have e : ([] ++ (tc t p s q ++ [])).toArray.setIfInBounds 27 (.slice (some ⟨gs, 0, none⟩) 1 1) = ([] ++ (tc { t with stat := [(x, y)] } (p) (.slice (some ⟨gs, 0, none⟩) 1 1) (q) ++ [])).toArray := by
  have := set_mid [] (tc t p s q) [] 27 (.slice (some ⟨gs, 0, none⟩) 1 1) (by rw [tc_len hlen]; omega)
  rw [List.length_nil, Nat.zero_add] at this
  rw [this]
  rw [tset (t' := { t with stat := [(x, y)] }) (p' := p) (s' := .slice (some ⟨gs, 0, none⟩) 1 1) (q' := q) hlen (by rintro n vn a b c d f g x y vt a1 b1 c1 d1 f1 g1 a2 b2 c2 d2 f2 g2 po lo hi fi st tw se qu ra bu rfl; rfl)]
 simp only [List.set_cons_succ, List.set_cons_zero] at hM3
 rw [e] at hM3
 exact hM3.perm (by
  classical
  rw [List.perm_iff_count]
  intro z
  simp only [List.count_append, List.count_cons, List.count_nil]
  omega)
theorem tb_twi {w V : World} {gb g4 : Nat} {t : Ten} (h : Tb w V gb g4 t) (x y x2 y2 : Int) {gs : Nat} (hgs : V.heap.size = gs) :
  (∃ v0, (V.alloc (.cells #[.int .u32 x, .int .u32 y, .int .u32 x2, .int .u32 y2] 96)).cell? ⟨gb, 28, none⟩ = some v0) ∧ (V.alloc (.cells #[.int .u32 x, .int .u32 y, .int .u32 x2, .int .u32 y2] 96)).frozen? ⟨gb, 28, none⟩ = false ∧ Tb w ((V.alloc (.cells #[.int .u32 x, .int .u32 y, .int .u32 x2, .int .u32 y2] 96)).setCell ⟨gb, 28, none⟩ (.slice (some ⟨gs, 0, none⟩) 2 2)) gb g4 { t with twi := [(x, y), (x2, y2)] } := by
 obtain ⟨L, ⟨hlen, p, s, q, B1, B2, B3, k1, k2, k3, rfl⟩, hM⟩ := h
 have hM1 : Mem w V (B3 ++ ((gb, .cells ([] ++ (tc t p s q ++ [])).toArray 45) :: ((B1 ++ B2) ++ [(g4, .cells tz 45)]))) := hM.perm (by
  classical
  rw [List.perm_iff_count]
  intro z
  simp only [List.count_append, List.count_cons, List.count_nil]
  omega)
 have hM2 := hM1.dropA.front (.cells #[.int .u32 x, .int .u32 y, .int .u32 x2, .int .u32 y2] 96) hgs.symm
 have hlt : 28 < ([] ++ (tc t p s q ++ [])).toArray.size := by rw [List.size_toArray]; simp [tc_len hlen]
 refine ⟨⟨_, (hM2.cell 1 rfl 28).trans (Array.getElem?_eq_getElem hlt)⟩, hM2.free 1 rfl 28, _, ⟨⟨hlen.key, hlen.vmac, hlen.host⟩, p, s, .slice (some ⟨gs, 0, none⟩) 2 2, B1, B2, [(gs, .cells #[.int .u32 x, .int .u32 y, .int .u32 x2, .int .u32 y2] 96)], k1, k2, owb_mk (T := 96) (sz := 2) (n := 2) (cap := 2) (g := gs) (X := [.int .u32 x, .int .u32 y, .int .u32 x2, .int .u32 y2]) (Y := []) rfl (Nat.le_refl _) (by unfold maxLen; omega) rfl, rfl⟩, ?_⟩
 have hM3 := hM2.set 1 rfl 28 (.slice (some ⟨gs, 0, none⟩) 2 2)
 have e : ([] ++ (tc t p s q ++ [])).toArray.setIfInBounds 28 (.slice (some ⟨gs, 0, none⟩) 2 2) = ([] ++ (tc { t with twi := [(x, y), (x2, y2)] } (p) (s) (.slice (some ⟨gs, 0, none⟩) 2 2) ++ [])).toArray := by
  have := set_mid [] (tc t p s q) [] 28 (.slice (some ⟨gs, 0, none⟩) 2 2) (by rw [tc_len hlen]; omega)
  rw [List.length_nil, Nat.zero_add] at this
  rw [this]
  rw [tset (t' := { t with twi := [(x, y), (x2, y2)] }) (p' := p) (s' := s) (q' := .slice (some ⟨gs, 0, none⟩) 2 2) hlen (by rintro n vn a b c d f g x y vt a1 b1 c1 d1 f1 g1 a2 b2 c2 d2 f2 g2 po lo hi fi st tw se qu ra bu rfl; rfl)]
 simp only [List.set_cons_succ, List.set_cons_zero] at hM3
 rw [e] at hM3
 exact hM3.perm (by
  classical
  rw [List.perm_iff_count]
  intro z
  simp only [List.count_append, List.count_cons, List.count_nil]
  omega)
theorem tb_more {w V : World} {gb g4 : Nat} {t : Ten} (h : Tb w V gb g4 t) (hl : t.pool.length ≤ 900000) (y : Int) : ∃ pa pm pc, V.cell? ⟨gb, 23, none⟩ = some (.slice pa pm pc) ∧ (V.alloc (.cells #[.int .u32 y] 23)).cell? ⟨gb, 23, none⟩ = some (.slice pa pm pc) ∧ ∃ v4 V4, (Builtin.append_ #[41, 41] 41 #[.slice pa pm pc, .slice (some ⟨V.heap.size, 0, none⟩) 1 1]).run Tryz.prog (V.alloc (.cells #[.int .u32 y] 23)) = .ok v4 V4 ∧ (∃ a m c, v4 = .slice a m c) ∧ (∃ v0, V4.cell? ⟨gb, 23, none⟩ = some v0) ∧ (∀ j, V4.frozen? ⟨gb, j, none⟩ = false) ∧
   ∀ a m c, v4 = .slice a m c → Tb w (V4.setCell ⟨gb, 23, none⟩ v4) gb g4 { t with pool := t.pool ++ [y] } := by
 obtain ⟨L, hT, hM⟩ := h
 obtain ⟨A, p, B, R, hperm, hpA, hB, hlt, hnew⟩ := (tat_list hT w []).1
 rw [List.length_nil, Nat.zero_add] at hpA hlt hnew
 have hM2 : Mem w V ((gb, .cells A 45) :: (B ++ (R ++ [(g4, .cells tz 45)]))) := (hM.perm (hperm.append_right _)).perm (by
  classical
  rw [List.perm_iff_count]
  intro z
  simp only [List.count_append, List.count_cons, List.count_nil]
  omega)
 obtain ⟨pa, pm, pc, rfl⟩ := owb_slice hB
 have hM3 := hM2.after ((Below.refl V.heap.size V).alloc (Nat.le_refl _) (.cells #[.int .u32 y] 23))
 refine ⟨pa, pm, pc, (hM2.cell 0 rfl 23).trans hpA, (hM3.cell 0 rfl 23).trans hpA, ?_⟩
 obtain ⟨v4, V4, B4, hrun, hM4, hB4⟩ := mem_append (t := 41) (ty := 41) Tryz.underlying41 infoU rfl (by decide) (K := (gb, .cells A 45) :: (R ++ [(g4, .cells tz 45)])) (hM3.perm (by
  classical
  rw [List.perm_iff_count]
  intro z
  simp only [List.count_append, List.count_cons, List.count_nil]
  omega)) hB ⟨V.heap.size, 0, none⟩ [.int .u32 y] rfl (fun j u hj => by
   rw [addr_mid, Nat.zero_add, World.cell?_alloc_new]
   simpa using hj) (by simp; rfl) (by omega) (by omega)
 have hM5 : Mem w V4 ((gb, .cells A 45) :: (B4 ++ (R ++ [(g4, .cells tz 45)]))) := hM4.perm (by
  classical
  rw [List.perm_iff_count]
  intro z
  simp only [List.count_append, List.count_cons, List.count_nil]
  omega)
 refine ⟨v4, V4, hrun, owb_slice hB4, ⟨_, (hM5.cell 0 rfl 23).trans hpA⟩, hM5.free 0 rfl, fun a m c e => ?_⟩
 subst e
 refine ⟨_, hnew y a m c B4 hB4, ?_⟩
 have := hM5.set 0 rfl 23 (.slice a m c)
 rw [List.set_cons_zero] at this
 exact this.perm (by
  classical
  rw [List.perm_iff_count]
  intro z
  simp only [List.count_append, List.count_cons, List.count_nil]
  omega)
def StP (i : Nat) (w : World) (e : Ending) (V : World) : Prop := ∃ t p s q C, e = .returned (.agg (tc t p s q).toArray) ∧ SeatT i t ∧ TLen t ∧ ZB (t, p, s, q) C ∧ Mem w V C
theorem and_low {k : IntKind} (j : Nat) (hj : j ≤ k.bits) (hk : ∀ n : Int, 0 ≤ n → n < 2 ^ j → k.wrap n = n) (i : Nat) (hi : i ≤ j) (m x : Int) (hm : m = 2 ^ i - 1) (h0 : 0 ≤ x) (h1 : x < 2 ^ j) : 0 ≤ bits .and k x m ∧ bits .and k x m ≤ m := by
 subst hm
 rw [bits_mask k j hj hk i hi x h0 h1]
 have hp : (0 : Int) < 2 ^ i := Int.pow_pos (by decide)
 exact ⟨Int.emod_nonneg _ (by omega), by have := Int.emod_lt_of_pos x hp; omega⟩
set_option maxHeartbeats 16000000 in
theorem sten_any (w : World) (i : Nat) (hi : i < 4) (k : Int) (hk0 : 0 ≤ k) (hk1 : k ≤ 65535) : Calls Tryz.prog 42 #[.int .i64 (i : Int), .int .u16 k] w (StP i w) := by
 obtain ⟨g4, hg4⟩ : ∃ g4, w.heap.size = g4 := ⟨_, rfl⟩
 obtain ⟨s0, hs0⟩ : ∃ s : ByteArray, (⟨#[UInt8.ofNat (97 + i)]⟩ : ByteArray) = s := ⟨_, rfl⟩
 obtain ⟨n1, hn1⟩ : ∃ n : Int, 100 + (i : Int) = n := ⟨_, rfl⟩
 obtain ⟨n2, hn2⟩ : ∃ n : Int, (i : Int) + 1 = n := ⟨_, rfl⟩
 obtain ⟨f, hf⟩ : ∃ n : Int, Int.tmod k 3 = n := ⟨_, rfl⟩
 have hf2 : 0 ≤ f ∧ f ≤ 2 := by rw [← hf, Int.tmod_eq_emod_of_nonneg hk0]; omega
 obtain ⟨a1, ha1⟩ : ∃ n : Int, adr 10 9 0 n2 = n := ⟨_, rfl⟩
 have CN0 : ∀ X, Calls Tryz.prog 69 #[.int .i64 (i : Int)] X fun e w' => e = .returned (.string s0) ∧ X = w' := fun X => by rw [← hs0]; exact sname_any X i hi
 have A1 : ∀ X, Calls Tryz.prog 41 #[.int .u8 10, .int .u8 9, .int .u8 0, .int .u8 n2] X fun e w' => e = .returned (.int .u32 a1) ∧ X = w' := fun X => by rw [← ha1]; exact addr_any X 10 9 0 _ (by omega) (by omega) (by omega) (by omega)
 have A2 : ∀ X, Calls Tryz.prog 41 #[.int .u8 5, .int .u8 5, .int .u8 (i : Int), .int .u8 1] X fun e w' => e = .returned (.int .u32 (adr 5 5 i 1)) ∧ X = w' := fun X => addr_any X 5 5 _ 1 (by omega) (by omega) (by omega) (by omega)
 have A3 : ∀ X, Calls Tryz.prog 41 #[.int .u8 5, .int .u8 5, .int .u8 (i : Int), .int .u8 2] X fun e w' => e = .returned (.int .u32 (adr 5 5 i 2)) ∧ X = w' := fun X => addr_any X 5 5 _ 2 (by omega) (by omega) (by omega) (by omega)
 have A4 : ∀ X, Calls Tryz.prog 41 #[.int .u8 10, .int .u8 0, .int .u8 0, .int .u8 9] X fun e w' => e = .returned (.int .u32 (adr 10 0 0 9)) ∧ X = w' := fun X => addr_any X 10 0 0 9 (by omega) (by omega) (by omega) (by omega)
 have A5 : ∀ X, Calls Tryz.prog 41 #[.int .u8 5, .int .u8 6, .int .u8 (i : Int), .int .u8 9] X fun e w' => e = .returned (.int .u32 (adr 5 6 i 9)) ∧ X = w' := fun X => addr_any X 5 6 _ 9 (by omega) (by omega) (by omega) (by omega)
 have A6 : ∀ X, Calls Tryz.prog 41 #[.int .u8 192, .int .u8 168, .int .u8 0, .int .u8 5] X fun e w' => e = .returned (.int .u32 (adr 192 168 0 5)) ∧ X = w' := fun X => addr_any X 192 168 0 5 (by omega) (by omega) (by omega) (by omega)
 have A7 : ∀ X, Calls Tryz.prog 41 #[.int .u8 8, .int .u8 8, .int .u8 8, .int .u8 8] X fun e w' => e = .returned (.int .u32 (adr 8 8 8 8)) ∧ X = w' := fun X => addr_any X 8 8 8 8 (by omega) (by omega) (by omega) (by omega)
 have A8 : ∀ X, Calls Tryz.prog 41 #[.int .u8 192, .int .u8 168, .int .u8 0, .int .u8 6] X fun e w' => e = .returned (.int .u32 (adr 192 168 0 6)) ∧ X = w' := fun X => addr_any X 192 168 0 6 (by omega) (by omega) (by omega) (by omega)
 have e1 : IntKind.u8.wrap (i : Int) = i := wrap8_small _ (by omega) (by omega)
 have e2 : IntKind.u32.wrap (i : Int) = i := wrap32_small _ (by omega) (by omega)
 have e3 : IntKind.u32.wrap (100 + (i : Int)) = n1 := by rw [← hn1]; exact wrap32_small _ (by omega) (by omega)
 have e4 : IntKind.u8.wrap ((i : Int) + 1) = n2 := by rw [← hn2]; exact wrap8_small _ (by omega) (by omega)
 have e5 : IntKind.i64.wrap f = f := wrap64 (by omega) (by omega)
 obtain ⟨T0, hT0⟩ : ∃ T0 : Ten, ({ ten0 with name := s0, vni := n1, key := [n2, 0, 0, 0, 0, 0, 0, 0], vtep := a1, vmac := [2, 9, (i : Int), 0, 0, 0], host := [2, 7, (i : Int), 0, 0, 0], filter := f } : Ten) = T0 := ⟨_, rfl⟩
 obtain ⟨B0, hB0⟩ : ∃ B0, (tc { ten0 with name := s0, vni := n1, key := [n2, 0, 0, 0, 0, 0, 0, 0], vtep := a1, vmac := [2, 9, (i : Int), 0, 0, 0], host := [2, 7, (i : Int), 0, 0, 0], filter := f } nilV nilV nilV).toArray = B0 := ⟨_, rfl⟩
 have hB1 : (tc T0 nilV nilV nilV).toArray = B0 := by rw [← hT0]; exact hB0
 have hl0 : TLen T0 := by rw [← hT0]; exact ⟨rfl, rfl, rfl⟩
 have hsz : B0.size = 33 := by rw [← hB1, List.size_toArray]; exact tc_len hl0 _ _ _
 have hone : B0.all (·.oneCell') = true := by rw [← hB1]; exact tc_one3 _ rfl rfl rfl
 have i33 : (Tryz.prog.info? 45).map (·.size) = some B0.size := by rw [hsz]; kernel_rfl
 have HT0 : Hid (({ ten0 with name := s0, vni := n1, key := [n2, 0, 0, 0, 0, 0, 0, 0], vtep := a1, vmac := [2, 9, (i : Int), 0, 0, 0], host := [2, 7, (i : Int), 0, 0, 0], filter := f } : Ten) = T0 ∧ TLen T0 ∧ (tc T0 nilV nilV nilV).toArray = B0) := ⟨hT0, hl0, hB1⟩
 have hM0 : Mem w (w.alloc (.cells tz 45)) [(g4, .cells tz 45)] := (Mem.nil w).push1 hg4.symm
 have HI : Hid (i < 4 ∧ 0 ≤ k ∧ k ≤ 65535) := ⟨hi, hk0, hk1⟩
 have HB0 : Hid ((tc { ten0 with name := s0, vni := n1, key := [n2, 0, 0, 0, 0, 0, 0, 0], vtep := a1, vmac := [2, 9, (i : Int), 0, 0, 0], host := [2, 7, (i : Int), 0, 0, 0], filter := f } nilV nilV nilV).toArray = B0) := hB0
 have HV : Hid ((⟨#[UInt8.ofNat (97 + i)]⟩ : ByteArray) = s0 ∧ 100 + (i : Int) = n1 ∧ (i : Int) + 1 = n2 ∧ adr 10 9 0 n2 = a1 ∧ 0 ≤ f ∧ f ≤ 2) := ⟨hs0, hn1, hn2, ha1, hf2⟩
 clear hT0 hB1 hl0 hi hk0 hk1 hs0 hn1 hn2 ha1 hf2 hB0
 go_enter Tryz.func42, Tryz.ntmps42
 go_upto_region 1 with fail
 refine wp_letter (fun X => Mem w X [(g4, Obj.cells tz 45)]) (by exact hM0) ?_
 intro V0 hM
 try simp only [hg4]
 clear hM0 hg4
 have CN := CN0 V0
 obtain ⟨gb, hgb⟩ : ∃ gb, V0.heap.size = gb := ⟨_, rfl⟩
 have hk1 : (V0.alloc (.cells tz 45)).heap[gb]? = some (.cells tz 45) := by rw [← hgb]; exact heap_alloc_new _ _
 have e9 : (V0.alloc (.cells tz 45)).setRow gb B0 = V0.alloc (.cells B0 45) := by
  rw [← hgb]; exact World.setRow_alloc_new V0 tz B0 45
 have HP : Hid (Tb w ((V0.alloc (.cells tz 45)).setRow gb B0) gb g4 T0) := by
  rw [e9]
  refine ⟨[(gb, .cells ([] ++ (tc T0 nilV nilV nilV ++ [])).toArray 45)], ⟨HT0.out.2.1, nilV, nilV, nilV, [], [], [], ?_, ?_, ?_, rfl⟩, ?_⟩
  ·rw [← HT0.out.1]; exact OwB.nil _ _
  ·rw [← HT0.out.1]; exact OwB.nil _ _
  ·rw [← HT0.out.1]; exact OwB.nil _ _
  ·simp only [List.nil_append, List.append_nil]
   rw [HT0.out.2.2]
   exact hM.front _ hgb.symm
 clear e9 hM CN0
 go_wp2_with fail
 refine CN.mono ?_
 rintro e _ ⟨rfl, rfl⟩
 clear CN
 go_wp2_with fail
 refine (A1 _).mono ?_
 rintro e _ ⟨rfl, rfl⟩
 clear A1
 go_upto_region 3 with (refine wpList_store_row rfl 45 (.tmp 6) (.tmp 27) (by with_reducible rfl) gb B0 (by simp [Act.eval]; try exact hgb) (by rw [← HB0.out]; rfl) 45 tz hk1 i33 (by rw [hsz]; rfl) hone ?_)
 refine wp_letter (fun X => Tb w X gb g4 T0) (by exact HP.out) ?_
 intro V1 hR
 try simp only [hgb]
 clear HP hgb hk1 hsz hone i33 HB0
 obtain ⟨⟨v1, c23⟩, f23, hT1⟩ := tb_pool hR (adr 5 5 i 1) (gs := V1.heap.size) rfl
 have HT1 : Hid (Tb w ((V1.alloc (.cells #[.int .u32 (adr 5 5 i 1)] 23)).setCell ⟨gb, 23, none⟩ (.slice (some ⟨V1.heap.size, 0, none⟩) 1 1)) gb g4 { T0 with pool := [adr 5 5 i 1] }) := hT1
 clear hT1 hR
 go_wp2_with fail
 refine (A2 _).mono ?_
 rintro e _ ⟨rfl, rfl⟩
 go_upto_region 4 with fail
 refine wp_letter (fun X => Tb w X gb g4 { T0 with pool := [adr 5 5 i 1] }) (by exact HT1.out) ?_
 intro V2 hR
 have HR : Hid (Tb w V2 gb g4 { T0 with pool := [adr 5 5 i 1] }) := hR
 clear HT1 hR c23 f23
 obtain ⟨b4, hb4⟩ : ∃ b, bits .and .u16 k 4 = b := ⟨_, rfl⟩
 go_upto_if 34 with fail
 go_cut [] from 7 (fun w' => ∃ p2 : Bool, Hid (Tb w w' gb g4 { T0 with pool := if p2 then [adr 5 5 i 1, adr 5 5 i 2] else [adr 5 5 i 1] }))
 case first =>
  by_cases hz : b4 = 0
  ·have hz2 : (b4 != 0) = false := by simp [hz]
   go_wp2_with fail
   go_meet
   case rel => exact ⟨false, HR⟩
  ·have hz2 : (b4 != 0) = true := by simp [hz]
   have hd := HR.out.after ((Below.refl _ _).drew)
   obtain ⟨pa, pm, pc, p0, p2, v4, V4, hrun, ⟨qa, qm, qc, rfl⟩, ⟨v0, cv0⟩, fr4, hH⟩ := tb_more hd (by show ([adr 5 5 i 1] : List Int).length ≤ _; simp) (adr 5 5 i 2)
   have HH : Hid (Tb w (V4.setCell ⟨gb, 23, none⟩ (.slice qa qm qc)) gb g4 { T0 with pool := [adr 5 5 i 1, adr 5 5 i 2] }) := hH qa qm qc rfl
   have p3 : (V2.alloc (.cells #[.int .u32 (adr 5 5 i 2)] 23)).cell? ⟨gb, 23, none⟩ = some (.slice pa pm pc) := p2
   clear hH hd HR
   go_upto_region 5 with fail
   refine wp_region_held_drew (S := fun _ => True) (by kernel_rfl) trivial (fun hHeld => ?_)
   refine wpAnyH_take (i := 0) (v := ?_) rfl (by kernel_rfl) (by kernel_rfl) (by kernel_rfl) (fun _ _ _ h => h) (Or.inl ⟨by rfl, ?qay0⟩) (by assumption) ?qar0
   case qay0 => intro w hSw; (try dsimp only at hSw); go_simp; all_goals with_reducible rfl
   try simp only [getElem_toArray, getElem_cons_zero, getElem_cons_succ, Act.put, setIfInBounds_toArray, set_cons_zero, set_cons_succ]
   refine wpAnyH_take (i := 2) (v := ?_) rfl (by kernel_rfl) (by kernel_rfl) (by kernel_rfl) (fun _ _ _ h => h) (Or.inl ⟨by rfl, ?qay2⟩) (by assumption) ?qar2
   case qay2 => intro w hSw; (try dsimp only at hSw); go_simp; all_goals with_reducible rfl
   try simp only [getElem_toArray, getElem_cons_zero, getElem_cons_succ, Act.put, setIfInBounds_toArray, set_cons_zero, set_cons_succ]
   refine wpAnyH_ready (rs := [1, 3]) (by kernel_rfl) (by simp) ?_
   refine AllReadyH.cons rfl (fun KK hK => ?_) (AllReadyH.cons rfl (fun KK hK => ?_) AllReadyH.nil)
   ·go_simp
    refine hK.out _ _ trivial (fun hHeld => ?_)
    clear hK KK
    try simp only [getElem_toArray, getElem_cons_zero, getElem_cons_succ, Act.put, setIfInBounds_toArray, set_cons_zero, set_cons_succ]
    refine wpAnyH_ready (rs := [3]) (by kernel_rfl) (by simp) ?_
    refine AllReadyH.cons rfl (fun KK hK => ?_) AllReadyH.nil
    go_simp
    with_reducible refine (A3 _).mono ?_
    rintro e _ ⟨rfl, rfl⟩
    try go_wp2_with fail
    refine hK.out _ _ trivial (fun hHeld => ?_)
    clear hK KK
    try simp only [getElem_toArray, getElem_cons_zero, getElem_cons_succ, Act.put, setIfInBounds_toArray, set_cons_zero, set_cons_succ]
    refine wpAnyH_ready (rs := [4]) (by kernel_rfl) (by simp) ?_
    refine AllReadyH.cons rfl (fun KK hK => ?_) AllReadyH.nil
    go_simp
    refine hK.out _ _ trivial (fun hHeld => ?_)
    clear hK KK
    try simp only [getElem_toArray, getElem_cons_zero, getElem_cons_succ, Act.put, setIfInBounds_toArray, set_cons_zero, set_cons_succ]
    refine wpAnyH_ready (rs := [5]) (by kernel_rfl) (by simp) ?_
    refine AllReadyH.cons rfl (fun KK hK => ?_) AllReadyH.nil
    refine step_append_run rfl (.tmp 36) (.tmp 39) 41 41 rfl (by simp [Act.eval]) (by simp [Act.eval]) hrun ?_
    refine hK.out _ _ trivial (fun hHeld => ?_)
    clear hK KK
    try simp only [getElem_toArray, getElem_cons_zero, getElem_cons_succ, Act.put, setIfInBounds_toArray, set_cons_zero, set_cons_succ]
    refine wpAnyH_take (i := 6) (v := ?_) rfl (by kernel_rfl) (by kernel_rfl) (by kernel_rfl) (fun _ _ _ h => h) (Or.inl ⟨by rfl, ?qbzy6⟩) (by assumption) ?qbzr6
    case qbzy6 => intro w hSw; (try dsimp only at hSw); go_simp; all_goals with_reducible rfl
    try simp only [getElem_toArray, getElem_cons_zero, getElem_cons_succ, Act.put, setIfInBounds_toArray, set_cons_zero, set_cons_succ]
    refine wpAnyH_ready (rs := [7]) (by kernel_rfl) (by simp) ?_
    refine AllReadyH.cons rfl (fun KK hK => ?_) AllReadyH.nil
    go_simp
    refine hK.out _ _ trivial (fun hHeld => ?_)
    clear hK KK
    try simp only [getElem_toArray, getElem_cons_zero, getElem_cons_succ, Act.put, setIfInBounds_toArray, set_cons_zero, set_cons_succ]
    refine wpAnyH_done (by kernel_rfl) ?_ _
    go_wp2_with fail
    go_meet
    case rel => exact ⟨true, HH⟩
   ·go_simp
    with_reducible refine (A3 _).mono ?_
    rintro e _ ⟨rfl, rfl⟩
    try go_wp2_with fail
    refine hK.out _ _ trivial (fun hHeld => ?_)
    clear hK KK
    try simp only [getElem_toArray, getElem_cons_zero, getElem_cons_succ, Act.put, setIfInBounds_toArray, set_cons_zero, set_cons_succ]
    refine wpAnyH_ready (rs := [1, 4]) (by kernel_rfl) (by simp) ?_
    refine AllReadyH.cons rfl (fun KK hK => ?_) (AllReadyH.cons rfl (fun KK hK => ?_) AllReadyH.nil)
    ·go_simp
     refine hK.out _ _ trivial (fun hHeld => ?_)
     clear hK KK
     try simp only [getElem_toArray, getElem_cons_zero, getElem_cons_succ, Act.put, setIfInBounds_toArray, set_cons_zero, set_cons_succ]
     refine wpAnyH_ready (rs := [4]) (by kernel_rfl) (by simp) ?_
     refine AllReadyH.cons rfl (fun KK hK => ?_) AllReadyH.nil
     go_simp
     refine hK.out _ _ trivial (fun hHeld => ?_)
     clear hK KK
     try simp only [getElem_toArray, getElem_cons_zero, getElem_cons_succ, Act.put, setIfInBounds_toArray, set_cons_zero, set_cons_succ]
     refine wpAnyH_ready (rs := [5]) (by kernel_rfl) (by simp) ?_
     refine AllReadyH.cons rfl (fun KK hK => ?_) AllReadyH.nil
     refine step_append_run rfl (.tmp 36) (.tmp 39) 41 41 rfl (by simp [Act.eval]) (by simp [Act.eval]) hrun ?_
     refine hK.out _ _ trivial (fun hHeld => ?_)
     clear hK KK
     try simp only [getElem_toArray, getElem_cons_zero, getElem_cons_succ, Act.put, setIfInBounds_toArray, set_cons_zero, set_cons_succ]
     refine wpAnyH_take (i := 6) (v := ?_) rfl (by kernel_rfl) (by kernel_rfl) (by kernel_rfl) (fun _ _ _ h => h) (Or.inl ⟨by rfl, ?qczy6⟩) (by assumption) ?qczr6
     case qczy6 => intro w hSw; (try dsimp only at hSw); go_simp; all_goals with_reducible rfl
     try simp only [getElem_toArray, getElem_cons_zero, getElem_cons_succ, Act.put, setIfInBounds_toArray, set_cons_zero, set_cons_succ]
     refine wpAnyH_ready (rs := [7]) (by kernel_rfl) (by simp) ?_
     refine AllReadyH.cons rfl (fun KK hK => ?_) AllReadyH.nil
     go_simp
     refine hK.out _ _ trivial (fun hHeld => ?_)
     clear hK KK
     try simp only [getElem_toArray, getElem_cons_zero, getElem_cons_succ, Act.put, setIfInBounds_toArray, set_cons_zero, set_cons_succ]
     refine wpAnyH_done (by kernel_rfl) ?_ _
     go_wp2_with fail
     go_meet
     case rel => exact ⟨true, HH⟩
    ·go_simp
     refine hK.out _ _ trivial (fun hHeld => ?_)
     clear hK KK
     try simp only [getElem_toArray, getElem_cons_zero, getElem_cons_succ, Act.put, setIfInBounds_toArray, set_cons_zero, set_cons_succ]
     refine wpAnyH_ready (rs := [1]) (by kernel_rfl) (by simp) ?_
     refine AllReadyH.cons rfl (fun KK hK => ?_) AllReadyH.nil
     go_simp
     refine hK.out _ _ trivial (fun hHeld => ?_)
     clear hK KK
     try simp only [getElem_toArray, getElem_cons_zero, getElem_cons_succ, Act.put, setIfInBounds_toArray, set_cons_zero, set_cons_succ]
     refine wpAnyH_ready (rs := [5]) (by kernel_rfl) (by simp) ?_
     refine AllReadyH.cons rfl (fun KK hK => ?_) AllReadyH.nil
     refine step_append_run rfl (.tmp 36) (.tmp 39) 41 41 rfl (by simp [Act.eval]) (by simp [Act.eval]) hrun ?_
     refine hK.out _ _ trivial (fun hHeld => ?_)
     clear hK KK
     try simp only [getElem_toArray, getElem_cons_zero, getElem_cons_succ, Act.put, setIfInBounds_toArray, set_cons_zero, set_cons_succ]
     refine wpAnyH_take (i := 6) (v := ?_) rfl (by kernel_rfl) (by kernel_rfl) (by kernel_rfl) (fun _ _ _ h => h) (Or.inl ⟨by rfl, ?qdzy6⟩) (by assumption) ?qdzr6
     case qdzy6 => intro w hSw; (try dsimp only at hSw); go_simp; all_goals with_reducible rfl
     try simp only [getElem_toArray, getElem_cons_zero, getElem_cons_succ, Act.put, setIfInBounds_toArray, set_cons_zero, set_cons_succ]
     refine wpAnyH_ready (rs := [7]) (by kernel_rfl) (by simp) ?_
     refine AllReadyH.cons rfl (fun KK hK => ?_) AllReadyH.nil
     go_simp
     refine hK.out _ _ trivial (fun hHeld => ?_)
     clear hK KK
     try simp only [getElem_toArray, getElem_cons_zero, getElem_cons_succ, Act.put, setIfInBounds_toArray, set_cons_zero, set_cons_succ]
     refine wpAnyH_done (by kernel_rfl) ?_ _
     go_wp2_with fail
     go_meet
     case rel => exact ⟨true, HH⟩
 case rest =>
  obtain ⟨p2, HR3⟩ := hcut
  clear HR hb4
  obtain ⟨T2, hT2⟩ : ∃ T2 : Ten, { T0 with pool := if p2 then [adr 5 5 i 1, adr 5 5 i 2] else [adr 5 5 i 1] } = T2 := ⟨_, rfl⟩
  rw [hT2] at HR3
  have HX2 : Hid ({ T0 with pool := if p2 then [adr 5 5 i 1, adr 5 5 i 2] else [adr 5 5 i 1] } = T2) := hT2
  obtain ⟨r1, hr1⟩ : ∃ r, bits .and .u16 (k / 8) 7 = r := ⟨_, rfl⟩
  have hr1b := and_low (k := .u16) 16 (by decide) (fun n h0 h1 => wrap16_small n h0 (by omega)) 3 (by decide) 7 (k / 8) (by decide) (by have := HI.out; omega) (by have := HI.out; omega)
  rw [hr1] at hr1b
  obtain ⟨h1, hh1⟩ : ∃ h, 1024 + r1 = h := ⟨_, rfl⟩
  have e6 : IntKind.u16.wrap (1024 + r1) = h1 := by rw [← hh1]; exact wrap16_small _ (by omega) (by omega)
  obtain ⟨⟨v24, c24⟩, f24, hQ⟩ := tb_set HR3.out (fun L hL => tat_lo hL 1024)
  obtain ⟨⟨v25, c25⟩, f25, hQ2⟩ := tb_set hQ (fun L hL => tat_hi hL h1)
  have HQ : Hid (Tb w ((wc.setCell ⟨gb, 24, none⟩ (.int .u16 1024)).setCell ⟨gb, 25, none⟩ (.int .u16 h1)) gb g4 { T2 with lo := 1024, hi := h1 }) := hQ2
  have HH1 : Hid (0 ≤ h1 ∧ h1 ≤ 9999) := by rw [← hh1]; exact ⟨by omega, by omega⟩
  clear hQ hQ2 HR3 hT2 hh1 hr1b
  go_upto_region 7 with fail
  refine wp_letter (fun X => Tb w X gb g4 { T2 with lo := 1024, hi := h1 }) (by exact HQ.out) ?_
  intro V3 hR
  have HR : Hid (Tb w V3 gb g4 { T2 with lo := 1024, hi := h1 }) := hR
  clear HQ hR c24 c25 f24 f25 e6 hr1
  obtain ⟨b6, hb6⟩ : ∃ b, bits .and .u16 k 64 = b := ⟨_, rfl⟩
  go_upto_if 50 with fail
  go_cut [] from 7 (fun w' => ∃ lo hi : Int, (0 ≤ lo ∧ lo ≤ 9999) ∧ (0 ≤ hi ∧ hi ≤ 9999) ∧ Hid (Tb w w' gb g4 { T2 with lo := lo, hi := hi }))
  case first =>
   by_cases hz : b6 = 0
   ·have hz2 : (b6 != 0) = false := by simp [hz]
    go_wp2_with fail
    go_meet
    case rel => exact ⟨1024, h1, by omega, HH1.out, HR⟩
   ·have hz2 : (b6 != 0) = true := by simp [hz]
    obtain ⟨⟨v24, c24⟩, f24, hQ⟩ := tb_set HR.out (fun L hL => tat_lo hL 1020)
    obtain ⟨⟨v25, c25⟩, f25, hQ2⟩ := tb_set hQ (fun L hL => tat_hi hL 1030)
    have HQ : Hid (Tb w ((V3.setCell ⟨gb, 24, none⟩ (.int .u16 1020)).setCell ⟨gb, 25, none⟩ (.int .u16 1030)) gb g4 { T2 with lo := 1020, hi := 1030 }) := hQ2
    clear hQ hQ2 HR
    go_wp2_with fail
    go_meet
    case rel => exact ⟨1020, 1030, by omega, by omega, HQ⟩
  case rest =>
   obtain ⟨lo, hi, rlo, rhi, HR4⟩ := hcut
   clear HR hb6
   have HLH : Hid ((0 ≤ lo ∧ lo ≤ 9999) ∧ (0 ≤ hi ∧ hi ≤ 9999)) := ⟨rlo, rhi⟩
   obtain ⟨T3, hT3⟩ : ∃ T3 : Ten, { T2 with lo := lo, hi := hi } = T3 := ⟨_, rfl⟩
   rw [hT3] at HR4
   have HX3 : Hid ({ T2 with lo := lo, hi := hi } = T3) := hT3
   clear hT3 rlo rhi
   obtain ⟨b7, hb7⟩ : ∃ b, bits .and .u16 k 128 = b := ⟨_, rfl⟩
   go_upto_if 55 with fail
   go_cut [] from 7 (fun w' => ∃ st : Bool, Hid (Tb w w' gb g4 { T3 with stat := if st then [(adr 10 0 0 9, adr 5 6 i 9)] else T3.stat }))
   case first =>
    by_cases hz : b7 = 0
    ·have hz2 : (b7 != 0) = false := by simp [hz]
     go_wp2_with fail
     go_meet
     case rel => exact ⟨false, HR4⟩
    ·have hz2 : (b7 != 0) = true := by simp [hz]
     obtain ⟨⟨v27, c27⟩, f27, hQ⟩ := tb_stat HR4.out (adr 10 0 0 9) (adr 5 6 i 9) (gs := wc.heap.size) rfl
     have HQ : Hid (Tb w ((wc.alloc (.cells #[.int .u32 (adr 10 0 0 9), .int .u32 (adr 5 6 i 9)] 96)).setCell ⟨gb, 27, none⟩ (.slice (some ⟨wc.heap.size, 0, none⟩) 1 1)) gb g4 { T3 with stat := [(adr 10 0 0 9, adr 5 6 i 9)] }) := hQ
     clear hQ HR4
     go_wp2_with fail
     refine (A4 _).mono ?_
     rintro e _ ⟨rfl, rfl⟩
     go_wp2_with fail
     refine (A5 _).mono ?_
     rintro e _ ⟨rfl, rfl⟩
     go_wp2_with fail
     go_meet
     case rel => exact ⟨true, HQ⟩
   case rest =>
    obtain ⟨st, HR5⟩ := hcut
    clear HR4 hb7
    obtain ⟨T4, hT4⟩ : ∃ T4 : Ten, { T3 with stat := if st then [(adr 10 0 0 9, adr 5 6 i 9)] else T3.stat } = T4 := ⟨_, rfl⟩
    rw [hT4] at HR5
    have HX4 : Hid ({ T3 with stat := if st then [(adr 10 0 0 9, adr 5 6 i 9)] else T3.stat } = T4) := hT4
    clear hT4
    obtain ⟨b8, hb8⟩ : ∃ b, bits .and .u16 k 256 = b := ⟨_, rfl⟩
    go_upto_if 64 with fail
    go_cut [] from 7 (fun w' => ∃ tw : Bool, Hid (Tb w w' gb g4 { T4 with twi := if tw then [(adr 192 168 0 5, adr 8 8 8 8), (adr 192 168 0 6, adr 5 5 i 1)] else T4.twi }))
    case first =>
     by_cases hz : b8 = 0
     ·have hz2 : (b8 != 0) = false := by simp [hz]
      go_wp2_with fail
      go_meet
      case rel => exact ⟨false, HR5⟩
     ·have hz2 : (b8 != 0) = true := by simp [hz]
      obtain ⟨⟨v28, c28⟩, f28, hQ⟩ := tb_twi HR5.out (adr 192 168 0 5) (adr 8 8 8 8) (adr 192 168 0 6) (adr 5 5 i 1) (gs := wc.heap.size) rfl
      have HQ : Hid (Tb w ((wc.alloc (.cells #[.int .u32 (adr 192 168 0 5), .int .u32 (adr 8 8 8 8), .int .u32 (adr 192 168 0 6), .int .u32 (adr 5 5 i 1)] 96)).setCell ⟨gb, 28, none⟩ (.slice (some ⟨wc.heap.size, 0, none⟩) 2 2)) gb g4 { T4 with twi := [(adr 192 168 0 5, adr 8 8 8 8), (adr 192 168 0 6, adr 5 5 i 1)] }) := hQ
      clear hQ HR5
      go_wp2_with fail
      refine (A6 _).mono ?_
      rintro e _ ⟨rfl, rfl⟩
      go_wp2_with fail
      refine (A7 _).mono ?_
      rintro e _ ⟨rfl, rfl⟩
      go_wp2_with fail
      refine (A8 _).mono ?_
      rintro e _ ⟨rfl, rfl⟩
      go_wp2_with fail
      refine (A2 _).mono ?_
      rintro e _ ⟨rfl, rfl⟩
      go_wp2_with fail
      go_meet
      case rel => exact ⟨true, HQ⟩
    case rest =>
     obtain ⟨tw, HR6⟩ := hcut
     clear HR5 hb8
     obtain ⟨T5, hT5⟩ : ∃ T5 : Ten, { T4 with twi := if tw then [(adr 192 168 0 5, adr 8 8 8 8), (adr 192 168 0 6, adr 5 5 i 1)] else T4.twi } = T5 := ⟨_, rfl⟩
     rw [hT5] at HR6
     have HX5 : Hid ({ T4 with twi := if tw then [(adr 192 168 0 5, adr 8 8 8 8), (adr 192 168 0 6, adr 5 5 i 1)] else T4.twi } = T5) := hT5
     clear hT5
     obtain ⟨q1, hq1⟩ : ∃ r, bits .and .i64 (k / 512) 7 = r := ⟨_, rfl⟩
     have bq1 := and_low (k := .i64) 63 (by decide) (fun n h0 h1 => wrap64 (by omega) (by omega)) 3 (by decide) 7 (k / 512) (by decide) (by have := HI.out; omega) (by have := HI.out; omega)
     rw [hq1] at bq1
     obtain ⟨q2, hq2⟩ : ∃ r, bits .and .i64 (k / 4096) 3 = r := ⟨_, rfl⟩
     have bq2 := and_low (k := .i64) 63 (by decide) (fun n h0 h1 => wrap64 (by omega) (by omega)) 2 (by decide) 3 (k / 4096) (by decide) (by have := HI.out; omega) (by have := HI.out; omega)
     rw [hq2] at bq2
     obtain ⟨q3, hq3⟩ : ∃ r, bits .and .u32 (k / 16384) 3 = r := ⟨_, rfl⟩
     have bq3 := and_low (k := .u32) 32 (by decide) (fun n h0 h1 => wrap32_small n h0 (by omega)) 2 (by decide) 3 (k / 16384) (by decide) (by have := HI.out; omega) (by have := HI.out; omega)
     rw [hq3] at bq3
     obtain ⟨q4, hq4⟩ : ∃ r, bits .and .u32 (k / 8192) 7 = r := ⟨_, rfl⟩
     have bq4 := and_low (k := .u32) 32 (by decide) (fun n h0 h1 => wrap32_small n h0 (by omega)) 3 (by decide) 7 (k / 8192) (by decide) (by have := HI.out; omega) (by have := HI.out; omega)
     rw [hq4] at bq4
     have w1 : IntKind.i64.wrap (k / 512) = k / 512 := wrap64 (by have := HI.out; omega) (by have := HI.out; omega)
     have w2 : IntKind.i64.wrap (k / 4096) = k / 4096 := wrap64 (by have := HI.out; omega) (by have := HI.out; omega)
     have w3 : IntKind.u32.wrap (k / 16384) = k / 16384 := wrap32_small _ (by have := HI.out; omega) (by have := HI.out; omega)
     have w4 : IntKind.u32.wrap (k / 8192) = k / 8192 := wrap32_small _ (by have := HI.out; omega) (by have := HI.out; omega)
     obtain ⟨s1, hs1⟩ : ∃ r, 1 + q1 = r := ⟨_, rfl⟩
     obtain ⟨s2, hs2⟩ : ∃ r, 1 + q2 = r := ⟨_, rfl⟩
     obtain ⟨s4, hs4⟩ : ∃ r, 3 + q4 = r := ⟨_, rfl⟩
     have x1 : IntKind.i64.wrap (1 + q1) = s1 := by rw [← hs1]; exact wrap64 (by omega) (by omega)
     have x2 : IntKind.i64.wrap (1 + q2) = s2 := by rw [← hs2]; exact wrap64 (by omega) (by omega)
     have x4 : IntKind.u32.wrap (3 + q4) = s4 := by rw [← hs4]; exact wrap32_small _ (by omega) (by omega)
     have HRG : Hid (SRg lo hi f s1 s2 q3 s4) := ⟨HLH.out.1, HLH.out.2, HV.out.2.2.2.2, by omega, by omega, by omega, by omega⟩
     clear hs1 hs2 hs4 bq1 bq2 bq3 bq4
     obtain ⟨⟨v29, c29⟩, f29, hQ⟩ := tb_set HR6.out (fun L hL => tat_sess hL s1)
     have HQ : Hid (Tb w (wc.setCell ⟨gb, 29, none⟩ (.int .i64 s1)) gb g4 { T5 with sess := s1 }) := hQ
     clear hQ HR6
     go_upto_region 14 with fail
     refine wp_letter (fun X => Tb w X gb g4 { T5 with sess := s1 }) (by exact HQ.out) ?_
     intro V4 hR
     clear HQ c29 f29
     obtain ⟨⟨v30, c30⟩, f30, hQ⟩ := tb_set hR (fun L hL => tat_queue hL s2)
     have HQ : Hid (Tb w (V4.setCell ⟨gb, 30, none⟩ (.int .i64 s2)) gb g4 { T5 with sess := s1, queue := s2 }) := hQ
     clear hQ hR
     go_upto_region 15 with fail
     refine wp_letter (fun X => Tb w X gb g4 { T5 with sess := s1, queue := s2 }) (by exact HQ.out) ?_
     intro V5 hR
     clear HQ c30 f30
     obtain ⟨⟨v31, c31⟩, f31, hQ⟩ := tb_set hR (fun L hL => tat_rate hL q3)
     have HQ : Hid (Tb w (V5.setCell ⟨gb, 31, none⟩ (.int .u32 q3)) gb g4 { T5 with sess := s1, queue := s2, rate := q3 }) := hQ
     clear hQ hR
     go_upto_region 16 with fail
     refine wp_letter (fun X => Tb w X gb g4 { T5 with sess := s1, queue := s2, rate := q3 }) (by exact HQ.out) ?_
     intro V6 hR
     clear HQ c31 f31
     obtain ⟨⟨v32, c32⟩, f32, hQ⟩ := tb_set hR (fun L hL => tat_burst hL s4)
     have HQ : Hid (Tb w (V6.setCell ⟨gb, 32, none⟩ (.int .u32 s4)) gb g4 { T5 with sess := s1, queue := s2, rate := q3, burst := s4 }) := hQ
     clear hQ hR
     go_upto_region 17 with fail
     refine wp_letter (fun X => Tb w X gb g4 { T5 with sess := s1, queue := s2, rate := q3, burst := s4 }) (by exact HQ.out) ?_
     intro V7 hR
     clear HQ c32 f32 hq1 hq2 hq3 hq4 w1 w2 w3 w4 x1 x2 x4
     obtain ⟨T6, hT6⟩ : ∃ T6 : Ten, { T5 with sess := s1, queue := s2, rate := q3, burst := s4 } = T6 := ⟨_, rfl⟩
     rw [hT6] at hR
     have hS : SeatT i T6 := by
      refine ⟨p2, st, tw, lo, hi, f, s1, s2, q3, s4, ?_, HRG.out⟩
      obtain ⟨z1, z2, z3, z4, -⟩ := HV.out
      rw [← hT6, ← HX5.out, ← HX4.out, ← HX3.out, ← HX2.out, ← HT0.out.1, ← z1, ← z2, ← z4, ← z3]
      rfl
     obtain ⟨L, ⟨hlen, p, s, q, B1, B2, B3, k1, k2, k3, rfl⟩, hM⟩ := hR
     simp only [List.nil_append, List.append_nil] at hM
     have hsz : (tc T6 p s q).toArray.size = 33 := by rw [List.size_toArray]; exact tc_len hlen _ _ _
     have hone : (tc T6 p s q).toArray.all (·.oneCell') = true := tc_one3 _ (owb_one k1) (owb_one k2) (owb_one k3)
     obtain ⟨A, hA⟩ : ∃ A, (tc T6 p s q).toArray = A := ⟨_, rfl⟩
     rw [hA] at hsz hone hM
     have i33 : (Tryz.prog.info? 45).map (·.size) = some A.size := by rw [hsz]; kernel_rfl
     have hM2 : Mem w V7 ((gb, .cells A 45) :: (g4, .cells tz 45) :: (B1 ++ (B2 ++ B3))) := hM.perm (by
  classical
  rw [List.perm_iff_count]
  intro z
  simp only [List.count_append, List.count_cons, List.count_nil]
  omega)
     have k4 := hM2.get 0 rfl
     have k5 := hM2.get 1 rfl
     have hM3 := hM2.wrote 1 rfl (wrote_setRow V7 g4 _ A _ k5)
     have HQ : Hid ((V7.setRow g4 A).heap[g4]? = some (.cells A 45) ∧ StP i w (.returned (.agg A)) (V7.setRow g4 A)) := by
      refine ⟨hM3.get 1 rfl, T6, p, s, q, B1 ++ (B2 ++ B3), by rw [hA], hS, hlen, ZB.of hlen k1 k2 k3, hM3.sub.sub⟩
     clear hM hM2 hM3 hS k1 k2 k3 hA hT6 HX2 HX3 HX4 HX5 HT0 HV HRG HLH
     go_wp2_with (first | (refine wpList_load_row rfl 45 (.tmp 6) (by with_reducible rfl) gb (by first | rfl | simp [Act.eval]) 45 A (0, 0) _ k4 Tryz.underlying45 rfl i33 ?_) | (refine wpList_store_row rfl 45 (.tmp 4) (.tmp 97) (by with_reducible rfl) g4 A (by first | rfl | simp [Act.eval]) (by first | rfl | simp [Act.eval]) 45 tz k5 i33 (by rw [hsz]; rfl) hone ?_))
     refine bodyPost_ret (v := .agg A) ?_ rfl HQ.out.2
     exact results_cell_row (p := 4) (ty := 45) rfl _ _ g4 45 _ (0, 0) _ rfl HQ.out.1 Tryz.underlying45 rfl i33
end Go.Proofs.YtneciccdiledfaaGreatDoor
namespace Go.Proofs.YtneciccdiledfaaGreatDoor
open Go.RowKit
open List (getElem_toArray getElem_cons_zero getElem_cons_succ setIfInBounds_toArray set_cons_zero set_cons_succ)
open La
open Ad
set_option maxHeartbeats 8000000 in
theorem part_filter {w V : World} {g : Nat} {lp : List Value} {lt : TypeId} {σ : Sg} {W K L : List (Nat × Obj)} {gt : Nat} {pre post : List Value} {T : TypeId} {t : Ten} (hV : Vs w) (hF : FW w) (h : LnS w V g lp lt σ W (L ++ K)) (hT : TAt gt pre post T t L) (b : Wd) (hb : b.1.data.toList = wFilter) :
  Calls Tryz.prog 83 #[.pointer (some ⟨g, 0, none⟩), .agg #[.string b.1, .int .i64 b.2], .pointer (some ⟨gt, pre.length, none⟩)] V (PP w g lp lt W K gt pre post T (La.part b t σ)) := by
 obtain ⟨b1, b2⟩ := b
 simp only at hb
 have hb1 : b1 = ⟨#[102, 105, 108, 116, 101, 114]⟩ := by rw [show b1 = ⟨b1.data.toList.toArray⟩ from rfl, hb]; rfl
 have hp : La.part (b1, b2) t σ = ({ t with filter := ofl (val flt σ) t.filter }, vnx flt σ) := by unfold La.part; rw [if_neg (by rw [hb]; decide)]; rw [if_neg (by rw [hb]; decide)]; rw [if_pos hb]
 rw [hp]
 clear hb hp
 subst hb1
 have HR0 : Hid (LnS w (V.alloc (.cells #[.string ⟨#[102, 105, 108, 116, 101, 114]⟩, .int .i64 b2] 149)) g lp lt σ W (L ++ K)) := h.after ((Below.refl _ _).alloc (Nat.le_refl _) _)
 have HT : Hid (TAt gt pre post T t L) := hT
 clear h hT
 obtain ⟨n, hn⟩ : ∃ n, pre.length = n := ⟨_, rfl⟩
 have HN : Hid (pre.length = n) := hn
 rw [hn]
 clear hn
 go_enter Tryz.func83, Tryz.ntmps83
 go_upto_region 10 with fail
 refine wp_letter (fun X => LnS w X g lp lt σ W (L ++ K)) (by exact HR0.out) ?_
 intro V0 hR
 have C := value_filter hF hR
 obtain ⟨x, hx⟩ : ∃ x, nv (val flt σ) = x := ⟨_, rfl⟩
 have HE : Hid (nv (val flt σ) = x) := hx
 rw [hx] at C
 clear HR0 hR hx
 go_wp2_with fail
 refine C.mono ?_
 rintro e V1 (⟨hbz, rfl, hR⟩ | ⟨a, hb, g', rfl, hM⟩)
 rotate_left
 ·exact ⟨rfl, Or.inr ⟨a, hb, g', rfl, hM⟩⟩
 have HB : Hid ((vnx flt σ).bad = none) := hbz
 obtain ⟨A, R, rfl, hlt, hT⟩ := tat_filter HT.out x
 rw [HN.out] at hlt hT
 obtain ⟨v0, cc⟩ : ∃ v0, V1.cell? ⟨gt, n + 26, none⟩ = some v0 := ⟨_, (hR.cellK (i := 0) rfl (n + 26)).trans (Array.getElem?_eq_getElem hlt)⟩
 have fr : ∀ j, V1.frozen? ⟨gt, j, none⟩ = false := hR.freeK (i := 0) rfl
 have hR2 := hR.set (i := 0) rfl (n + 26) (.int .i64 x)
 obtain ⟨L1, hL1⟩ : ∃ L', (gt, Obj.cells (A.setIfInBounds (n + 26) (.int .i64 x)) T (0, 0)) :: R = L' := ⟨_, rfl⟩
 rw [hL1] at hT
 have HNx : Hid (LnS w (V1.setCell ⟨gt, n + 26, none⟩ (.int .i64 x)) g lp lt (vnx flt σ) W (L1 ++ K)) := by rw [← hL1]; exact hR2
 have HT' : Hid (TAt gt pre post T { t with filter := ofl (val flt σ) t.filter } L1) := by
  have hs := vnx_some HB.out
  have hx2 : nv (flt (wt σ)) = x := HE.out
  have e : ofl (val flt σ) t.filter = x := by
   show ofl (flt (wt σ)) t.filter = x
   cases hf : flt (wt σ) with
   | none => rw [hf] at hs; cases hs
   | some m => rw [hf, nv_some] at hx2; exact hx2
  rw [e]; exact hT
 clear HT hT hL1 hR2 hR C hlt hbz
 go_wp2_with fail
 go_end0
 exact Or.inl ⟨HB.out, rfl, L1, HT'.out, HNx.out⟩
set_option maxHeartbeats 8000000 in
theorem part_none {w V : World} {g : Nat} {lp : List Value} {lt : TypeId} {σ : Sg} {W K L : List (Nat × Obj)} {gt : Nat} {pre post : List Value} {T : TypeId} {t : Ten} (h : LnS w V g lp lt σ W (L ++ K)) (b : Wd) (h0 : b.1.data.toList ≠ wPool) (h1 : b.1.data.toList ≠ wPorts) (h2 : b.1.data.toList ≠ wFilter) (h3 : b.1.data.toList ≠ wStatic) (h4 : b.1.data.toList ≠ wTwice) (h5 : b.1.data.toList ≠ wQuota) (h6 : b.1.data.toList ≠ wRate) :
  Calls Tryz.prog 83 #[.pointer (some ⟨g, 0, none⟩), .agg #[.string b.1, .int .i64 b.2], .pointer (some ⟨gt, pre.length, none⟩)] V (PP w g lp lt W K gt pre post T (La.part b t σ)) := by
 obtain ⟨b1, b2⟩ := b
 have hp : La.part (b1, b2) t σ = (t, σ.fail b2) := by unfold La.part; rw [if_neg h0, if_neg h1, if_neg h2, if_neg h3, if_neg h4, if_neg h5, if_neg h6]
 rw [hp]
 have HB : Hid ((σ.fail b2).bad = some b2) := by unfold Sg.fail; rw [h.1]; rfl
 have n0 : (b1.toList == [112, 111, 111, 108]) = false := str_ne h0
 have n1 : (b1.toList == [112, 111, 114, 116, 115]) = false := str_ne h1
 have n2 : (b1.toList == [102, 105, 108, 116, 101, 114]) = false := str_ne h2
 have n3 : (b1.toList == [115, 116, 97, 116, 105, 99]) = false := str_ne h3
 have n4 : (b1.toList == [116, 119, 105, 99, 101]) = false := str_ne h4
 have n5 : (b1.toList == [113, 117, 111, 116, 97]) = false := str_ne h5
 have n6 : (b1.toList == [114, 97, 116, 101]) = false := str_ne h6
 have CF := fail_any (h.mem.after ((Below.refl _ _).alloc (Nat.le_refl _) (.cells #[.string b1, .int .i64 b2] 149))) b2
 clear h hp h0 h1 h2 h3 h4 h5 h6
 go_enter Tryz.func83, Tryz.ntmps83
 go_wp2_with fail
 refine CF.mono ?_
 rintro e V3 ⟨g', rfl, hM⟩
 exact ⟨rfl, Or.inr ⟨_, HB.out, g', rfl, hM⟩⟩
set_option maxHeartbeats 8000000 in
theorem part_static {w V : World} {g : Nat} {lp : List Value} {lt : TypeId} {σ : Sg} {W K L : List (Nat × Obj)} {gt : Nat} {pre post : List Value} {T : TypeId} {t : Ten} (hV : Vs w) (hF : FW w) (h : LnS w V g lp lt σ W (L ++ K)) (hT : TAt gt pre post T t L) (hlen : t.stat.length ≤ 900000) (b : Wd) (hb : b.1.data.toList = wStatic) :
  Calls Tryz.prog 83 #[.pointer (some ⟨g, 0, none⟩), .agg #[.string b.1, .int .i64 b.2], .pointer (some ⟨gt, pre.length, none⟩)] V (PP w g lp lt W K gt pre post T (La.part b t σ)) := by
 obtain ⟨b1, b2⟩ := b
 simp only at hb
 have hb1 : b1 = ⟨#[115, 116, 97, 116, 105, 99]⟩ := by rw [show b1 = ⟨b1.data.toList.toArray⟩ from rfl, hb]; rfl
 have hp : La.part (b1, b2) t σ = ({ t with stat := t.stat ++ [(nv (val ip σ), nv (val ip (vnx ip σ)))] }, two2 ip σ) := by unfold La.part; rw [if_neg (by rw [hb]; decide)]; rw [if_neg (by rw [hb]; decide)]; rw [if_neg (by rw [hb]; decide)]; rw [if_pos hb]
 rw [hp]
 clear hb hp
 subst hb1
 have HR0 : Hid (LnS w (V.alloc (.cells #[.string ⟨#[115, 116, 97, 116, 105, 99]⟩, .int .i64 b2] 149)) g lp lt σ W (L ++ K)) := h.after ((Below.refl _ _).alloc (Nat.le_refl _) _)
 have HT : Hid (TAt gt pre post T t L) := hT
 clear h hT
 obtain ⟨n, hn⟩ : ∃ n, pre.length = n := ⟨_, rfl⟩
 have HN : Hid (pre.length = n) := hn
 rw [hn]
 clear hn
 go_enter Tryz.func83, Tryz.ntmps83
 go_upto_region 12 with fail
 refine wp_letter (fun X => LnS w X g lp lt σ W (L ++ K)) (by exact HR0.out) ?_
 intro V0 hR
 have HR : Hid (LnS w V0 g lp lt σ W (L ++ K)) := hR
 obtain ⟨x, hx⟩ : ∃ x, nv (val ip σ) = x := ⟨_, rfl⟩
 obtain ⟨y, hy⟩ : ∃ y, nv (val ip (vnx ip σ)) = y := ⟨_, rfl⟩
 have HE : Hid (nv (val ip σ) = x ∧ nv (val ip (vnx ip σ)) = y) := ⟨hx, hy⟩
 obtain ⟨A, p, B, R, hperm, hpA, hB, hlt, hnew⟩ := (tat_list HT.out w []).2.1
 rw [HN.out] at hpA hlt hnew
 have hR1 := hR.perm (hperm.append_right K)
 have hR2 : LnS w V0 g lp lt σ W ((gt, .cells A T (0, 0)) :: (B ++ (R ++ K))) := hR1.perm (by classical rw [List.perm_iff_count]; intro z; simp only [List.count_append, List.count_cons]; omega)
 have HG : Hid (∀ X σ', LnS w X g lp lt σ' W ((gt, .cells A T (0, 0)) :: (B ++ (R ++ K))) → X.cell? ⟨gt, n + 27, none⟩ = some p) := fun X σ' hX => (hX.cellK (i := 0) rfl (n + 27)).trans hpA
 obtain ⟨pa, pm, pc, rfl⟩ := owb_slice hB
 have hR2d := hR2.after ((Below.refl _ _).drew)
 have C := pair2_any hV hR2d
 rw [hx, hy] at C
 have p0 := HG.out _ _ hR2d
 have STEP : Hid (∀ V2, LnS w V2 g lp lt (two2 ip σ) W ((gt, .cells A T (0, 0)) :: (B ++ (R ++ K))) → ∃ v4 V4, (Builtin.append_ #[43, 43] 43 #[.slice pa pm pc, .slice (some ⟨V2.heap.size, 0, none⟩) 1 1]).run Tryz.prog (V2.alloc (.cells #[.int .u32 x, .int .u32 y] 96)) = .ok v4 V4 ∧ (∃ a m c, v4 = .slice a m c) ∧ (∃ v0, V4.cell? ⟨gt, n + 27, none⟩ = some v0) ∧ (∀ j, V4.frozen? ⟨gt, j, none⟩ = false) ∧
   ∀ a m c, v4 = .slice a m c → ∃ L', TAt gt pre post T { t with stat := t.stat ++ [(x, y)] } L' ∧ LnS w (V4.setCell ⟨gt, n + 27, none⟩ v4) g lp lt (two2 ip σ) W (L' ++ K)) := by
  intro V2 h2
  have h3 := h2.after ((Below.refl V2.heap.size V2).alloc (Nat.le_refl _) (.cells #[.int .u32 x, .int .u32 y] 96))
  obtain ⟨q1, q2, u, q3, q4⟩ := h3
  obtain ⟨v4, V4, B4, hrun, hM4, hB4⟩ := mem_append (t := 43) (ty := 43) Tryz.underlying43 infoP rfl (by decide) (K := (g, .cells (u :: .int .i64 (two2 ip σ).fin :: lp).toArray lt (0, 0)) :: (gt, .cells A T (0, 0)) :: (R ++ (K ++ W))) (q4.perm (by classical rw [List.perm_iff_count]; intro z; simp only [List.count_append, List.count_cons]; omega)) hB ⟨V2.heap.size, 0, none⟩ [.int .u32 x, .int .u32 y] rfl (fun j u hj => by
    rw [addr_mid, Nat.zero_add, World.cell?_alloc_new]
    simpa using hj) (by simp; exact ⟨rfl, rfl⟩) (by omega) (by omega)
  have h4 : LnS w V4 g lp lt (two2 ip σ) W ((gt, .cells A T (0, 0)) :: (B4 ++ (R ++ K))) := ⟨q1, q2, u, q3, hM4.perm (by classical rw [List.perm_iff_count]; intro z; simp only [List.count_append, List.count_cons]; omega)⟩
  refine ⟨v4, V4, hrun, owb_slice hB4, ⟨_, (h4.cellK (i := 0) rfl (n + 27)).trans hpA⟩, h4.freeK (i := 0) rfl, fun a m c e => ?_⟩
  subst e
  obtain ⟨L', hL', hT'⟩ := hnew x y a m c B4 hB4
  refine ⟨L', hT', (h4.set (i := 0) rfl (n + 27) (.slice a m c)).perm ?_⟩
  rw [List.set_cons_zero]
  refine List.Perm.trans ?_ (hL'.symm.append_right K)
  classical
  rw [List.perm_iff_count]
  intro z
  simp only [List.count_append, List.count_cons]
  omega
 clear hR hR1 hR2 hR2d hperm hpA hnew hB HR HR0 HT hx hy hlt
 cases hbz : (two2 ip σ).bad with
 | some a =>
  have C2 : Calls Tryz.prog 107 #[.pointer (some ⟨g, 0, none⟩)] V0.drew (Pan w a) := C.mono (by
   rintro e V1 (⟨h1, -⟩ | ⟨a', h1, hP⟩)
   ·rw [hbz] at h1; cases h1
   ·rw [hbz] at h1; cases h1; exact hP)
  clear C STEP
  refine wp_region_held_drew (S := fun _ => True) (by kernel_rfl) trivial (fun hHeld => ?_)
  refine wpAnyH_take (i := 0) (v := ?_) rfl (by kernel_rfl) (by kernel_rfl) (by kernel_rfl) (fun _ _ _ h => h) (Or.inl ⟨by rfl, ?pay0⟩) (by assumption) ?par0
  case pay0 => intro w hSw; (try dsimp only at hSw); go_simp; all_goals with_reducible rfl
  try simp only [getElem_toArray, getElem_cons_zero, getElem_cons_succ, Act.put, setIfInBounds_toArray, set_cons_zero, set_cons_succ]
  refine wpAnyH_take (i := 1) (v := ?_) rfl (by kernel_rfl) (by kernel_rfl) (by kernel_rfl) (fun _ _ _ h => h) (Or.inl ⟨by rfl, ?pay1⟩) (by assumption) ?par1
  case pay1 => intro w hSw; (try dsimp only at hSw); go_simp; all_goals with_reducible rfl
  try simp only [getElem_toArray, getElem_cons_zero, getElem_cons_succ, Act.put, setIfInBounds_toArray, set_cons_zero, set_cons_succ]
  refine wpAnyH_take (i := 2) (v := ?_) rfl (by kernel_rfl) (by kernel_rfl) (by kernel_rfl) (fun _ _ _ h => h) (Or.inl ⟨by rfl, ?pay2⟩) (by assumption) ?par2
  case pay2 => intro w hSw; (try dsimp only at hSw); go_simp; all_goals with_reducible rfl
  try simp only [getElem_toArray, getElem_cons_zero, getElem_cons_succ, Act.put, setIfInBounds_toArray, set_cons_zero, set_cons_succ]
  refine wpAnyH_take (i := 3) (v := ?_) rfl (by kernel_rfl) (by kernel_rfl) (by kernel_rfl) (fun _ _ _ h => h) (Or.inl ⟨by rfl, ?pay3⟩) (by assumption) ?par3
  case pay3 => intro w hSw; (try dsimp only at hSw); go_simp; all_goals with_reducible rfl
  try simp only [getElem_toArray, getElem_cons_zero, getElem_cons_succ, Act.put, setIfInBounds_toArray, set_cons_zero, set_cons_succ]
  refine wpAnyH_take (i := 5) (v := ?_) rfl (by kernel_rfl) (by kernel_rfl) (by kernel_rfl) (fun _ _ _ h => h) (Or.inl ⟨by rfl, ?pay5⟩) (by assumption) ?par5
  case pay5 => intro w hSw; (try dsimp only at hSw); go_simp; all_goals with_reducible rfl
  try simp only [getElem_toArray, getElem_cons_zero, getElem_cons_succ, Act.put, setIfInBounds_toArray, set_cons_zero, set_cons_succ]
  refine wpAnyH_ready (rs := [4, 6]) (by kernel_rfl) (by simp) ?_
  refine AllReadyH.cons rfl (fun KK hK => ?_) (AllReadyH.cons rfl (fun KK hK => ?_) AllReadyH.nil)
  ·go_simp
   refine hK.out _ _ trivial (fun hHeld => ?_)
   clear hK KK
   try simp only [getElem_toArray, getElem_cons_zero, getElem_cons_succ, Act.put, setIfInBounds_toArray, set_cons_zero, set_cons_succ]
   refine wpAnyH_ready (rs := [6]) (by kernel_rfl) (by simp) ?_
   refine AllReadyH.cons rfl (fun KK hK => ?_) AllReadyH.nil
   go_simp
   with_reducible refine C2.mono ?_
   rintro e V1 ⟨g', rfl, hM⟩
   exact ⟨rfl, Or.inr ⟨_, hbz, g', rfl, hM⟩⟩
  ·go_simp
   with_reducible refine C2.mono ?_
   rintro e V1 ⟨g', rfl, hM⟩
   exact ⟨rfl, Or.inr ⟨_, hbz, g', rfl, hM⟩⟩
 | none =>
  have C2 : Calls Tryz.prog 107 #[.pointer (some ⟨g, 0, none⟩)] V0.drew fun e V' => e = .returned (.agg #[.int .u32 x, .int .u32 y]) ∧ LnS w V' g lp lt (two2 ip σ) W ((gt, .cells A T (0, 0)) :: (B ++ (R ++ K))) := C.mono (by
   rintro e V1 (⟨h1, hP⟩ | ⟨a', h1, hP⟩)
   ·exact hP
   ·rw [hbz] at h1; cases h1)
  have HB : Hid ((two2 ip σ).bad = none) := hbz
  clear C hbz
  refine wp_region_held_drew (S := fun _ => True) (by kernel_rfl) trivial (fun hHeld => ?_)
  refine wpAnyH_take (i := 0) (v := ?_) rfl (by kernel_rfl) (by kernel_rfl) (by kernel_rfl) (fun _ _ _ h => h) (Or.inl ⟨by rfl, ?qay0⟩) (by assumption) ?qar0
  case qay0 => intro w hSw; (try dsimp only at hSw); go_simp; all_goals with_reducible rfl
  try simp only [getElem_toArray, getElem_cons_zero, getElem_cons_succ, Act.put, setIfInBounds_toArray, set_cons_zero, set_cons_succ]
  refine wpAnyH_take (i := 1) (v := ?_) rfl (by kernel_rfl) (by kernel_rfl) (by kernel_rfl) (fun _ _ _ h => h) (Or.inl ⟨by rfl, ?qay1⟩) (by assumption) ?qar1
  case qay1 => intro w hSw; (try dsimp only at hSw); go_simp; all_goals with_reducible rfl
  try simp only [getElem_toArray, getElem_cons_zero, getElem_cons_succ, Act.put, setIfInBounds_toArray, set_cons_zero, set_cons_succ]
  refine wpAnyH_take (i := 2) (v := ?_) rfl (by kernel_rfl) (by kernel_rfl) (by kernel_rfl) (fun _ _ _ h => h) (Or.inl ⟨by rfl, ?qay2⟩) (by assumption) ?qar2
  case qay2 => intro w hSw; (try dsimp only at hSw); go_simp; all_goals with_reducible rfl
  try simp only [getElem_toArray, getElem_cons_zero, getElem_cons_succ, Act.put, setIfInBounds_toArray, set_cons_zero, set_cons_succ]
  refine wpAnyH_take (i := 3) (v := ?_) rfl (by kernel_rfl) (by kernel_rfl) (by kernel_rfl) (fun _ _ _ h => h) (Or.inl ⟨by rfl, ?qay3⟩) (by assumption) ?qar3
  case qay3 => intro w hSw; (try dsimp only at hSw); go_simp; all_goals with_reducible rfl
  try simp only [getElem_toArray, getElem_cons_zero, getElem_cons_succ, Act.put, setIfInBounds_toArray, set_cons_zero, set_cons_succ]
  refine wpAnyH_take (i := 5) (v := ?_) rfl (by kernel_rfl) (by kernel_rfl) (by kernel_rfl) (fun _ _ _ h => h) (Or.inl ⟨by rfl, ?qay5⟩) (by assumption) ?qar5
  case qay5 => intro w hSw; (try dsimp only at hSw); go_simp; all_goals with_reducible rfl
  try simp only [getElem_toArray, getElem_cons_zero, getElem_cons_succ, Act.put, setIfInBounds_toArray, set_cons_zero, set_cons_succ]
  refine wpAnyH_ready (rs := [4, 6]) (by kernel_rfl) (by simp) ?_
  refine AllReadyH.cons rfl (fun KK hK => ?_) (AllReadyH.cons rfl (fun KK hK => ?_) AllReadyH.nil)
  ·go_simp
   refine hK.out _ _ trivial (fun hHeld => ?_)
   clear hK KK
   try simp only [getElem_toArray, getElem_cons_zero, getElem_cons_succ, Act.put, setIfInBounds_toArray, set_cons_zero, set_cons_succ]
   refine wpAnyH_ready (rs := [6]) (by kernel_rfl) (by simp) ?_
   refine AllReadyH.cons rfl (fun KK hK => ?_) AllReadyH.nil
   go_simp
   with_reducible refine C2.mono ?_
   rintro e V1 ⟨rfl, hP⟩
   try go_wp2_with fail
   have p1 := HG.out _ _ hP
   have p2 := HG.out _ _ (hP.after ((Below.refl V1.heap.size V1).alloc (Nat.le_refl _) (.cells #[.int .u32 x, .int .u32 y] 96)))
   obtain ⟨v4, V4, hrun, ⟨qa, qm, qc, rfl⟩, ⟨v0, cv0⟩, fr4, hH⟩ := STEP.out _ hP
   obtain ⟨L', hT', hN'⟩ := hH qa qm qc rfl
   have HH : Hid (TAt gt pre post T { t with stat := t.stat ++ [(x, y)] } L' ∧ LnS w (V4.setCell ⟨gt, n + 27, none⟩ (.slice qa qm qc)) g lp lt (two2 ip σ) W (L' ++ K)) := ⟨hT', hN'⟩
   clear hP hH hT' hN'
   refine hK.out _ _ trivial (fun hHeld => ?_)
   clear hK KK
   try simp only [getElem_toArray, getElem_cons_zero, getElem_cons_succ, Act.put, setIfInBounds_toArray, set_cons_zero, set_cons_succ]
   refine wpAnyH_ready (rs := [7]) (by kernel_rfl) (by simp) ?_
   refine AllReadyH.cons rfl (fun KK hK => ?_) AllReadyH.nil
   go_simp
   refine hK.out _ _ trivial (fun hHeld => ?_)
   clear hK KK
   try simp only [getElem_toArray, getElem_cons_zero, getElem_cons_succ, Act.put, setIfInBounds_toArray, set_cons_zero, set_cons_succ]
   refine wpAnyH_ready (rs := [8]) (by kernel_rfl) (by simp) ?_
   refine AllReadyH.cons rfl (fun KK hK => ?_) AllReadyH.nil
   refine step_append_run rfl (.tmp 59) (.tmp 62) 43 43 rfl (by simp [Act.eval]) (by simp [Act.eval]) hrun ?_
   refine hK.out _ _ trivial (fun hHeld => ?_)
   clear hK KK
   try simp only [getElem_toArray, getElem_cons_zero, getElem_cons_succ, Act.put, setIfInBounds_toArray, set_cons_zero, set_cons_succ]
   refine wpAnyH_take (i := 9) (v := ?_) rfl (by kernel_rfl) (by kernel_rfl) (by kernel_rfl) (fun _ _ _ h => h) (Or.inl ⟨by rfl, ?qbzy9⟩) (by assumption) ?qbzr9
   case qbzy9 => intro w hSw; (try dsimp only at hSw); go_simp; all_goals with_reducible rfl
   try simp only [getElem_toArray, getElem_cons_zero, getElem_cons_succ, Act.put, setIfInBounds_toArray, set_cons_zero, set_cons_succ]
   refine wpAnyH_take (i := 10) (v := ?_) rfl (by kernel_rfl) (by kernel_rfl) (by kernel_rfl) (fun _ _ _ h => h) (Or.inl ⟨by rfl, ?qbzy10⟩) (by assumption) ?qbzr10
   case qbzy10 => intro w hSw; (try dsimp only at hSw); go_simp; all_goals with_reducible rfl
   try simp only [getElem_toArray, getElem_cons_zero, getElem_cons_succ, Act.put, setIfInBounds_toArray, set_cons_zero, set_cons_succ]
   refine wpAnyH_ready (rs := [11]) (by kernel_rfl) (by simp) ?_
   refine AllReadyH.cons rfl (fun KK hK => ?_) AllReadyH.nil
   go_simp
   refine hK.out _ _ trivial (fun hHeld => ?_)
   clear hK KK
   try simp only [getElem_toArray, getElem_cons_zero, getElem_cons_succ, Act.put, setIfInBounds_toArray, set_cons_zero, set_cons_succ]
   refine wpAnyH_done (by kernel_rfl) ?_ _
   go_wp2_with fail
   go_end0
   exact Or.inl ⟨HB.out, rfl, L', by rw [HE.out.1, HE.out.2]; exact HH.out.1, HH.out.2⟩
  ·go_simp
   with_reducible refine C2.mono ?_
   rintro e V1 ⟨rfl, hP⟩
   try go_wp2_with fail
   have p1 := HG.out _ _ hP
   have p2 := HG.out _ _ (hP.after ((Below.refl V1.heap.size V1).alloc (Nat.le_refl _) (.cells #[.int .u32 x, .int .u32 y] 96)))
   obtain ⟨v4, V4, hrun, ⟨qa, qm, qc, rfl⟩, ⟨v0, cv0⟩, fr4, hH⟩ := STEP.out _ hP
   obtain ⟨L', hT', hN'⟩ := hH qa qm qc rfl
   have HH : Hid (TAt gt pre post T { t with stat := t.stat ++ [(x, y)] } L' ∧ LnS w (V4.setCell ⟨gt, n + 27, none⟩ (.slice qa qm qc)) g lp lt (two2 ip σ) W (L' ++ K)) := ⟨hT', hN'⟩
   clear hP hH hT' hN'
   refine hK.out _ _ trivial (fun hHeld => ?_)
   clear hK KK
   try simp only [getElem_toArray, getElem_cons_zero, getElem_cons_succ, Act.put, setIfInBounds_toArray, set_cons_zero, set_cons_succ]
   refine wpAnyH_ready (rs := [4, 7]) (by kernel_rfl) (by simp) ?_
   refine AllReadyH.cons rfl (fun KK hK => ?_) (AllReadyH.cons rfl (fun KK hK => ?_) AllReadyH.nil)
   ·go_simp
    refine hK.out _ _ trivial (fun hHeld => ?_)
    clear hK KK
    try simp only [getElem_toArray, getElem_cons_zero, getElem_cons_succ, Act.put, setIfInBounds_toArray, set_cons_zero, set_cons_succ]
    refine wpAnyH_ready (rs := [7]) (by kernel_rfl) (by simp) ?_
    refine AllReadyH.cons rfl (fun KK hK => ?_) AllReadyH.nil
    go_simp
    refine hK.out _ _ trivial (fun hHeld => ?_)
    clear hK KK
    try simp only [getElem_toArray, getElem_cons_zero, getElem_cons_succ, Act.put, setIfInBounds_toArray, set_cons_zero, set_cons_succ]
    refine wpAnyH_ready (rs := [8]) (by kernel_rfl) (by simp) ?_
    refine AllReadyH.cons rfl (fun KK hK => ?_) AllReadyH.nil
    refine step_append_run rfl (.tmp 59) (.tmp 62) 43 43 rfl (by simp [Act.eval]) (by simp [Act.eval]) hrun ?_
    refine hK.out _ _ trivial (fun hHeld => ?_)
    clear hK KK
    try simp only [getElem_toArray, getElem_cons_zero, getElem_cons_succ, Act.put, setIfInBounds_toArray, set_cons_zero, set_cons_succ]
    refine wpAnyH_take (i := 9) (v := ?_) rfl (by kernel_rfl) (by kernel_rfl) (by kernel_rfl) (fun _ _ _ h => h) (Or.inl ⟨by rfl, ?qczy9⟩) (by assumption) ?qczr9
    case qczy9 => intro w hSw; (try dsimp only at hSw); go_simp; all_goals with_reducible rfl
    try simp only [getElem_toArray, getElem_cons_zero, getElem_cons_succ, Act.put, setIfInBounds_toArray, set_cons_zero, set_cons_succ]
    refine wpAnyH_take (i := 10) (v := ?_) rfl (by kernel_rfl) (by kernel_rfl) (by kernel_rfl) (fun _ _ _ h => h) (Or.inl ⟨by rfl, ?qczy10⟩) (by assumption) ?qczr10
    case qczy10 => intro w hSw; (try dsimp only at hSw); go_simp; all_goals with_reducible rfl
    try simp only [getElem_toArray, getElem_cons_zero, getElem_cons_succ, Act.put, setIfInBounds_toArray, set_cons_zero, set_cons_succ]
    refine wpAnyH_ready (rs := [11]) (by kernel_rfl) (by simp) ?_
    refine AllReadyH.cons rfl (fun KK hK => ?_) AllReadyH.nil
    go_simp
    refine hK.out _ _ trivial (fun hHeld => ?_)
    clear hK KK
    try simp only [getElem_toArray, getElem_cons_zero, getElem_cons_succ, Act.put, setIfInBounds_toArray, set_cons_zero, set_cons_succ]
    refine wpAnyH_done (by kernel_rfl) ?_ _
    go_wp2_with fail
    go_end0
    exact Or.inl ⟨HB.out, rfl, L', by rw [HE.out.1, HE.out.2]; exact HH.out.1, HH.out.2⟩
   ·go_simp
    refine hK.out _ _ trivial (fun hHeld => ?_)
    clear hK KK
    try simp only [getElem_toArray, getElem_cons_zero, getElem_cons_succ, Act.put, setIfInBounds_toArray, set_cons_zero, set_cons_succ]
    refine wpAnyH_ready (rs := [4]) (by kernel_rfl) (by simp) ?_
    refine AllReadyH.cons rfl (fun KK hK => ?_) AllReadyH.nil
    go_simp
    refine hK.out _ _ trivial (fun hHeld => ?_)
    clear hK KK
    try simp only [getElem_toArray, getElem_cons_zero, getElem_cons_succ, Act.put, setIfInBounds_toArray, set_cons_zero, set_cons_succ]
    refine wpAnyH_ready (rs := [8]) (by kernel_rfl) (by simp) ?_
    refine AllReadyH.cons rfl (fun KK hK => ?_) AllReadyH.nil
    refine step_append_run rfl (.tmp 59) (.tmp 62) 43 43 rfl (by simp [Act.eval]) (by simp [Act.eval]) hrun ?_
    refine hK.out _ _ trivial (fun hHeld => ?_)
    clear hK KK
    try simp only [getElem_toArray, getElem_cons_zero, getElem_cons_succ, Act.put, setIfInBounds_toArray, set_cons_zero, set_cons_succ]
    refine wpAnyH_take (i := 9) (v := ?_) rfl (by kernel_rfl) (by kernel_rfl) (by kernel_rfl) (fun _ _ _ h => h) (Or.inl ⟨by rfl, ?qdzy9⟩) (by assumption) ?qdzr9
    case qdzy9 => intro w hSw; (try dsimp only at hSw); go_simp; all_goals with_reducible rfl
    try simp only [getElem_toArray, getElem_cons_zero, getElem_cons_succ, Act.put, setIfInBounds_toArray, set_cons_zero, set_cons_succ]
    refine wpAnyH_take (i := 10) (v := ?_) rfl (by kernel_rfl) (by kernel_rfl) (by kernel_rfl) (fun _ _ _ h => h) (Or.inl ⟨by rfl, ?qdzy10⟩) (by assumption) ?qdzr10
    case qdzy10 => intro w hSw; (try dsimp only at hSw); go_simp; all_goals with_reducible rfl
    try simp only [getElem_toArray, getElem_cons_zero, getElem_cons_succ, Act.put, setIfInBounds_toArray, set_cons_zero, set_cons_succ]
    refine wpAnyH_ready (rs := [11]) (by kernel_rfl) (by simp) ?_
    refine AllReadyH.cons rfl (fun KK hK => ?_) AllReadyH.nil
    go_simp
    refine hK.out _ _ trivial (fun hHeld => ?_)
    clear hK KK
    try simp only [getElem_toArray, getElem_cons_zero, getElem_cons_succ, Act.put, setIfInBounds_toArray, set_cons_zero, set_cons_succ]
    refine wpAnyH_done (by kernel_rfl) ?_ _
    go_wp2_with fail
    go_end0
    exact Or.inl ⟨HB.out, rfl, L', by rw [HE.out.1, HE.out.2]; exact HH.out.1, HH.out.2⟩
end Go.Proofs.YtneciccdiledfaaGreatDoor
namespace Go.Proofs.YtneciccdiledfaaGreatDoor
open Go.RowKit
open List (getElem_toArray getElem_cons_zero getElem_cons_succ setIfInBounds_toArray set_cons_zero set_cons_succ)
open La
def curI : Option Nat → Int
 | none => -1
 | some b => (b : Int)
abbrev Lz := Value × List Wd × Nat
def lcs (z : Lz) : List Value := [z.1, .int .i64 z.2.2]
def wcs (x : Wd) : List Value := [.string x.1, .int .i64 x.2]
def ctc (s : ByteArray) (vl vw : Value) (cur : Option Nat) (m : Bool) : Array Value := #[.string s, vl, vw, .int .i64 (curI cur), .bool m]
def CtS (w V : World) (g : Nat) (s : ByteArray) (ls : List (List Wd × Nat)) (ws : List Wd) (cur : Option Nat) (m : Bool) (K : List (Nat × Obj)) : Prop :=
 ∃ (zs : List Lz) (vl vw : Value) (Bl Bw C : List (Nat × Obj)), zs.map Prod.snd = ls ∧ OwB 105 2 vl zs.length (zs.map lcs).flatten Bl ∧ OwB 149 2 vw ws.length (ws.map wcs).flatten Bw ∧ (∀ z ∈ zs, WIn C z.1 z.2.1) ∧
  Mem w V ((g, .cells (ctc s vl vw cur m) 138) :: (Bl ++ (Bw ++ (C ++ K))))
theorem infoW : (Tryz.prog.info? 149).map (fun i => (i.zero, i.size, i.bytes)) = some (some (.agg #[.string ⟨#[]⟩, .int .i64 0]), 2, 24) := by kernel_rfl
theorem infoL : (Tryz.prog.info? 105).map (fun i => (i.zero, i.size, i.bytes)) = some (some (.agg #[.slice none 0 0, .int .i64 0]), 2, 32) := by kernel_rfl
theorem CtS.after {w V V' : World} {g : Nat} {s : ByteArray} {ls : List (List Wd × Nat)} {ws : List Wd} {cur : Option Nat} {m : Bool} {K : List (Nat × Obj)} (h : CtS w V g s ls ws cur m K) (hb : Below V.heap.size V V') : CtS w V' g s ls ws cur m K := by
 obtain ⟨zs, vl, vw, Bl, Bw, C, h1, h2, h3, h4, h5⟩ := h
 exact ⟨zs, vl, vw, Bl, Bw, C, h1, h2, h3, h4, h5.after hb⟩
theorem owb_win {v : Value} {ws : List Wd} {B : List (Nat × Obj)} (h : OwB 149 2 v ws.length (ws.map wcs).flatten B) : WIn B v ws := by
 have hflat : ∀ (l : List Wd) (Y : List Value) (i : Nat) (x : Wd), l[i]? = some x → ((l.map wcs).flatten ++ Y)[2 * i]? = some (.string x.1) ∧ ((l.map wcs).flatten ++ Y)[2 * i + 1]? = some (.int .i64 x.2) := by
  intro l
  induction l with
  | nil => intro Y i x h; simp at h
  | cons y l ih =>
   intro Y i x h
   cases i with
   | zero => simp at h; subst h; simp [wcs]
   | succ i =>
    have := ih Y i x (by simpa using h)
    rw [List.map_cons, List.flatten_cons]
    simp only [wcs, List.cons_append, List.nil_append]
    rw [show 2 * (i + 1) = 2 * i + 1 + 1 by omega]
    simpa using this
 obtain ⟨h1, hh⟩ := h
 rcases hh with ⟨rfl, e, rfl⟩ | ⟨g, cap, cur, rfl, rfl, h2, h3, h4, h5⟩
 ·have : ws = [] := List.eq_nil_of_length_eq_zero e
  subst this
  exact ⟨none, 0, rfl, Nat.le_refl _, by omega, Or.inl rfl⟩
 ·refine ⟨some ⟨g, 0, none⟩, cap, rfl, h2, by unfold maxLen at h3; omega, Or.inr ⟨g, 0, cur, _, rfl, List.mem_singleton.2 rfl, fun i x hx => ?_⟩⟩
  have e : (ws.map wcs).flatten ++ cur.toList.drop (ws.length * 2) = cur.toList := by
   conv => lhs; lhs; rw [← h5]
   exact List.take_append_drop _ _
  have := hflat ws (cur.toList.drop (ws.length * 2)) i x hx
  rw [e] at this
  simp only [Array.getElem?_toList] at this
  rw [Nat.zero_add]
  exact this
set_option maxHeartbeats 8000000 in
theorem endWord_any {w V : World} {g : Nat} {s : ByteArray} {ls : List (List Wd × Nat)} {ws : List Wd} {cur : Option Nat} {m : Bool} {K : List (Nat × Obj)} (h : CtS w V g s ls ws cur m K) (p : Nat) (hs : s.size ≤ 32768) (hp : p ≤ s.size) (hc : ∀ b, cur = some b → b ≤ p) (hn : ws.length ≤ 900000) :
  Calls Tryz.prog 98 #[.pointer (some ⟨g, 0, none⟩), .int .i64 (p : Int)] V fun e V' => e = .returned (.tuple #[]) ∧ CtS w V' g s ls (ended s ws cur p) none m K := by
 obtain ⟨zs, vl, vw, Bl, Bw, C, h1, h2, h3, h4, hM⟩ := h
 have d3 : V.cell? ⟨g, 3, none⟩ = some (.int .i64 (curI cur)) := hM.cell 0 rfl 3
 cases cur with
 | none =>
  have HC : Hid (CtS w V g s ls (ended s ws none p) none m K) := ⟨zs, vl, vw, Bl, Bw, C, h1, h2, h3, h4, hM⟩
  simp only [curI] at d3
  clear hM h1 h2 h3 h4 hc
  go_enter Tryz.func98, Tryz.ntmps98
  go_wp2_with fail
  exact bodyPost_ret (v := .tuple #[]) (by simp [results, Tryz.results98, go_sem]) rfl ⟨rfl, HC.out⟩
 | some b =>
  have hbp := hc b rfl
  have hrun : ∀ W, (Instr.slice 9 (.string s) (some (.int .i64 (b : Int))) (some (.int .i64 (p : Int))) none).run Tryz.prog W = .ok (.string (s.extract b p)) W := by
   intro W
   rw [run_slice_string W 9 s .i64 .i64 _ _ Tryz.underlying9 (by omega) (by omega) (by omega)]
   rfl
  obtain ⟨x, hx⟩ : ∃ x, s.extract b p = x := ⟨_, rfl⟩
  rw [hx] at hrun
  obtain ⟨va, vn, vc, rfl⟩ := owb_slice h3
  have hbz : ((b : Int) == -1) = false := by rw [beq_eq_false_iff_ne]; omega
  have hMa : Mem w ((V.alloc (.cells #[.string x, .int .i64 b] 149)).drew) ((g, .cells (ctc s vl (.slice va vn vc) (some b) m) 138) :: (Bl ++ (Bw ++ (C ++ K)))) := (hM.after ((Below.refl _ _).alloc (Nat.le_refl _) _)).drew
  obtain ⟨v4, V4, B4, hap, hM4, hB4⟩ := mem_append (t := 103) (ty := 103) (K := (g, .cells (ctc s vl (.slice va vn vc) (some b) m) 138) :: (Bl ++ (C ++ K))) Tryz.underlying103 infoW rfl (by decide) (hMa.perm (by classical rw [List.perm_iff_count]; intro z; simp only [List.count_append, List.count_cons]; omega)) h3 ⟨V.heap.size, 0, none⟩ [.string x, .int .i64 b] rfl (fun j u hj => by
    rw [addr_mid, Nat.zero_add, World.cell?_drew, World.cell?_alloc_new]
    simpa using hj) (by simp; exact ⟨rfl, rfl⟩) (by omega) (by omega)
  obtain ⟨qa, qn, qc, rfl⟩ := owb_slice hB4
  have hM5 := hM4.perm (L' := (g, .cells (ctc s vl (.slice va vn vc) (some b) m) 138) :: (Bl ++ (B4 ++ (C ++ K)))) (by classical rw [List.perm_iff_count]; intro z; simp only [List.count_append, List.count_cons]; omega)
  have hM6 := hM5.set 0 rfl 2 (.slice qa qn qc)
  have hM7 := hM6.set 0 rfl 3 (.int .i64 (-1))
  have HC : Hid (CtS w ((V4.setCell ⟨g, 2, none⟩ (.slice qa qn qc)).setCell ⟨g, 3, none⟩ (.int .i64 (-1))) g s ls (ended s ws (some b) p) none m K) := ⟨zs, vl, .slice qa qn qc, Bl, B4, C, h1, h2, by rw [ended, hx, List.length_append, List.map_append, List.flatten_append]; exact hB4, h4, hM7⟩
  have e0 : V.cell? ⟨g, 0, none⟩ = some (.string s) := hM.cell 0 rfl 0
  have e2 : V.cell? ⟨g, 2, none⟩ = some (.slice va vn vc) := hM.cell 0 rfl 2
  have e3 : V.cell? ⟨g, 3, none⟩ = some (.int .i64 b) := hM.cell 0 rfl 3
  have a0 : (V.alloc (.cells #[.string x, .int .i64 b] 149)).cell? ⟨g, 0, none⟩ = some (.string s) := hMa.cell 0 rfl 0
  have a2 : (V.alloc (.cells #[.string x, .int .i64 b] 149)).cell? ⟨g, 2, none⟩ = some (.slice va vn vc) := hMa.cell 0 rfl 2
  have a3 : (V.alloc (.cells #[.string x, .int .i64 b] 149)).cell? ⟨g, 3, none⟩ = some (.int .i64 b) := hMa.cell 0 rfl 3
  have k0 : V4.cell? ⟨g, 0, none⟩ = some (.string s) := hM5.cell 0 rfl 0
  have k2 : V4.cell? ⟨g, 2, none⟩ = some (.slice va vn vc) := hM5.cell 0 rfl 2
  have k3 : V4.cell? ⟨g, 3, none⟩ = some (.int .i64 b) := hM5.cell 0 rfl 3
  have kf := hM5.free 0 rfl
  have m0 : (V4.setCell ⟨g, 2, none⟩ (.slice qa qn qc)).cell? ⟨g, 0, none⟩ = some (.string s) := hM6.cell 0 rfl 0
  have m3 : (V4.setCell ⟨g, 2, none⟩ (.slice qa qn qc)).cell? ⟨g, 3, none⟩ = some (.int .i64 b) := hM6.cell 0 rfl 3
  have mf := hM6.free 0 rfl
  clear hM hM4 hM5 hM6 hM7 hMa h1 h2 h3 h4 hB4 hc hx
  go_enter Tryz.func98, Tryz.ntmps98
  go_upto_region 1 with fail
  refine wp_region_held_drew (S := fun X => X.cell? ⟨g, 0, none⟩ = some (.string s) ∧ X.cell? ⟨g, 3, none⟩ = some (.int .i64 (b : Int))) (by kernel_rfl) (⟨e0, e3⟩) (fun hHeld => ?_)
  refine wpAnyH_take (i := 0) (v := ?_) rfl (by kernel_rfl) (by kernel_rfl) (by kernel_rfl) (fun _ _ _ h => h) (Or.inl ⟨by rfl, ?qay0⟩) (by assumption) ?qar0
  case qay0 => intro w hSw; (try dsimp only at hSw); go_simp; all_goals with_reducible rfl
  try simp only [getElem_toArray, getElem_cons_zero, getElem_cons_succ, Act.put, setIfInBounds_toArray, set_cons_zero, set_cons_succ]
  refine wpAnyH_take (i := 1) (v := ?_) rfl (by kernel_rfl) (by kernel_rfl) (by kernel_rfl) (fun _ _ _ h => h) (Or.inl ⟨by rfl, ?qay1⟩) (by assumption) ?qar1
  case qay1 => intro w hSw; (try dsimp only at hSw); go_simp; all_goals with_reducible rfl
  try simp only [getElem_toArray, getElem_cons_zero, getElem_cons_succ, Act.put, setIfInBounds_toArray, set_cons_zero, set_cons_succ]
  refine wpAnyH_take (i := 2) (v := ?_) rfl (by kernel_rfl) (by kernel_rfl) (by kernel_rfl) (fun _ _ _ h => h) (Or.inl ⟨by rfl, ?qay2⟩) (by assumption) ?qar2
  case qay2 => intro w hSw; (try dsimp only at hSw); go_simp; all_goals with_reducible rfl
  try simp only [getElem_toArray, getElem_cons_zero, getElem_cons_succ, Act.put, setIfInBounds_toArray, set_cons_zero, set_cons_succ]
  refine wpAnyH_take (i := 3) (v := ?_) rfl (by kernel_rfl) (by kernel_rfl) (by kernel_rfl) (fun _ _ _ h => h) (Or.inl ⟨by rfl, ?qay3⟩) (by assumption) ?qar3
  case qay3 => intro w hSw; (try dsimp only at hSw); go_simp; all_goals with_reducible rfl
  try simp only [getElem_toArray, getElem_cons_zero, getElem_cons_succ, Act.put, setIfInBounds_toArray, set_cons_zero, set_cons_succ]
  refine wpAnyH_take (i := 5) (v := ?_) rfl (by kernel_rfl) (by kernel_rfl) (by kernel_rfl) (fun _ _ _ h => h) (Or.inl ⟨by rfl, ?qay5⟩) (by assumption) ?qar5
  case qay5 => intro w hSw; (try dsimp only at hSw); go_simp; all_goals with_reducible rfl
  try simp only [getElem_toArray, getElem_cons_zero, getElem_cons_succ, Act.put, setIfInBounds_toArray, set_cons_zero, set_cons_succ]
  refine wpAnyH_take (i := 6) (v := ?_) rfl (by kernel_rfl) (by kernel_rfl) (by kernel_rfl) (fun _ _ _ h => h) (Or.inl ⟨by rfl, ?qay6⟩) (by assumption) ?qar6
  case qay6 => intro w hSw; (try dsimp only at hSw); go_simp; all_goals with_reducible rfl
  try simp only [getElem_toArray, getElem_cons_zero, getElem_cons_succ, Act.put, setIfInBounds_toArray, set_cons_zero, set_cons_succ]
  refine wpAnyH_take (i := 7) (v := ?_) rfl (by kernel_rfl) (by kernel_rfl) (by kernel_rfl) (fun _ _ _ h => h) (Or.inl ⟨by rfl, ?qay7⟩) (by assumption) ?qar7
  case qay7 => intro w hSw; (try dsimp only at hSw); go_simp; all_goals with_reducible rfl
  try simp only [getElem_toArray, getElem_cons_zero, getElem_cons_succ, Act.put, setIfInBounds_toArray, set_cons_zero, set_cons_succ]
  refine wpAnyH_take (i := 8) (v := ?_) rfl (by kernel_rfl) (by kernel_rfl) (by kernel_rfl) (fun _ _ _ h => h) (Or.inl ⟨by rfl, ?qay8⟩) (by assumption) ?qar8
  case qay8 => intro w hSw; (try dsimp only at hSw); go_simp; all_goals with_reducible rfl
  try simp only [getElem_toArray, getElem_cons_zero, getElem_cons_succ, Act.put, setIfInBounds_toArray, set_cons_zero, set_cons_succ]
  refine wpAnyH_take (i := 9) (v := ?_) rfl (by kernel_rfl) (by kernel_rfl) (by kernel_rfl) (fun _ _ _ h => h) (Or.inl ⟨by rfl, ?qay9⟩) (by assumption) ?qar9
  case qay9 => intro w hSw; (try dsimp only at hSw); go_simp; all_goals with_reducible rfl
  try simp only [getElem_toArray, getElem_cons_zero, getElem_cons_succ, Act.put, setIfInBounds_toArray, set_cons_zero, set_cons_succ]
  refine wpAnyH_take (i := 10) (v := ?_) rfl (by kernel_rfl) (by kernel_rfl) (by kernel_rfl) (fun _ _ _ h => h) (Or.inl ⟨by rfl, ?qay10⟩) (by assumption) ?qar10
  case qay10 => intro w hSw; (try dsimp only at hSw); go_simp; all_goals with_reducible rfl
  try simp only [getElem_toArray, getElem_cons_zero, getElem_cons_succ, Act.put, setIfInBounds_toArray, set_cons_zero, set_cons_succ]
  refine wpAnyH_take (i := 11) (v := ?_) rfl (by kernel_rfl) (by kernel_rfl) (by kernel_rfl) (fun _ _ _ h => h) (Or.inl ⟨by rfl, ?qay11⟩) (by assumption) ?qar11
  case qay11 => intro w hSw; (try dsimp only at hSw); go_simp; all_goals with_reducible rfl
  try simp only [getElem_toArray, getElem_cons_zero, getElem_cons_succ, Act.put, setIfInBounds_toArray, set_cons_zero, set_cons_succ]
  refine wpAnyH_take (i := 12) (v := ?_) rfl (by kernel_rfl) (by kernel_rfl) (by kernel_rfl) (fun _ _ _ h => h) (Or.inl ⟨by rfl, ?qay12⟩) (by assumption) ?qar12
  case qay12 => intro w hSw; (try dsimp only at hSw); go_simp; all_goals with_reducible rfl
  try simp only [getElem_toArray, getElem_cons_zero, getElem_cons_succ, Act.put, setIfInBounds_toArray, set_cons_zero, set_cons_succ]
  refine wpAnyH_take (i := 13) (v := ?_) rfl (by kernel_rfl) (by kernel_rfl) (by kernel_rfl) (fun _ _ _ h => h) (Or.inl ⟨by rfl, ?qay13⟩) (by assumption) ?qar13
  case qay13 => intro w hSw; (try dsimp only at hSw); go_simp; all_goals with_reducible rfl
  try simp only [getElem_toArray, getElem_cons_zero, getElem_cons_succ, Act.put, setIfInBounds_toArray, set_cons_zero, set_cons_succ]
  refine wpAnyH_take (i := 14) (v := ?_) rfl (by kernel_rfl) (by kernel_rfl) (by kernel_rfl) (fun _ _ _ h => h) (Or.inl ⟨by rfl, ?qay14⟩) (by assumption) ?qar14
  case qay14 => intro w hSw; (try dsimp only at hSw); go_simp; all_goals with_reducible rfl
  try simp only [getElem_toArray, getElem_cons_zero, getElem_cons_succ, Act.put, setIfInBounds_toArray, set_cons_zero, set_cons_succ]
  refine wpAnyH_take (i := 15) (v := ?_) rfl (by kernel_rfl) (by kernel_rfl) (by kernel_rfl) (fun _ _ _ h => h) (Or.inl ⟨by rfl, ?qay15⟩) (by assumption) ?qar15
  case qay15 => intro w hSw; (try dsimp only at hSw); go_simp; all_goals with_reducible rfl
  try simp only [getElem_toArray, getElem_cons_zero, getElem_cons_succ, Act.put, setIfInBounds_toArray, set_cons_zero, set_cons_succ]
  refine wpAnyH_take (i := 16) (v := ?_) rfl (by kernel_rfl) (by kernel_rfl) (by kernel_rfl) (fun _ _ _ h => h) (Or.inl ⟨by rfl, ?qay16⟩) (by assumption) ?qar16
  case qay16 => intro w hSw; (try dsimp only at hSw); go_simp; all_goals with_reducible rfl
  try simp only [getElem_toArray, getElem_cons_zero, getElem_cons_succ, Act.put, setIfInBounds_toArray, set_cons_zero, set_cons_succ]
  refine wpAnyH_take (i := 17) (v := ?_) rfl (by kernel_rfl) (by kernel_rfl) (by kernel_rfl) (fun _ _ _ h => h) (Or.inl ⟨by rfl, ?qay17⟩) (by assumption) ?qar17
  case qay17 => intro w hSw; (try dsimp only at hSw); go_simp; all_goals with_reducible rfl
  try simp only [getElem_toArray, getElem_cons_zero, getElem_cons_succ, Act.put, setIfInBounds_toArray, set_cons_zero, set_cons_succ]
  refine wpAnyH_take (i := 18) (v := ?_) rfl (by kernel_rfl) (by kernel_rfl) (by kernel_rfl) (fun _ _ _ h => h) (Or.inl ⟨by rfl, ?qay18⟩) (by assumption) ?qar18
  case qay18 => intro w hSw; (try dsimp only at hSw); go_simp; all_goals with_reducible rfl
  try simp only [getElem_toArray, getElem_cons_zero, getElem_cons_succ, Act.put, setIfInBounds_toArray, set_cons_zero, set_cons_succ]
  refine wpAnyH_take (i := 19) (v := ?_) rfl (by kernel_rfl) (by kernel_rfl) (by kernel_rfl) (fun _ _ _ h => h) (Or.inl ⟨by rfl, ?qay19⟩) (by assumption) ?qar19
  case qay19 => intro w hSw; (try dsimp only at hSw); go_simp; all_goals with_reducible rfl
  try simp only [getElem_toArray, getElem_cons_zero, getElem_cons_succ, Act.put, setIfInBounds_toArray, set_cons_zero, set_cons_succ]
  refine wpAnyH_ready (rs := [4, 20]) (by kernel_rfl) (by simp) ?_
  refine AllReadyH.cons rfl (fun KK hK => ?_) (AllReadyH.cons rfl (fun KK hK => ?_) AllReadyH.nil)
  ·go_simp
   refine hK.out _ _ (by first | exact ⟨e0, e3⟩ | exact ⟨a0, a3⟩ | exact ⟨k0, k3⟩ | exact ⟨m0, m3⟩) (fun hHeld => ?_)
   clear hK KK
   try simp only [getElem_toArray, getElem_cons_zero, getElem_cons_succ, Act.put, setIfInBounds_toArray, set_cons_zero, set_cons_succ]
   refine wpAnyH_ready (rs := [20]) (by kernel_rfl) (by simp) ?_
   refine AllReadyH.cons rfl (fun KK hK => ?_) AllReadyH.nil
   go_simp
   refine hK.out _ _ (by first | exact ⟨e0, e3⟩ | exact ⟨a0, a3⟩ | exact ⟨k0, k3⟩ | exact ⟨m0, m3⟩) (fun hHeld => ?_)
   clear hK KK
   try simp only [getElem_toArray, getElem_cons_zero, getElem_cons_succ, Act.put, setIfInBounds_toArray, set_cons_zero, set_cons_succ]
   refine wpAnyH_ready (rs := [21]) (by kernel_rfl) (by simp) ?_
   refine AllReadyH.cons rfl (fun KK hK => ?_) AllReadyH.nil
   refine step_append_run rfl (.tmp 13) (.tmp 29) 103 103 rfl (by simp [Act.eval]) (by simp [Act.eval]) hap ?_
   refine hK.out _ _ (by first | exact ⟨e0, e3⟩ | exact ⟨a0, a3⟩ | exact ⟨k0, k3⟩ | exact ⟨m0, m3⟩) (fun hHeld => ?_)
   clear hK KK
   try simp only [getElem_toArray, getElem_cons_zero, getElem_cons_succ, Act.put, setIfInBounds_toArray, set_cons_zero, set_cons_succ]
   refine wpAnyH_take (i := 22) (v := ?_) rfl (by kernel_rfl) (by kernel_rfl) (by kernel_rfl) (fun _ _ _ h => h) (Or.inl ⟨by rfl, ?qbzy22⟩) (by assumption) ?qbzr22
   case qbzy22 => intro w hSw; (try dsimp only at hSw); go_simp; all_goals with_reducible rfl
   try simp only [getElem_toArray, getElem_cons_zero, getElem_cons_succ, Act.put, setIfInBounds_toArray, set_cons_zero, set_cons_succ]
   refine wpAnyH_take (i := 23) (v := ?_) rfl (by kernel_rfl) (by kernel_rfl) (by kernel_rfl) (fun _ _ _ h => h) (Or.inl ⟨by rfl, ?qbzy23⟩) (by assumption) ?qbzr23
   case qbzy23 => intro w hSw; (try dsimp only at hSw); go_simp; all_goals with_reducible rfl
   try simp only [getElem_toArray, getElem_cons_zero, getElem_cons_succ, Act.put, setIfInBounds_toArray, set_cons_zero, set_cons_succ]
   refine wpAnyH_ready (rs := [24]) (by kernel_rfl) (by simp) ?_
   refine AllReadyH.cons rfl (fun KK hK => ?_) AllReadyH.nil
   go_simp
   refine hK.out _ _ (by first | exact ⟨e0, e3⟩ | exact ⟨a0, a3⟩ | exact ⟨k0, k3⟩ | exact ⟨m0, m3⟩) (fun hHeld => ?_)
   clear hK KK
   try simp only [getElem_toArray, getElem_cons_zero, getElem_cons_succ, Act.put, setIfInBounds_toArray, set_cons_zero, set_cons_succ]
   refine wpAnyH_done (by kernel_rfl) ?_ _
   go_wp2_with fail
   go_end0
   exact ⟨rfl, HC.out⟩
  ·go_simp
   refine hK.out _ _ (by first | exact ⟨e0, e3⟩ | exact ⟨a0, a3⟩ | exact ⟨k0, k3⟩ | exact ⟨m0, m3⟩) (fun hHeld => ?_)
   clear hK KK
   try simp only [getElem_toArray, getElem_cons_zero, getElem_cons_succ, Act.put, setIfInBounds_toArray, set_cons_zero, set_cons_succ]
   refine wpAnyH_ready (rs := [4]) (by kernel_rfl) (by simp) ?_
   refine AllReadyH.cons rfl (fun KK hK => ?_) AllReadyH.nil
   go_simp
   refine hK.out _ _ (by first | exact ⟨e0, e3⟩ | exact ⟨a0, a3⟩ | exact ⟨k0, k3⟩ | exact ⟨m0, m3⟩) (fun hHeld => ?_)
   clear hK KK
   try simp only [getElem_toArray, getElem_cons_zero, getElem_cons_succ, Act.put, setIfInBounds_toArray, set_cons_zero, set_cons_succ]
   refine wpAnyH_ready (rs := [21]) (by kernel_rfl) (by simp) ?_
   refine AllReadyH.cons rfl (fun KK hK => ?_) AllReadyH.nil
   refine step_append_run rfl (.tmp 13) (.tmp 29) 103 103 rfl (by simp [Act.eval]) (by simp [Act.eval]) hap ?_
   refine hK.out _ _ (by first | exact ⟨e0, e3⟩ | exact ⟨a0, a3⟩ | exact ⟨k0, k3⟩ | exact ⟨m0, m3⟩) (fun hHeld => ?_)
   clear hK KK
   try simp only [getElem_toArray, getElem_cons_zero, getElem_cons_succ, Act.put, setIfInBounds_toArray, set_cons_zero, set_cons_succ]
   refine wpAnyH_take (i := 22) (v := ?_) rfl (by kernel_rfl) (by kernel_rfl) (by kernel_rfl) (fun _ _ _ h => h) (Or.inl ⟨by rfl, ?qczy22⟩) (by assumption) ?qczr22
   case qczy22 => intro w hSw; (try dsimp only at hSw); go_simp; all_goals with_reducible rfl
   try simp only [getElem_toArray, getElem_cons_zero, getElem_cons_succ, Act.put, setIfInBounds_toArray, set_cons_zero, set_cons_succ]
   refine wpAnyH_take (i := 23) (v := ?_) rfl (by kernel_rfl) (by kernel_rfl) (by kernel_rfl) (fun _ _ _ h => h) (Or.inl ⟨by rfl, ?qczy23⟩) (by assumption) ?qczr23
   case qczy23 => intro w hSw; (try dsimp only at hSw); go_simp; all_goals with_reducible rfl
   try simp only [getElem_toArray, getElem_cons_zero, getElem_cons_succ, Act.put, setIfInBounds_toArray, set_cons_zero, set_cons_succ]
   refine wpAnyH_ready (rs := [24]) (by kernel_rfl) (by simp) ?_
   refine AllReadyH.cons rfl (fun KK hK => ?_) AllReadyH.nil
   go_simp
   refine hK.out _ _ (by first | exact ⟨e0, e3⟩ | exact ⟨a0, a3⟩ | exact ⟨k0, k3⟩ | exact ⟨m0, m3⟩) (fun hHeld => ?_)
   clear hK KK
   try simp only [getElem_toArray, getElem_cons_zero, getElem_cons_succ, Act.put, setIfInBounds_toArray, set_cons_zero, set_cons_succ]
   refine wpAnyH_done (by kernel_rfl) ?_ _
   go_wp2_with fail
   go_end0
   exact ⟨rfl, HC.out⟩
theorem lined_nil (p : Nat) : lined [] p = [] := rfl
set_option maxHeartbeats 8000000 in
theorem endLine_any {w V : World} {g : Nat} {s : ByteArray} {ls : List (List Wd × Nat)} {ws : List Wd} {cur : Option Nat} {m : Bool} {K : List (Nat × Obj)} (h : CtS w V g s ls ws cur m K) (p : Nat) (hs : s.size ≤ 32768) (hp : p ≤ s.size) (hc : ∀ b, cur = some b → b ≤ p) (hn : ws.length ≤ 900000) (hl : ls.length ≤ 900000) :
  Calls Tryz.prog 71 #[.pointer (some ⟨g, 0, none⟩), .int .i64 (p : Int)] V fun e V' => e = .returned (.tuple #[]) ∧ CtS w V' g s (ls ++ lined (ended s ws cur p) p) [] none false K := by
 have C1 := endWord_any h p hs hp hc hn
 obtain ⟨us, hus⟩ : ∃ us, ended s ws cur p = us := ⟨_, rfl⟩
 rw [hus] at C1 ⊢
 clear h hc hn hus
 go_enter Tryz.func71, Tryz.ntmps71
 go_wp2_with fail
 refine C1.mono ?_
 rintro e V1 ⟨rfl, hC⟩
 obtain ⟨zs, vl, vw, Bl, Bw, C, h1, h2, h3, h4, hM⟩ := hC
 clear C1
 have hzl : zs.length = ls.length := by rw [← h1, List.length_map]
 obtain ⟨va, vn, vc, rfl⟩ := owb_slice h3
 obtain ⟨la, ln', lc, rfl⟩ := owb_slice h2
 have hvn : vn = us.length := by
  rcases h3.2 with ⟨e, e2, -⟩ | ⟨g', cap, cur', e, -⟩
  ·cases e; exact e2.symm
  ·cases e; rfl
 have e2 : V1.cell? ⟨g, 2, none⟩ = some (.slice va vn vc) := hM.cell 0 rfl 2
 have e1 : V1.cell? ⟨g, 1, none⟩ = some (.slice la ln' lc) := hM.cell 0 rfl 1
 cases us with
 | nil =>
  subst hvn
  have hM2 : Mem w ((V1.setCell ⟨g, 2, none⟩ (.slice none 0 0)).setCell ⟨g, 4, none⟩ (.bool false)) ((g, .cells (ctc s (.slice la ln' lc) (.slice none 0 0) none false) 138) :: (Bl ++ (Bw ++ (C ++ K)))) := (hM.set 0 rfl 2 (.slice none 0 0)).set 0 rfl 4 (.bool false)
  have HC : Hid (CtS w ((V1.setCell ⟨g, 2, none⟩ (.slice none 0 0)).setCell ⟨g, 4, none⟩ (.bool false)) g s (ls ++ lined [] p) [] none false K) := by
   rw [lined_nil, List.append_nil]
   refine ⟨zs, _, .slice none 0 0, Bl, [], C, h1, h2, OwB.nil _ _, h4, ?_⟩
   have := hM2.perm (L' := Bw ++ ((g, .cells (ctc s (.slice la ln' lc) (.slice none 0 0) none false) 138) :: (Bl ++ (C ++ K)))) (by classical rw [List.perm_iff_count]; intro z; simp only [List.count_append, List.count_cons]; omega)
   exact this.dropA
  have kf := hM.free 0 rfl
  have e4 : V1.cell? ⟨g, 4, none⟩ = some (.bool m) := hM.cell 0 rfl 4
  have f4 : (V1.setCell ⟨g, 2, none⟩ (.slice none 0 0)).cell? ⟨g, 4, none⟩ = some (.bool m) := (hM.set 0 rfl 2 (.slice none 0 0)).cell 0 rfl 4
  have g4 := (hM.set 0 rfl 2 (.slice none 0 0)).free 0 rfl
  clear hM hM2 h1 h2 h3 h4
  simp only [List.length_nil] at e2
  go_wp2_with fail
  go_end0
  exact ⟨rfl, HC.out⟩
 | cons x r =>
  have hlz : (0 : Int) < vn := by rw [hvn]; simp
  have hWin : WIn Bw (.slice va vn vc) (x :: r) := owb_win h3
  have hMa : Mem w ((V1.alloc (.cells #[.slice va vn vc, .int .i64 p] 105)).drew) ((g, .cells (ctc s (.slice la ln' lc) (.slice va vn vc) none m) 138) :: (Bl ++ (Bw ++ (C ++ K)))) := (hM.after ((Below.refl _ _).alloc (Nat.le_refl _) _)).drew
  obtain ⟨v4, V4, B4, hap, hM4, hB4⟩ := mem_append (t := 101) (ty := 101) (K := (g, .cells (ctc s (.slice la ln' lc) (.slice va vn vc) none m) 138) :: (Bw ++ (C ++ K))) Tryz.underlying101 infoL rfl (by decide) (hMa.perm (by classical rw [List.perm_iff_count]; intro z; simp only [List.count_append, List.count_cons]; omega)) h2 ⟨V1.heap.size, 0, none⟩ [.slice va vn vc, .int .i64 p] rfl (fun j u hj => by
    rw [addr_mid, Nat.zero_add, World.cell?_drew, World.cell?_alloc_new]
    simpa using hj) (by simp; exact ⟨rfl, rfl⟩) (by omega) (by omega)
  obtain ⟨qa, qn, qc, rfl⟩ := owb_slice hB4
  have hM5 := hM4.perm (L' := (g, .cells (ctc s (.slice la ln' lc) (.slice va vn vc) none m) 138) :: (B4 ++ (Bw ++ (C ++ K)))) (by classical rw [List.perm_iff_count]; intro z; simp only [List.count_append, List.count_cons]; omega)
  have hM6 := hM5.set 0 rfl 1 (.slice qa qn qc)
  have hM7 := hM6.set 0 rfl 2 (.slice none 0 0)
  have hM8 := hM7.set 0 rfl 4 (.bool false)
  have HC : Hid (CtS w (((V4.setCell ⟨g, 1, none⟩ (.slice qa qn qc)).setCell ⟨g, 2, none⟩ (.slice none 0 0)).setCell ⟨g, 4, none⟩ (.bool false)) g s (ls ++ lined (x :: r) p) [] none false K) := by
   refine ⟨zs ++ [(.slice va vn vc, x :: r, p)], .slice qa qn qc, .slice none 0 0, B4, [], Bw ++ C, by rw [List.map_append, h1]; rfl, ?_, OwB.nil _ _, ?_, by rw [List.nil_append, List.append_assoc]; exact hM8⟩
   ·rw [List.length_append, List.map_append, List.flatten_append]; exact hB4
   ·intro z hz
    rcases List.mem_append.1 hz with hz | hz
    ·exact (h4 z hz).sub (fun q hq => List.mem_append_right _ hq)
    ·rw [List.mem_singleton] at hz; subst hz
     exact hWin.sub (fun q hq => List.mem_append_left _ hq)
  have a1 : (V1.alloc (.cells #[.slice va vn vc, .int .i64 p] 105)).cell? ⟨g, 1, none⟩ = some (.slice la ln' lc) := hMa.cell 0 rfl 1
  have a2 : (V1.alloc (.cells #[.slice va vn vc, .int .i64 p] 105)).cell? ⟨g, 2, none⟩ = some (.slice va vn vc) := hMa.cell 0 rfl 2
  have k1 : V4.cell? ⟨g, 1, none⟩ = some (.slice la ln' lc) := hM5.cell 0 rfl 1
  have k2 : V4.cell? ⟨g, 2, none⟩ = some (.slice va vn vc) := hM5.cell 0 rfl 2
  have kf := hM5.free 0 rfl
  have m2 : (V4.setCell ⟨g, 1, none⟩ (.slice qa qn qc)).cell? ⟨g, 2, none⟩ = some (.slice va vn vc) := hM6.cell 0 rfl 2
  have mf := hM6.free 0 rfl
  have m4 : (V4.setCell ⟨g, 1, none⟩ (.slice qa qn qc)).cell? ⟨g, 4, none⟩ = some (.bool m) := hM6.cell 0 rfl 4
  have n4 : ((V4.setCell ⟨g, 1, none⟩ (.slice qa qn qc)).setCell ⟨g, 2, none⟩ (.slice none 0 0)).cell? ⟨g, 4, none⟩ = some (.bool m) := hM7.cell 0 rfl 4
  have nf := hM7.free 0 rfl
  clear hM hM4 hM5 hM6 hM7 hM8 hMa h1 h2 h3 h4 hB4 hvn hWin
  go_upto_region 2 with fail
  refine wp_region_held_drew (S := fun X => X.cell? ⟨g, 2, none⟩ = some (.slice va vn vc)) (by kernel_rfl) (e2) (fun hHeld => ?_)
  refine wpAnyH_take (i := 0) (v := ?_) rfl (by kernel_rfl) (by kernel_rfl) (by kernel_rfl) (fun _ _ _ h => h) (Or.inl ⟨by rfl, ?qay0⟩) (by assumption) ?qar0
  case qay0 => intro w hSw; (try dsimp only at hSw); go_simp; all_goals with_reducible rfl
  try simp only [getElem_toArray, getElem_cons_zero, getElem_cons_succ, Act.put, setIfInBounds_toArray, set_cons_zero, set_cons_succ]
  refine wpAnyH_take (i := 1) (v := ?_) rfl (by kernel_rfl) (by kernel_rfl) (by kernel_rfl) (fun _ _ _ h => h) (Or.inl ⟨by rfl, ?qay1⟩) (by assumption) ?qar1
  case qay1 => intro w hSw; (try dsimp only at hSw); go_simp; all_goals with_reducible rfl
  try simp only [getElem_toArray, getElem_cons_zero, getElem_cons_succ, Act.put, setIfInBounds_toArray, set_cons_zero, set_cons_succ]
  refine wpAnyH_take (i := 2) (v := ?_) rfl (by kernel_rfl) (by kernel_rfl) (by kernel_rfl) (fun _ _ _ h => h) (Or.inl ⟨by rfl, ?qay2⟩) (by assumption) ?qar2
  case qay2 => intro w hSw; (try dsimp only at hSw); go_simp; all_goals with_reducible rfl
  try simp only [getElem_toArray, getElem_cons_zero, getElem_cons_succ, Act.put, setIfInBounds_toArray, set_cons_zero, set_cons_succ]
  refine wpAnyH_take (i := 3) (v := ?_) rfl (by kernel_rfl) (by kernel_rfl) (by kernel_rfl) (fun _ _ _ h => h) (Or.inl ⟨by rfl, ?qay3⟩) (by assumption) ?qar3
  case qay3 => intro w hSw; (try dsimp only at hSw); go_simp; all_goals with_reducible rfl
  try simp only [getElem_toArray, getElem_cons_zero, getElem_cons_succ, Act.put, setIfInBounds_toArray, set_cons_zero, set_cons_succ]
  refine wpAnyH_take (i := 5) (v := ?_) rfl (by kernel_rfl) (by kernel_rfl) (by kernel_rfl) (fun _ _ _ h => h) (Or.inl ⟨by rfl, ?qay5⟩) (by assumption) ?qar5
  case qay5 => intro w hSw; (try dsimp only at hSw); go_simp; all_goals with_reducible rfl
  try simp only [getElem_toArray, getElem_cons_zero, getElem_cons_succ, Act.put, setIfInBounds_toArray, set_cons_zero, set_cons_succ]
  refine wpAnyH_take (i := 6) (v := ?_) rfl (by kernel_rfl) (by kernel_rfl) (by kernel_rfl) (fun _ _ _ h => h) (Or.inl ⟨by rfl, ?qay6⟩) (by assumption) ?qar6
  case qay6 => intro w hSw; (try dsimp only at hSw); go_simp; all_goals with_reducible rfl
  try simp only [getElem_toArray, getElem_cons_zero, getElem_cons_succ, Act.put, setIfInBounds_toArray, set_cons_zero, set_cons_succ]
  refine wpAnyH_take (i := 7) (v := ?_) rfl (by kernel_rfl) (by kernel_rfl) (by kernel_rfl) (fun _ _ _ h => h) (Or.inl ⟨by rfl, ?qay7⟩) (by assumption) ?qar7
  case qay7 => intro w hSw; (try dsimp only at hSw); go_simp; all_goals with_reducible rfl
  try simp only [getElem_toArray, getElem_cons_zero, getElem_cons_succ, Act.put, setIfInBounds_toArray, set_cons_zero, set_cons_succ]
  refine wpAnyH_take (i := 8) (v := ?_) rfl (by kernel_rfl) (by kernel_rfl) (by kernel_rfl) (fun _ _ _ h => h) (Or.inl ⟨by rfl, ?qay8⟩) (by assumption) ?qar8
  case qay8 => intro w hSw; (try dsimp only at hSw); go_simp; all_goals with_reducible rfl
  try simp only [getElem_toArray, getElem_cons_zero, getElem_cons_succ, Act.put, setIfInBounds_toArray, set_cons_zero, set_cons_succ]
  refine wpAnyH_take (i := 9) (v := ?_) rfl (by kernel_rfl) (by kernel_rfl) (by kernel_rfl) (fun _ _ _ h => h) (Or.inl ⟨by rfl, ?qay9⟩) (by assumption) ?qar9
  case qay9 => intro w hSw; (try dsimp only at hSw); go_simp; all_goals with_reducible rfl
  try simp only [getElem_toArray, getElem_cons_zero, getElem_cons_succ, Act.put, setIfInBounds_toArray, set_cons_zero, set_cons_succ]
  refine wpAnyH_take (i := 10) (v := ?_) rfl (by kernel_rfl) (by kernel_rfl) (by kernel_rfl) (fun _ _ _ h => h) (Or.inl ⟨by rfl, ?qay10⟩) (by assumption) ?qar10
  case qay10 => intro w hSw; (try dsimp only at hSw); go_simp; all_goals with_reducible rfl
  try simp only [getElem_toArray, getElem_cons_zero, getElem_cons_succ, Act.put, setIfInBounds_toArray, set_cons_zero, set_cons_succ]
  refine wpAnyH_ready (rs := [4, 11]) (by kernel_rfl) (by simp) ?_
  refine AllReadyH.cons rfl (fun KK hK => ?_) (AllReadyH.cons rfl (fun KK hK => ?_) AllReadyH.nil)
  ·go_simp
   refine hK.out _ _ (by first | exact e2 | exact a2 | exact k2 | exact m2) (fun hHeld => ?_)
   clear hK KK
   try simp only [getElem_toArray, getElem_cons_zero, getElem_cons_succ, Act.put, setIfInBounds_toArray, set_cons_zero, set_cons_succ]
   refine wpAnyH_ready (rs := [11]) (by kernel_rfl) (by simp) ?_
   refine AllReadyH.cons rfl (fun KK hK => ?_) AllReadyH.nil
   go_simp
   refine hK.out _ _ (by first | exact e2 | exact a2 | exact k2 | exact m2) (fun hHeld => ?_)
   clear hK KK
   try simp only [getElem_toArray, getElem_cons_zero, getElem_cons_succ, Act.put, setIfInBounds_toArray, set_cons_zero, set_cons_succ]
   refine wpAnyH_ready (rs := [12]) (by kernel_rfl) (by simp) ?_
   refine AllReadyH.cons rfl (fun KK hK => ?_) AllReadyH.nil
   refine step_append_run rfl (.tmp 17) (.tmp 24) 101 101 rfl (by simp [Act.eval]) (by simp [Act.eval]) hap ?_
   refine hK.out _ _ (by first | exact e2 | exact a2 | exact k2 | exact m2) (fun hHeld => ?_)
   clear hK KK
   try simp only [getElem_toArray, getElem_cons_zero, getElem_cons_succ, Act.put, setIfInBounds_toArray, set_cons_zero, set_cons_succ]
   refine wpAnyH_take (i := 13) (v := ?_) rfl (by kernel_rfl) (by kernel_rfl) (by kernel_rfl) (fun _ _ _ h => h) (Or.inl ⟨by rfl, ?qbzy13⟩) (by assumption) ?qbzr13
   case qbzy13 => intro w hSw; (try dsimp only at hSw); go_simp; all_goals with_reducible rfl
   try simp only [getElem_toArray, getElem_cons_zero, getElem_cons_succ, Act.put, setIfInBounds_toArray, set_cons_zero, set_cons_succ]
   refine wpAnyH_take (i := 14) (v := ?_) rfl (by kernel_rfl) (by kernel_rfl) (by kernel_rfl) (fun _ _ _ h => h) (Or.inl ⟨by rfl, ?qbzy14⟩) (by assumption) ?qbzr14
   case qbzy14 => intro w hSw; (try dsimp only at hSw); go_simp; all_goals with_reducible rfl
   try simp only [getElem_toArray, getElem_cons_zero, getElem_cons_succ, Act.put, setIfInBounds_toArray, set_cons_zero, set_cons_succ]
   refine wpAnyH_ready (rs := [15]) (by kernel_rfl) (by simp) ?_
   refine AllReadyH.cons rfl (fun KK hK => ?_) AllReadyH.nil
   go_simp
   refine hK.out _ _ (by first | exact e2 | exact a2 | exact k2 | exact m2) (fun hHeld => ?_)
   clear hK KK
   try simp only [getElem_toArray, getElem_cons_zero, getElem_cons_succ, Act.put, setIfInBounds_toArray, set_cons_zero, set_cons_succ]
   refine wpAnyH_done (by kernel_rfl) ?_ _
   go_wp2_with fail
   go_end0
   exact ⟨rfl, HC.out⟩
  ·go_simp
   refine hK.out _ _ (by first | exact e2 | exact a2 | exact k2 | exact m2) (fun hHeld => ?_)
   clear hK KK
   try simp only [getElem_toArray, getElem_cons_zero, getElem_cons_succ, Act.put, setIfInBounds_toArray, set_cons_zero, set_cons_succ]
   refine wpAnyH_ready (rs := [4]) (by kernel_rfl) (by simp) ?_
   refine AllReadyH.cons rfl (fun KK hK => ?_) AllReadyH.nil
   go_simp
   refine hK.out _ _ (by first | exact e2 | exact a2 | exact k2 | exact m2) (fun hHeld => ?_)
   clear hK KK
   try simp only [getElem_toArray, getElem_cons_zero, getElem_cons_succ, Act.put, setIfInBounds_toArray, set_cons_zero, set_cons_succ]
   refine wpAnyH_ready (rs := [12]) (by kernel_rfl) (by simp) ?_
   refine AllReadyH.cons rfl (fun KK hK => ?_) AllReadyH.nil
   refine step_append_run rfl (.tmp 17) (.tmp 24) 101 101 rfl (by simp [Act.eval]) (by simp [Act.eval]) hap ?_
   refine hK.out _ _ (by first | exact e2 | exact a2 | exact k2 | exact m2) (fun hHeld => ?_)
   clear hK KK
   try simp only [getElem_toArray, getElem_cons_zero, getElem_cons_succ, Act.put, setIfInBounds_toArray, set_cons_zero, set_cons_succ]
   refine wpAnyH_take (i := 13) (v := ?_) rfl (by kernel_rfl) (by kernel_rfl) (by kernel_rfl) (fun _ _ _ h => h) (Or.inl ⟨by rfl, ?qczy13⟩) (by assumption) ?qczr13
   case qczy13 => intro w hSw; (try dsimp only at hSw); go_simp; all_goals with_reducible rfl
   try simp only [getElem_toArray, getElem_cons_zero, getElem_cons_succ, Act.put, setIfInBounds_toArray, set_cons_zero, set_cons_succ]
   refine wpAnyH_take (i := 14) (v := ?_) rfl (by kernel_rfl) (by kernel_rfl) (by kernel_rfl) (fun _ _ _ h => h) (Or.inl ⟨by rfl, ?qczy14⟩) (by assumption) ?qczr14
   case qczy14 => intro w hSw; (try dsimp only at hSw); go_simp; all_goals with_reducible rfl
   try simp only [getElem_toArray, getElem_cons_zero, getElem_cons_succ, Act.put, setIfInBounds_toArray, set_cons_zero, set_cons_succ]
   refine wpAnyH_ready (rs := [15]) (by kernel_rfl) (by simp) ?_
   refine AllReadyH.cons rfl (fun KK hK => ?_) AllReadyH.nil
   go_simp
   refine hK.out _ _ (by first | exact e2 | exact a2 | exact k2 | exact m2) (fun hHeld => ?_)
   clear hK KK
   try simp only [getElem_toArray, getElem_cons_zero, getElem_cons_succ, Act.put, setIfInBounds_toArray, set_cons_zero, set_cons_succ]
   refine wpAnyH_done (by kernel_rfl) ?_ _
   go_wp2_with fail
   go_end0
   exact ⟨rfl, HC.out⟩
end Go.Proofs.YtneciccdiledfaaGreatDoor
namespace Go.Proofs.YtneciccdiledfaaGreatDoor
open Go.RowKit
open List (getElem_toArray getElem_cons_zero getElem_cons_succ setIfInBounds_toArray set_cons_zero set_cons_succ)
open La
open Ad
open Sm (IsBytes)
theorem txtS_snoc (b : List UInt8) (ps : List (Int × Int)) (i : Nat) (x y : Int) (h : ps[i]? = some (x, y)) : (txtS b (ps.take (i + 1))).flatMap spc = (txtS b (ps.take i)).flatMap spc ++ spc [b, ipx x, ipx y] := by
 rw [List.take_add_one, h]
 unfold txtS
 rw [List.map_append, List.flatMap_append]
 simp
theorem txtS_le (b : List UInt8) (ps : List (Int × Int)) (i : Nat) : ((txtS b (ps.take i)).flatMap spc).length ≤ ((txtS b ps).flatMap spc).length := by
 conv => rhs; rw [← List.take_append_drop i ps]
 unfold txtS
 rw [List.map_append, List.flatMap_append, List.length_append]
 omega
set_option maxHeartbeats 8000000 in
theorem wpairs_any {w V : World} {g : Nat} {l : List UInt8} {K : List (Nat × Obj)} (hV : Vs w) (h : Bu w V g l K) (b : ByteArray) (sv : Value) (ps : List (Int × Int)) (hr : Rw w 2 sv (px ps)) (hps : ps.length ≤ 1000000) (hrg : ∀ x ∈ ps, (0 ≤ x.1 ∧ x.1 ≤ 4294967295) ∧ 0 ≤ x.2 ∧ x.2 ≤ 4294967295) (hlen : l.length + ((txtS b.data.toList ps).flatMap spc).length ≤ 90000000) :
  Calls Tryz.prog 66 #[.pointer (some ⟨g, 0, none⟩), .string b, sv] V fun e V' => e = .returned (.tuple #[]) ∧ Bu w V' g (l ++ (txtS b.data.toList ps).flatMap spc) K := by
 have hlen2 : (px ps).length = ps.length := by simp [px]
 obtain ⟨a, c, rfl, hrr⟩ := hr
 have HC : Hid (∀ i, i < ps.length → ∀ V, Mem w V K → ∃ bb off x y, a = some ⟨bb, off, none⟩ ∧ ps[i]? = some (x, y) ∧ V.cell? ⟨bb, off + i * 2, none⟩ = some (.int .u32 x) ∧ V.cell? ⟨bb, off + i * 2 + 1, none⟩ = some (.int .u32 y) ∧ (0 ≤ x ∧ x ≤ 4294967295) ∧ 0 ≤ y ∧ y ≤ 4294967295) := by
  intro i hi V hV
  have hr2 : Rw V 2 (.slice a (px ps).length c) (px ps) := hV.rw' ⟨a, c, rfl, hrr⟩ px_ne
  obtain ⟨bb, off, rfl, hc⟩ := rw_at hr2 i (by omega)
  obtain ⟨x, hx⟩ : ∃ x, ps[i]? = some x := ⟨_, List.getElem?_eq_getElem hi⟩
  have ex : (px ps).getD i [] = [.int .u32 x.1, .int .u32 x.2] := by simp [px, List.getD, hx]
  rw [ex] at hc
  exact ⟨bb, off, x.1, x.2, rfl, hx, hc 0 _ rfl, hc 1 _ rfl, hrg x (List.mem_of_getElem? hx)⟩
 rw [hlen2]
 obtain ⟨N, hN⟩ : ∃ N, ps.length = N := ⟨_, rfl⟩
 have htk : ps.take N = ps := by rw [← hN]; exact List.take_length
 have HS : Hid (∀ i x y, ps[i]? = some (x, y) → (txtS b.data.toList (ps.take (i + 1))).flatMap spc = (txtS b.data.toList (ps.take i)).flatMap spc ++ spc [b.data.toList, ipx x, ipx y]) := fun i x y hh => txtS_snoc _ _ _ _ _ hh
 have HLe : Hid (∀ i, l.length + ((txtS b.data.toList (ps.take i)).flatMap spc).length ≤ 90000000) := fun i => by have := txtS_le b.data.toList ps i; omega
 have HT : Hid ((txtS b.data.toList (ps.take N)).flatMap spc = (txtS b.data.toList ps).flatMap spc) := congrArg (fun z => (txtS b.data.toList z).flatMap spc) htk
 have H0 : Hid (Bu w V g (l ++ (txtS b.data.toList (ps.take 0)).flatMap spc) K) := by
  show Bu w V g (l ++ []) K
  rw [List.append_nil]; exact h
 rw [hN] at HC hps ⊢
 have HPS : Hid (N ≤ 1000000) := hps
 obtain ⟨R, hR⟩ : ∃ R, (txtS b.data.toList ps).flatMap spc = R := ⟨_, rfl⟩
 rw [hR] at HT ⊢
 generalize hF : (fun i => (txtS b.data.toList (ps.take i)).flatMap spc) = F at *
 have hFi : ∀ i, (txtS b.data.toList (ps.take i)).flatMap spc = F i := fun i => by rw [← hF]
 simp only [hFi] at HS HLe HT H0
 clear h hrr hlen2 hN hR hlen hrg htk hF hFi hps
 go_enter Tryz.func66, Tryz.ntmps66
 go_wp2_with fail
 go_loopw [10] (fun u w' => ∃ i : Nat, i ≤ N ∧ u = .int .i64 i ∧ Hid (Bu w w' g (l ++ F i) K)) (fun u w' => N - (intOf u).toNat)
 case atStart => exact ⟨0, Nat.zero_le _, rfl, H0⟩
 case round =>
  obtain ⟨i, hi, rfl, HR⟩ := hrel
  clear H0
  by_cases hlt : i < N
  ·have h1 : (i : Int) < N := by omega
   have e7 : IntKind.i64.wrap ((i : Int) + 1) = (i : Int) + 1 := by have := HPS.out; exact wrap64 (by omega) (by omega)
   obtain ⟨bb, off, x, y, rfl, exy, c1, c2, rx, ry⟩ := HC.out i hlt _ HR.out.mem
   have CX : Hid (∀ X, Below w.heap.size w X → Calls Tryz.prog 59 #[.int .u32 x] X fun e w' => e = .returned (.string ⟨(ipx x).toArray⟩) ∧ Below X.heap.size X w') := fun X hb => iptx hV hb x rx
   have CY : Hid (∀ X, Below w.heap.size w X → Calls Tryz.prog 59 #[.int .u32 y] X fun e w' => e = .returned (.string ⟨(ipx y).toArray⟩) ∧ Below X.heap.size X w') := fun X hb => iptx hV hb y ry
   have hsn := HS.out i x y exy
   have hln := HLe.out (i + 1)
   rw [hsn, List.length_append] at hln
   obtain ⟨gp, hgp⟩ : ∃ gp, wr.heap.size = gp := ⟨_, rfl⟩
   have HP : Hid (Bu w (wr.alloc (.cells #[.int .u32 x, .int .u32 y] 96)) g (l ++ F i) ((gp, .cells #[.int .u32 x, .int .u32 y] 96) :: K)) := HR.out.push _ hgp.symm
   have CL : Hid (∀ X K', Bu w X g (l ++ F i) K' → Calls Tryz.prog 58 #[.pointer (some ⟨g, 0, none⟩), .slice (some ⟨X.heap.size, 0, none⟩) 3 3] (X.alloc (.cells #[.string b, .string ⟨(ipx x).toArray⟩, .string ⟨(ipx y).toArray⟩] 9)) fun e V' => e = .returned (.tuple #[]) ∧ Bu w V' g (l ++ F (i + 1)) K') := by
    intro X K' hX
    have := wlit_any hX [b, ⟨(ipx x).toArray⟩, ⟨(ipx y).toArray⟩] 3 rfl (by decide) (by
     show (l ++ F i).length + (spc [b.data.toList, ipx x, ipx y]).length ≤ _
     rw [List.length_append]; omega)
    rw [List.append_assoc] at this
    rw [hsn]
    exact this
   generalize (⟨(ipx x).toArray⟩ : ByteArray) = sx at CX CL
   generalize (⟨(ipx y).toArray⟩ : ByteArray) = sy at CY CL
   clear hsn hln exy HR rx ry
   go_upto_region 3 with fail
   refine wp_letter (fun X => Bu w X g (l ++ F i) ((gp, Obj.cells #[.int .u32 x, .int .u32 y] 96) :: K)) (by exact HP.out) ?_
   intro V0 hR
   try simp only [hgp]
   clear HP hgp c1 c2
   have KS : Hid (∀ X L', Bu w X g L' ((gp, Obj.cells #[.int .u32 x, .int .u32 y] 96) :: K) → X.cell? ⟨gp, 0, none⟩ = some (.int .u32 x) ∧ X.cell? ⟨gp, 1, none⟩ = some (.int .u32 y)) := fun X L' hX => ⟨hX.mem.cell 0 rfl 0, hX.mem.cell 0 rfl 1⟩
   have HB0 : Hid (Bu w V0.drew g (l ++ F i) ((gp, Obj.cells #[.int .u32 x, .int .u32 y] 96) :: K)) := hR.after ((Below.refl _ _).drew)
   clear hR
   refine wp_region_held_drew (S := fun X => X.cell? ⟨gp, 0, none⟩ = some (.int .u32 x) ∧ X.cell? ⟨gp, 1, none⟩ = some (.int .u32 y)) (by kernel_rfl) (KS.out _ _ HB0.out) (fun hHeld => ?_)
   refine wpAnyH_take (i := 0) (v := ?_) rfl (by kernel_rfl) (by kernel_rfl) (by kernel_rfl) (fun _ _ _ h => h) (Or.inl ⟨by rfl, ?qy0⟩) (by assumption) ?qr0
   case qy0 => intro w hSw; (try dsimp only at hSw); go_simp; all_goals with_reducible rfl
   try simp only [getElem_toArray, getElem_cons_zero, getElem_cons_succ, Act.put, setIfInBounds_toArray, set_cons_zero, set_cons_succ]
   refine wpAnyH_take (i := 1) (v := ?_) rfl (by kernel_rfl) (by kernel_rfl) (by kernel_rfl) (fun _ _ _ h => h) (Or.inl ⟨by rfl, ?qy1⟩) (by assumption) ?qr1
   case qy1 => intro w hSw; (try dsimp only at hSw); go_simp; all_goals with_reducible rfl
   try simp only [getElem_toArray, getElem_cons_zero, getElem_cons_succ, Act.put, setIfInBounds_toArray, set_cons_zero, set_cons_succ]
   refine wpAnyH_take (i := 2) (v := ?_) rfl (by kernel_rfl) (by kernel_rfl) (by kernel_rfl) (fun _ _ _ h => h) (Or.inl ⟨by rfl, ?qy2⟩) (by assumption) ?qr2
   case qy2 => intro w hSw; (try dsimp only at hSw); go_simp; all_goals with_reducible rfl
   try simp only [getElem_toArray, getElem_cons_zero, getElem_cons_succ, Act.put, setIfInBounds_toArray, set_cons_zero, set_cons_succ]
   refine wpAnyH_take (i := 3) (v := ?_) rfl (by kernel_rfl) (by kernel_rfl) (by kernel_rfl) (fun _ _ _ h => h) (Or.inl ⟨by rfl, ?qy3⟩) (by assumption) ?qr3
   case qy3 => intro w hSw; (try dsimp only at hSw); go_simp; all_goals with_reducible rfl
   try simp only [getElem_toArray, getElem_cons_zero, getElem_cons_succ, Act.put, setIfInBounds_toArray, set_cons_zero, set_cons_succ]
   refine wpAnyH_take (i := 5) (v := ?_) rfl (by kernel_rfl) (by kernel_rfl) (by kernel_rfl) (fun _ _ _ h => h) (Or.inl ⟨by rfl, ?qy5⟩) (by assumption) ?qr5
   case qy5 => intro w hSw; (try dsimp only at hSw); go_simp; all_goals with_reducible rfl
   try simp only [getElem_toArray, getElem_cons_zero, getElem_cons_succ, Act.put, setIfInBounds_toArray, set_cons_zero, set_cons_succ]
   refine wpAnyH_take (i := 6) (v := ?_) rfl (by kernel_rfl) (by kernel_rfl) (by kernel_rfl) (fun _ _ _ h => h) (Or.inl ⟨by rfl, ?qy6⟩) (by assumption) ?qr6
   case qy6 => intro w hSw; (try dsimp only at hSw); go_simp; all_goals with_reducible rfl
   try simp only [getElem_toArray, getElem_cons_zero, getElem_cons_succ, Act.put, setIfInBounds_toArray, set_cons_zero, set_cons_succ]
   refine wpAnyH_ready (rs := [4]) (by kernel_rfl) (by simp) ?_
   refine AllReadyH.cons rfl (fun K hK => ?_) AllReadyH.nil
   go_simp
   with_reducible refine (CX.out _ HB0.out.mem.below).mono ?_
   rintro e W1 ⟨rfl, hb1⟩
   try go_wp2_with fail
   refine hK.out _ _ (KS.out _ _ (HB0.out.after hb1)) (fun hHeld => ?_)
   clear hK K
   try simp only [getElem_toArray, getElem_cons_zero, getElem_cons_succ, Act.put, setIfInBounds_toArray, set_cons_zero, set_cons_succ]
   refine wpAnyH_ready (rs := [7]) (by kernel_rfl) (by simp) ?_
   refine AllReadyH.cons rfl (fun K hK => ?_) AllReadyH.nil
   go_simp
   with_reducible refine (CY.out _ (HB0.out.after hb1).mem.below).mono ?_
   rintro e W2 ⟨rfl, hb2⟩
   try go_wp2_with fail
   refine hK.out _ _ (KS.out _ _ ((HB0.out.after hb1).after hb2)) (fun hHeld => ?_)
   clear hK K
   try simp only [getElem_toArray, getElem_cons_zero, getElem_cons_succ, Act.put, setIfInBounds_toArray, set_cons_zero, set_cons_succ]
   refine wpAnyH_ready (rs := [8]) (by kernel_rfl) (by simp) ?_
   refine AllReadyH.cons rfl (fun K hK => ?_) AllReadyH.nil
   go_simp
   refine hK.out _ _ (KS.out _ _ (((HB0.out.after hb1).after hb2).after ((Below.refl _ _).alloc (Nat.le_refl _) _))) (fun hHeld => ?_)
   clear hK K
   try simp only [getElem_toArray, getElem_cons_zero, getElem_cons_succ, Act.put, setIfInBounds_toArray, set_cons_zero, set_cons_succ]
   refine wpAnyH_ready (rs := [9]) (by kernel_rfl) (by simp) ?_
   refine AllReadyH.cons rfl (fun K hK => ?_) AllReadyH.nil
   go_simp
   with_reducible refine (CL.out _ _ ((HB0.out.after hb1).after hb2)).mono ?_
   rintro e W7 ⟨rfl, hB7⟩
   try go_wp2_with fail
   refine hK.out _ _ (KS.out _ _ hB7) (fun hHeld => ?_)
   clear hK K
   try simp only [getElem_toArray, getElem_cons_zero, getElem_cons_succ, Act.put, setIfInBounds_toArray, set_cons_zero, set_cons_succ]
   refine wpAnyH_done (by kernel_rfl) ?_ _
   have HB7 : Hid (Bu w W7 g (l ++ F (i + 1)) K) := hB7.drop1
   clear hB7 hb1 hb2 HB0 KS CL CX CY
   go_wp2_with fail
   go_roundw
   case rel => exact ⟨i + 1, by omega, by go_num, HB7⟩
   case measure => simp [intOf]; omega
  ·obtain rfl : i = N := by omega
   have h1 : ¬ ((i : Int) < i) := by omega
   have HF : Hid (Bu w wr g (l ++ R) K) := by rw [← HT.out]; exact HR.out
   clear HR HT HS HLe
   go_wp2_with fail
   go_end0
   exact ⟨rfl, HF.out⟩
theorem Bu.grow {w V : World} {g : Nat} {l : List UInt8} {B K : List (Nat × Obj)} {t e ty : TypeId} {sz bytes n : Nat} {z v : Value} {xs : List Value} (h : Bu w V g l (B ++ K)) (ht : Tryz.prog.underlying t = some (.slice e)) (hi : (Tryz.prog.info? e).map (fun i => (i.zero, i.size, i.bytes)) = some (some z, sz, bytes)) (hzs : z.cells.size = sz) (hsz : 0 < sz)
  (hB : OwB e sz v n xs B) (ad : Addr) (news : List Value) (hl : news.length = sz) (hnews : ∀ j u, news[j]? = some u → V.cell? (ad.add j) = some u) (h1 : ∀ u ∈ news, u.oneCell' = true) (h63 : n + 1 ≤ 1000000) (hb : (n + 1) * bytes ≤ 140737488355328) :
  ∃ v' V' B', (Builtin.append_ #[t, t] ty #[v, .slice (some ad) 1 1]).run Tryz.prog V = .ok v' V' ∧ Bu w V' g l (B' ++ K) ∧ OwB e sz v' (n + 1) (xs ++ news) B' := by
 have key : ∀ p, Bp w V g p l (B ++ K) → ∃ v' V' B', (Builtin.append_ #[t, t] ty #[v, .slice (some ad) 1 1]).run Tryz.prog V = .ok v' V' ∧ Bp w V' g p l (B' ++ K) ∧ OwB e sz v' (n + 1) (xs ++ news) B' := by
  rintro p ⟨u, k1, k2, k3⟩
  rcases k3 with ⟨rfl, e0, hm⟩ | ⟨gb, cap, cur, rfl, hm, r⟩
  ·obtain ⟨v', V', B', hr, hM', hB'⟩ := mem_append (ty := ty) (K := (g, .cells #[p, .slice none 0 0] 86) :: K) ht hi hzs hsz (hm.perm (by classical rw [List.perm_iff_count]; intro z; simp only [List.count_append, List.count_cons]; omega)) hB ad news hl hnews h1 h63 hb
   exact ⟨v', V', B', hr, ⟨_, k1, k2, Or.inl ⟨rfl, e0, hM'.perm (by classical rw [List.perm_iff_count]; intro z; simp only [List.count_append, List.count_cons]; omega)⟩⟩, hB'⟩
  ·obtain ⟨v', V', B', hr, hM', hB'⟩ := mem_append (ty := ty) (K := (gb, .cells cur 5) :: (g, .cells #[p, .slice (some ⟨gb, 0, none⟩) (nb l).length cap] 86) :: K) ht hi hzs hsz (hm.perm (by classical rw [List.perm_iff_count]; intro z; simp only [List.count_append, List.count_cons]; omega)) hB ad news hl hnews h1 h63 hb
   exact ⟨v', V', B', hr, ⟨_, k1, k2, Or.inr ⟨gb, cap, cur, rfl, hM'.perm (by classical rw [List.perm_iff_count]; intro z; simp only [List.count_append, List.count_cons]; omega), r⟩⟩, hB'⟩
 rcases h with h | h
 ·obtain ⟨v', V', B', h1, h2, h3⟩ := key _ h
  exact ⟨v', V', B', h1, Or.inl h2, h3⟩
 ·obtain ⟨v', V', B', h1, h2, h3⟩ := key _ h
  exact ⟨v', V', B', h1, Or.inr h2, h3⟩
def pw (ps : List Int) : List ByteArray := (⟨#[112, 111, 111, 108]⟩ : ByteArray) :: ps.map (fun n => ⟨(ipx n).toArray⟩)
theorem pw_txt (ps : List Int) : (pw ps).map (·.data.toList) = wPool :: ps.map ipx := by
 unfold pw
 rw [List.map_cons, List.map_map]
 rfl
theorem pw_snoc (ps : List Int) (i : Nat) (x : Int) (h : ps[i]? = some x) : (pw (ps.take (i + 1))).map Value.string = (pw (ps.take i)).map Value.string ++ [.string ⟨(ipx x).toArray⟩] := by
 rw [List.take_add_one, h]
 simp [pw]
theorem infoStr : (Tryz.prog.info? 9).map (fun i => (i.zero, i.size, i.bytes)) = some (some (.string ⟨#[]⟩), 1, 16) := by kernel_rfl
set_option maxHeartbeats 8000000 in
theorem wpool_any {w V : World} {g : Nat} {l : List UInt8} {K : List (Nat × Obj)} (hV : Vs w) (h : Bu w V g l K) (sv : Value) (ps : List Int) (hr : Rw w 1 sv (ux ps)) (hps : ps.length ≤ 90000) (hrg : ∀ x ∈ ps, 0 ≤ x ∧ x ≤ 4294967295) (hlen : l.length + (spc (wPool :: ps.map ipx)).length ≤ 90000000) :
  Calls Tryz.prog 63 #[.pointer (some ⟨g, 0, none⟩), sv] V fun e V' => e = .returned (.tuple #[]) ∧ Bu w V' g (l ++ spc (wPool :: ps.map ipx)) K := by
 have hlen2 : (ux ps).length = ps.length := by simp [ux]
 obtain ⟨a, c, rfl, hrr⟩ := hr
 have HC : Hid (∀ i, i < ps.length → ∀ V, Mem w V K → ∃ bb off x, a = some ⟨bb, off, none⟩ ∧ ps[i]? = some x ∧ V.cell? ⟨bb, off + i, none⟩ = some (.int .u32 x) ∧ 0 ≤ x ∧ x ≤ 4294967295) := by
  intro i hi V hV
  have hr2 : Rw V 1 (.slice a (ux ps).length c) (ux ps) := hV.rw' ⟨a, c, rfl, hrr⟩ ux_ne
  obtain ⟨bb, off, rfl, hc⟩ := rw_at hr2 i (by omega)
  obtain ⟨x, hx⟩ : ∃ x, ps[i]? = some x := ⟨_, List.getElem?_eq_getElem hi⟩
  have ex : (ux ps).getD i [] = [.int .u32 x] := by simp [ux, List.getD, hx]
  rw [ex] at hc
  have c0 := hc 0 _ rfl
  rw [Nat.mul_one, Nat.add_zero] at c0
  exact ⟨bb, off, x, rfl, hx, c0, hrg x (List.mem_of_getElem? hx)⟩
 rw [hlen2]
 obtain ⟨N, hN⟩ : ∃ N, ps.length = N := ⟨_, rfl⟩
 have htk : ps.take N = ps := by rw [← hN]; exact List.take_length
 obtain ⟨gs, hgs⟩ : ∃ gs, V.heap.size = gs := ⟨_, rfl⟩
 have H0 : Hid (∃ B, OwB 9 1 (.slice (some ⟨gs, 0, none⟩) 1 1) (0 + 1) ((pw (ps.take 0)).map Value.string) B ∧ Bu w (V.alloc (.cells #[.string ⟨#[112, 111, 111, 108]⟩] 9)) g l (B ++ K)) := by
  refine ⟨[(gs, .cells #[.string ⟨#[112, 111, 111, 108]⟩] 9)], ?_, h.push _ hgs.symm⟩
  exact owb_mk (T := 9) (sz := 1) (n := 1) (cap := 1) (g := gs) (X := [.string ⟨#[112, 111, 111, 108]⟩]) (Y := []) rfl (Nat.le_refl _) (by unfold maxLen; omega) rfl
 rw [hN] at HC hps ⊢
 have HPS : Hid (N ≤ 90000) := hps
 have HSN : Hid (∀ i x, ps[i]? = some x → (pw (ps.take (i + 1))).map Value.string = (pw (ps.take i)).map Value.string ++ [.string ⟨(ipx x).toArray⟩]) := fun i x hh => pw_snoc ps i x hh
 have HEnd : Hid (∀ X v, (∃ B, OwB 9 1 v (N + 1) ((pw (ps.take N)).map Value.string) B ∧ Bu w X g l (B ++ K)) → Calls Tryz.prog 58 #[.pointer (some ⟨g, 0, none⟩), v] X fun e V' => e = .returned (.tuple #[]) ∧ Bu w V' g (l ++ spc (wPool :: ps.map ipx)) K) := by
  rintro X v ⟨B, hB, hX⟩
  rw [htk] at hB
  obtain ⟨gb, cap, Y, rfl, rfl, k1, k2, k3⟩ := owb_un hB (by omega)
  have hM := hX.mem
  have hl1 : (pw ps).length = N + 1 := by rw [← hN]; simp [pw]
  have := wline_any (gs := gb) (c := cap) hX (pw ps) hl1 (fun j x hj => by
   rw [Nat.zero_add, hM.cell 0 rfl, List.getElem?_toArray, List.getElem?_append_left (by rw [List.length_map]; exact (List.getElem?_eq_some_iff.1 hj).1), List.getElem?_map, hj]
   rfl) (hM.lt (List.mem_cons_self ..)) k1 (by omega) (by rw [pw_txt]; exact hlen)
  rw [pw_txt] at this
  exact this.mono (fun e V' hh => ⟨hh.1, hh.2.drop1⟩)
 obtain ⟨R, hR⟩ : ∃ R, spc (wPool :: ps.map ipx) = R := ⟨_, rfl⟩
 rw [hR] at HEnd ⊢
 generalize hF : (fun i => (pw (ps.take i)).map Value.string) = F at *
 have hFi : ∀ i, (pw (ps.take i)).map Value.string = F i := fun i => by rw [← hF]
 simp only [hFi] at H0 HSN HEnd
 clear h hrr hlen2 hN hR hlen hrg htk hF hFi hps
 go_enter Tryz.func63, Tryz.ntmps63
 go_wp2_with fail
 go_loopw [4, 10] (fun v u w' => ∃ i : Nat, i ≤ N ∧ u = .int .i64 i ∧ Hid (∃ B, OwB 9 1 v (i + 1) (F i) B ∧ Bu w w' g l (B ++ K))) (fun v u w' => N - (intOf u).toNat)
 case atStart => exact ⟨0, Nat.zero_le _, rfl, H0⟩
 case round =>
  obtain ⟨i, hi, rfl, HR⟩ := hrel
  clear H0
  obtain ⟨B, hB, hX⟩ := HR.out
  obtain ⟨va, vm, vc, rfl⟩ := owb_slice hB
  by_cases hlt : i < N
  ·have h1 : (i : Int) < N := by omega
   have e7 : IntKind.i64.wrap ((i : Int) + 1) = (i : Int) + 1 := by have := HPS.out; exact wrap64 (by omega) (by omega)
   obtain ⟨bb, off, x, rfl, exy, c1, rx⟩ := HC.out i hlt _ (hX.mem.dropA)
   have CX := iptx hV hX.mem.below x rx
   have hsn := HSN.out i x exy
   generalize (⟨(ipx x).toArray⟩ : ByteArray) = sx at CX hsn
   have HX : Hid (Bu w wr g l (B ++ K) ∧ OwB 9 1 (.slice va vm vc) (i + 1) (F i) B ∧ F (i + 1) = F i ++ [.string sx]) := ⟨hX, hB, hsn⟩
   clear hX hB hsn exy HR rx
   go_wp2_with fail
   refine CX.mono ?_
   rintro e W1 ⟨rfl, hb1⟩
   obtain ⟨hX, hB, hsn⟩ := HX.out
   obtain ⟨v4, V4, B4, hap, hX4, hB4⟩ := Bu.grow (ty := 54) (t := 54) ((hX.after hb1).after ((Below.refl _ _).alloc (Nat.le_refl _) (.cells #[.string sx] 9))) Tryz.underlying54 infoStr rfl (by decide) hB ⟨W1.heap.size, 0, none⟩ [.string sx] rfl (fun j u hj => by
    rw [addr_mid, Nat.zero_add, World.cell?_alloc_new]
    simpa using hj) (by simp; rfl) (by have := HPS.out; omega) (by have := HPS.out; omega)
   have HH : Hid (∃ B, OwB 9 1 v4 (i + 1 + 1) (F (i + 1)) B ∧ Bu w V4 g l (B ++ K)) := ⟨B4, by rw [hsn]; exact hB4, hX4⟩
   clear hX hB hsn hX4 hB4 CX HX hb1 c1
   go_wp2_with (at_builtin; refine wpList_append_run (.tmp 14) (.tmp 17) 54 54 (by with_reducible rfl) hap rfl rfl (by simp [Act.eval]) (by simp [Act.eval]) ?_)
   go_roundw
   case rel => exact ⟨i + 1, by omega, by go_num, HH⟩
   case measure => simp [intOf]; omega
  ·obtain rfl : i = N := by omega
   have h1 : ¬ ((i : Int) < i) := by omega
   have CE := HEnd.out wr (.slice va vm vc) ⟨B, hB, hX⟩
   clear HR hB hX HEnd HC HSN
   go_wp2_with fail
   refine CE.mono ?_
   rintro e W2 ⟨rfl, hB2⟩
   have HF : Hid (Bu w W2 g (l ++ R) K) := hB2
   clear hB2 CE
   go_wp2_with fail
   go_end0
   exact ⟨rfl, HF.out⟩
end Go.Proofs.YtneciccdiledfaaGreatDoor
namespace Go.Proofs.YtneciccdiledfaaGreatDoor
open Go.RowKit
open List (getElem_toArray getElem_cons_zero getElem_cons_succ setIfInBounds_toArray set_cons_zero set_cons_succ)
open La
open Ad
abbrev lgc (v : Value) (i fin at_ : Nat) (b : Bool) : Array Value := #[v, .int .i64 i, .int .i64 fin, .int .i64 at_, .bool b]
def Lg (w V : World) (g : Nat) (σ : Sg) (W K : List (Nat × Obj)) : Prop :=
 (∀ x ∈ σ.ws, x.1.size ≤ 32768) ∧ ∃ (v : Value) (all : List Wd) (i at_ : Nat), WIn W v all ∧ i ≤ all.length ∧ all.length ≤ 900000 ∧ σ.ws = all.drop i ∧ (∀ a, σ.bad = some a → at_ = a) ∧ Mem w V ((g, .cells (lgc v i σ.fin at_ σ.bad.isSome) 69) :: (K ++ W))
section
variable {w V V' : World} {g : Nat} {σ : Sg} {W K : List (Nat × Obj)}
theorem Lg.mem (h : Lg w V g σ W K) : Mem w V (K ++ W) := by
 obtain ⟨-, v, all, i, at_, -, -, -, -, -, h⟩ := h; exact h.sub
theorem Lg.after (h : Lg w V g σ W K) (hb : Below V.heap.size V V') : Lg w V' g σ W K := by
 obtain ⟨h1, v, all, i, at_, h2, h3, h4, h5, h6, h⟩ := h; exact ⟨h1, v, all, i, at_, h2, h3, h4, h5, h6, h.after hb⟩
theorem Lg.drewN (h : Lg w V g σ W K) (q : Nat) : Lg w (V.drewN q) g σ W K := by
 obtain ⟨h1, v, all, i, at_, h2, h3, h4, h5, h6, h⟩ := h; exact ⟨h1, v, all, i, at_, h2, h3, h4, h5, h6, h.drewN q⟩
theorem Lg.push (h : Lg w V g σ W K) (o : Obj) {n : Nat} (hn : n = V.heap.size) : Lg w (V.alloc o) g σ W ((n, o) :: K) := by
 obtain ⟨h1, v, all, i, at_, h2, h3, h4, h5, h6, h⟩ := h
 exact ⟨h1, v, all, i, at_, h2, h3, h4, h5, h6, (h.front o hn).perm (List.Perm.swap _ _ _)⟩
theorem Lg.set (h : Lg w V g σ W K) {i n : Nat} {A : Array Value} {t : TypeId} (hi : K[i]? = some (n, .cells A t (0, 0))) (j : Nat) (v : Value) : Lg w (V.setCell ⟨n, j, none⟩ v) g σ W (K.set i (n, .cells (A.setIfInBounds j v) t (0, 0))) := by
 obtain ⟨h1, u, all, k, at_, h2, h3, h4, h5, h6, h⟩ := h
 have hl : i < K.length := by
  rcases Nat.lt_or_ge i K.length with h | h
  ·exact h
  ·rw [List.getElem?_eq_none h] at hi; cases hi
 have := h.set (i + 1) (by rw [List.getElem?_cons_succ, List.getElem?_append_left hl]; exact hi) j v
 rw [List.set_cons_succ, List.set_append_left _ _ hl] at this
 exact ⟨h1, u, all, k, at_, h2, h3, h4, h5, h6, this⟩
theorem Lg.perm {K' : List (Nat × Obj)} (h : Lg w V g σ W K) (hp : K.Perm K') : Lg w V g σ W K' := by
 obtain ⟨h1, v, all, i, at_, h2, h3, h4, h5, h6, h⟩ := h
 exact ⟨h1, v, all, i, at_, h2, h3, h4, h5, h6, h.perm (List.Perm.cons _ (hp.append_right W))⟩
theorem Lg.drop1 {p : Nat × Obj} (h : Lg w V g σ W (p :: K)) : Lg w V g σ W K := by
 obtain ⟨h1, v, all, i, at_, h2, h3, h4, h5, h6, h⟩ := h
 exact ⟨h1, v, all, i, at_, h2, h3, h4, h5, h6, (h.perm (List.Perm.swap _ _ _)).sub⟩
theorem Lg.cellK (h : Lg w V g σ W K) {i n : Nat} {A : Array Value} {t : TypeId} (hi : K[i]? = some (n, .cells A t (0, 0))) (j : Nat) : V.cell? ⟨n, j, none⟩ = A[j]? := by
 have hl : i < K.length := by
  rcases Nat.lt_or_ge i K.length with h | h
  ·exact h
  ·rw [List.getElem?_eq_none h] at hi; cases hi
 exact h.mem.cell i (by rw [List.getElem?_append_left hl]; exact hi) j
theorem Lg.freeK (h : Lg w V g σ W K) {i n : Nat} {A : Array Value} {t : TypeId} (hi : K[i]? = some (n, .cells A t (0, 0))) (j : Nat) : V.frozen? ⟨n, j, none⟩ = false := by
 have hl : i < K.length := by
  rcases Nat.lt_or_ge i K.length with h | h
  ·exact h
  ·rw [List.getElem?_eq_none h] at hi; cases hi
 exact h.mem.free i (by rw [List.getElem?_append_left hl]; exact hi) j
theorem Lg.there (h : Lg w V g σ W K) {i n : Nat} {A : Array Value} {t : TypeId} (hi : K[i]? = some (n, .cells A t (0, 0))) (o m : Nat) (hm : o + m ≤ A.size) : V.there n o m := by
 intro j hj
 refine ⟨?_, h.freeK hi _⟩
 rw [h.cellK hi, Array.getElem?_eq_getElem (by omega)]
 rfl
theorem Lg.setCells : ∀ (vs : List Value) (o : Nat) {i n : Nat} {A : Array Value} {t : TypeId} {K : List (Nat × Obj)} {V : World}, Lg w V g σ W K → K[i]? = some (n, .cells A t (0, 0)) → Lg w (V.setCells n o vs) g σ W (K.set i (n, .cells (stL A o vs) t (0, 0)))
 | [], o, i, n, A, t, K, V, h, hi => by
  have : K.set i (n, .cells A t (0, 0)) = K := by
   apply List.ext_getElem?
   intro j
   by_cases e : i = j
   ·subst e; rw [hi, List.getElem?_set_self' ]; simp [hi]
   ·rw [List.getElem?_set_ne e]
  show Lg w V g σ W (K.set i (n, .cells A t (0, 0)))
  rw [this]; exact h
 | v :: r, o, i, n, A, t, K, V, h, hi => by
  have h1 := h.set hi o v
  have hl : i < K.length := by
   rcases Nat.lt_or_ge i K.length with h | h
   ·exact h
   ·rw [List.getElem?_eq_none h] at hi; cases hi
  have h2 := Lg.setCells r (o + 1) h1 (by rw [List.getElem?_set_self hl])
  rw [List.set_set] at h2
  exact h2
end
theorem WIn.at {K : List (Nat × Obj)} {v : Value} {ws : List Wd} (h : WIn K v ws) {i : Nat} {x : Wd} (hx : ws[i]? = some x) : ∃ b off c, v = .slice (some ⟨b, off, none⟩) ws.length c ∧ ws.length ≤ c ∧ ∀ w V, Mem w V K → V.cell? ⟨b, off + i * 2, none⟩ = some (.string x.1) ∧ V.cell? ⟨b, off + i * 2 + 1, none⟩ = some (.int .i64 x.2) := by
 obtain ⟨a, c, e, h2, h3, h4⟩ := h
 rcases h4 with h | ⟨b, off, A, T, rfl, hm, hc⟩
 ·subst h; simp at hx
 ·refine ⟨b, off, c, e, h2, fun w V hV => ?_⟩
  have hat := hV.at_ _ hm
  obtain ⟨k1, k2⟩ := hc i x hx
  rw [show off + i * 2 = off + 2 * i by omega]
  refine ⟨?_, ?_⟩
  ·rw [cell_of hat]; exact k1
  ·rw [cell_of hat]; exact k2
set_option maxHeartbeats 2000000 in
theorem rfail_any {w V : World} {g : Nat} {σ : Sg} {W K : List (Nat × Obj)} (h : Lg w V g σ W K) (a : Nat) :
  Calls Tryz.prog 29 #[.pointer (some ⟨g, 0, none⟩), .int .i64 (a : Int)] V fun e V' => e = .returned (.tuple #[]) ∧ Lg w V' g (σ.fail a) W K := by
 obtain ⟨h1, v, all, i, at_, h2, h3, h4, h5, h6, hM⟩ := h
 have d4 : V.cell? ⟨g, 4, none⟩ = some (.bool σ.bad.isSome) := hM.cell 0 rfl 4
 have d3 : V.cell? ⟨g, 3, none⟩ = some (.int .i64 at_) := hM.cell 0 rfl 3
 have kf := hM.free 0 rfl
 cases hb : σ.bad with
 | some a' =>
  have hf : σ.fail a = σ := by unfold Sg.fail; rw [hb]; obtain ⟨x, y, z⟩ := σ; simp only at hb; subst hb; rfl
  rw [hf]
  have HL : Hid (Lg w V g σ W K) := ⟨h1, v, all, i, at_, h2, h3, h4, h5, h6, hM⟩
  rw [hb] at d4
  simp only [Option.isSome_some] at d4
  clear hM h1 h2 h3 h4 h5 h6 hf hb
  go_enter Tryz.func29, Tryz.ntmps29
  go_wp2_with fail
  go_end0
  exact ⟨rfl, HL.out⟩
 | none =>
  rw [hb] at hM d4
  simp only [Option.isSome_none] at hM d4
  have hM2 := (hM.set 0 rfl 4 (.bool true)).set 0 rfl 3 (.int .i64 a)
  have e3 : (V.setCell ⟨g, 4, none⟩ (.bool true)).cell? ⟨g, 3, none⟩ = some (.int .i64 at_) := (hM.set 0 rfl 4 (.bool true)).cell 0 rfl 3
  have ef := (hM.set 0 rfl 4 (.bool true)).free 0 rfl
  have HL : Hid (Lg w ((V.setCell ⟨g, 4, none⟩ (.bool true)).setCell ⟨g, 3, none⟩ (.int .i64 a)) g (σ.fail a) W K) := by
   refine ⟨h1, v, all, i, a, h2, h3, h4, h5, fun a' e => ?_, ?_⟩
   ·unfold Sg.fail at e; rw [hb] at e; cases e; rfl
   ·unfold Sg.fail; rw [hb]; exact hM2
  clear hM hM2 h1 h2 h3 h4 h5 h6 hb
  go_enter Tryz.func29, Tryz.ntmps29
  go_wp2_with fail
  go_end0
  exact ⟨rfl, HL.out⟩
set_option maxHeartbeats 4000000 in
theorem rword_any {w V : World} {g : Nat} {σ : Sg} {W K : List (Nat × Obj)} (h : Lg w V g σ W K) :
  Calls Tryz.prog 51 #[.pointer (some ⟨g, 0, none⟩)] V fun e V' => e = .returned (.agg #[.string (La.wd σ).1, .int .i64 (La.wd σ).2]) ∧ Lg w V' g (nxt σ) W K := by
 obtain ⟨g0, hg0⟩ : ∃ g0, V.heap.size = g0 := ⟨_, rfl⟩
 have HP : Hid (Lg w (V.alloc (.cells #[.string ⟨#[]⟩, .int .i64 0] 79)) g σ W ((g0, .cells #[.string ⟨#[]⟩, .int .i64 0] 79) :: K)) := h.push _ hg0.symm
 cases hws : σ.ws with
 | nil =>
  have hwd : La.wd σ = (⟨#[]⟩, σ.fin) := by unfold La.wd; rw [hws]
  have hnx : nxt σ = σ.fail σ.fin := by unfold nxt; rw [hws]
  rw [hwd, hnx]
  clear h hwd hnx
  go_enter Tryz.func51, Tryz.ntmps51
  go_upto_region 1 with fail
  refine wp_letter (fun X => Lg w X g σ W ((g0, .cells #[.string ⟨#[]⟩, .int .i64 0] 79) :: K)) (by exact HP.out) ?_
  intro V1 hR
  try simp only [hg0]
  have CF : ∀ q, Calls Tryz.prog 29 #[.pointer (some ⟨g, 0, none⟩), .int .i64 (σ.fin : Int)] (V1.drewN q) fun e V' => e = .returned (.tuple #[]) ∧ Lg w V' g (σ.fail σ.fin) W ((g0, .cells #[.string ⟨#[]⟩, .int .i64 0] 79) :: K) := fun q => rfail_any (hR.drewN q) σ.fin
  obtain ⟨h1, v, all, i, at_, h2, h3, h4, h5, h6, hM⟩ := hR
  obtain ⟨a, c, rfl, hc1, -, -⟩ := h2
  have hil : i = all.length := by
   have := congrArg List.length h5
   rw [hws, List.length_drop, List.length_nil] at this
   omega
  have d0 : V1.cell? ⟨g, 0, none⟩ = some (.slice a all.length c) := hM.cell 0 rfl 0
  have d1 : V1.cell? ⟨g, 1, none⟩ = some (.int .i64 i) := hM.cell 0 rfl 1
  have d2 : V1.cell? ⟨g, 2, none⟩ = some (.int .i64 σ.fin) := hM.cell 0 rfl 2
  rw [hil] at d1
  have hge : (all.length : Int) ≤ all.length := by omega
  clear HP hg0 h1 h3 h4 h5 h6 hM hil
  go_quiet (fail)
  go_wp2_with fail
  refine (CF _).mono ?_
  rintro e V2 ⟨rfl, hR2⟩
  have HR2 : Hid (Lg w V2 g (σ.fail σ.fin) W ((g0, .cells #[.string ⟨#[]⟩, .int .i64 0] 79) :: K)) := hR2
  have e2 : V2.cell? ⟨g, 2, none⟩ = some (.int .i64 σ.fin) := by
   obtain ⟨-, v', all', i', at', -, -, -, -, -, hM⟩ := hR2
   exact hM.cell 0 rfl 2
  have f0 : V2.cell? ⟨g0, 0, none⟩ = some (.string ⟨#[]⟩) := hR2.cellK (i := 0) rfl 0
  have f1 : V2.cell? ⟨g0, 1, none⟩ = some (.int .i64 0) := hR2.cellK (i := 0) rfl 1
  have fr := hR2.freeK (i := 0) rfl
  clear hR2 CF d0 d1 d2
  go_wp2_with fail
  refine post_let (fun X => Lg w X g (σ.fail σ.fin) W ((g0, .cells #[.string ⟨#[]⟩, .int .i64 σ.fin] 79) :: K)) ((HR2.out.set (i := 0) rfl 0 _).set (i := 0) rfl 1 _) ?_
  intro V4 hM
  have k0 : V4.cell? ⟨g0, 0, none⟩ = some (.string ⟨#[]⟩) := hM.cellK (i := 0) rfl 0
  have k1 : V4.cell? ⟨g0, 1, none⟩ = some (.int .i64 σ.fin) := hM.cellK (i := 0) rfl 1
  exact bodyPost_ret (v := .agg #[.string ⟨#[]⟩, .int .i64 σ.fin]) (by simp [results, Tryz.results51, go_sem, k0, k1]) rfl ⟨rfl, hM.drop1⟩
 | cons x r =>
  have hwd : La.wd σ = x := by unfold La.wd; rw [hws]
  have hnx : nxt σ = ⟨r, σ.fin, σ.bad⟩ := by unfold nxt; rw [hws]
  rw [hwd, hnx]
  obtain ⟨x1, x2⟩ := x
  clear h hwd hnx
  go_enter Tryz.func51, Tryz.ntmps51
  go_upto_region 1 with fail
  refine wp_letter (fun X => Lg w X g σ W ((g0, .cells #[.string ⟨#[]⟩, .int .i64 0] 79) :: K)) (by exact HP.out) ?_
  intro V1 hR
  try simp only [hg0]
  obtain ⟨h1, v, all, i, at_, h2, h3, h4, h5, h6, hM⟩ := hR
  have hxi : all[i]? = some (x1, x2) := by
   have := congrArg List.head? h5
   rw [hws, List.head?_drop] at this
   exact this.symm
  have hr : r = all.drop (i + 1) := by
   have := congrArg List.tail h5
   rw [hws, List.tail_drop] at this
   exact this
  have hil : i < all.length := (List.getElem?_eq_some_iff.1 hxi).1
  obtain ⟨b, off, c, rfl, hc1, hcl⟩ := h2.at hxi
  obtain ⟨n, hn⟩ : ∃ n, all.length = n := ⟨_, rfl⟩
  rw [hn] at hM hc1 h3 h4 hil h2
  have d0 : V1.cell? ⟨g, 0, none⟩ = some (.slice (some ⟨b, off, none⟩) n c) := hM.cell 0 rfl 0
  have d1 : V1.cell? ⟨g, 1, none⟩ = some (.int .i64 i) := hM.cell 0 rfl 1
  have kf := hM.free 0 rfl
  have hge : ¬ ((n : Int) ≤ i) := by omega
  have hiz : (i : Int) < n := by omega
  have w1 : IntKind.i64.wrap ((i : Int) + 1) = ((i + 1 : Nat) : Int) := by rw [wrap64 (by omega) (by omega)]; omega
  have hi0 : (0 : Int) ≤ i := by omega
  have w0 : IntKind.i64.wrap (i : Int) = (i : Int) := by rw [wrap64 (by omega) (by omega)]
  have w2 : IntKind.i64.wrap (((i + 1 : Nat) : Int) - 1) = (i : Int) := by rw [wrap64 (by omega) (by omega)]; omega
  have HF : Hid (∀ q, Mem w ((V1.drewN q).setCell ⟨g, 1, none⟩ (.int .i64 ((i + 1 : Nat) : Int))) ((g, .cells (lgc (.slice (some ⟨b, off, none⟩) n c) (i + 1) σ.fin at_ σ.bad.isSome) 69) :: ((g0, .cells #[.string ⟨#[]⟩, .int .i64 0] 79) :: K ++ W))) := fun q => (hM.drewN q).set 0 rfl 1 _
  have HC : Hid (∀ w V, Mem w V W → V.cell? ⟨b, off + i * 2, none⟩ = some (.string x1) ∧ V.cell? ⟨b, off + i * 2 + 1, none⟩ = some (.int .i64 x2)) := hcl
  have HQ : Hid ((∀ x ∈ r, x.1.size ≤ 32768) ∧ WIn W (.slice (some ⟨b, off, none⟩) n c) all ∧ i + 1 ≤ all.length ∧ all.length ≤ 900000 ∧ r = all.drop (i + 1) ∧ ∀ a, σ.bad = some a → at_ = a) := ⟨fun y hy => h1 y (by rw [hws]; simp [hy]), h2, by omega, by omega, hr, h6⟩
  clear HP hg0 h1 h2 h3 h4 h5 h6 hM hcl hr hws hxi
  go_quiet (fail)
  go_upto_region 5 with fail
  refine wp_letter (fun X => Mem w X ((g, .cells (lgc (.slice (some ⟨b, off, none⟩) n c) (i + 1) σ.fin at_ σ.bad.isSome) 69) :: ((g0, .cells #[.string ⟨#[]⟩, .int .i64 0] 79) :: K ++ W))) (by exact HF.out _) ?_
  intro V2 hM
  clear d0 d1 kf
  have d0 : V2.cell? ⟨g, 0, none⟩ = some (.slice (some ⟨b, off, none⟩) n c) := hM.cell 0 rfl 0
  have d1 : V2.cell? ⟨g, 1, none⟩ = some (.int .i64 ((i + 1 : Nat) : Int)) := hM.cell 0 rfl 1
  obtain ⟨c0, c1⟩ := HC.out _ _ hM.sub.sub.dropA
  have f0 : V2.cell? ⟨g0, 0, none⟩ = some (.string ⟨#[]⟩) := hM.cell 1 rfl 0
  have f1 : V2.cell? ⟨g0, 1, none⟩ = some (.int .i64 0) := hM.cell 1 rfl 1
  have fr := hM.free 1 rfl
  have hM4 : Mem w (((V2.setCell ⟨g0, 0, none⟩ (.string x1)).setCell ⟨g0, 1, none⟩ (.int .i64 x2)).drew) ((g, .cells (lgc (.slice (some ⟨b, off, none⟩) n c) (i + 1) σ.fin at_ σ.bad.isSome) 69) :: ((g0, .cells #[.string x1, .int .i64 x2] 79) :: K ++ W)) := ((hM.set 1 rfl 0 (.string x1)).set 1 rfl 1 (.int .i64 x2)).drew
  have HM4 : Hid _ := hM4
  have HSS : Hid ((((V2.setCell ⟨g0, 0, none⟩ (.string x1)).setCell ⟨g0, 1, none⟩ (.int .i64 x2)).drew).cell? ⟨g, 0, none⟩ = some (.slice (some ⟨b, off, none⟩) n c) ∧ (((V2.setCell ⟨g0, 0, none⟩ (.string x1)).setCell ⟨g0, 1, none⟩ (.int .i64 x2)).drew).cell? ⟨g, 1, none⟩ = some (.int .i64 ((i + 1 : Nat) : Int)) ∧ (((V2.setCell ⟨g0, 0, none⟩ (.string x1)).setCell ⟨g0, 1, none⟩ (.int .i64 x2)).drew).cell? ⟨b, off + i * 2, none⟩ = some (.string x1) ∧ (((V2.setCell ⟨g0, 0, none⟩ (.string x1)).setCell ⟨g0, 1, none⟩ (.int .i64 x2)).drew).cell? ⟨b, off + i * 2 + 1, none⟩ = some (.int .i64 x2)) := ⟨hM4.cell 0 rfl 0, hM4.cell 0 rfl 1, (HC.out _ _ hM4.sub.sub.dropA).1, (HC.out _ _ hM4.sub.sub.dropA).2⟩
  clear hM hM4
  refine wp_region_held_drew (S := fun X => X.cell? ⟨g, 0, none⟩ = some (.slice (some ⟨b, off, none⟩) n c) ∧ X.cell? ⟨g, 1, none⟩ = some (.int .i64 ((i + 1 : Nat) : Int)) ∧ X.cell? ⟨b, off + i * 2, none⟩ = some (.string x1) ∧ X.cell? ⟨b, off + i * 2 + 1, none⟩ = some (.int .i64 x2)) (by kernel_rfl) ⟨d0, d1, c0, c1⟩ (fun hHeld => ?_)
  refine wpAnyH_take (i := 0) (v := ?_) rfl (by kernel_rfl) (by kernel_rfl) (by kernel_rfl) (fun _ _ _ h => h) (Or.inl ⟨by rfl, ?qy0⟩) (by assumption) ?qr0
  case qy0 => intro w hSw; (try dsimp only at hSw); go_simp; all_goals with_reducible rfl
  try simp only [getElem_toArray, getElem_cons_zero, getElem_cons_succ, Act.put, setIfInBounds_toArray, set_cons_zero, set_cons_succ]
  refine wpAnyH_take (i := 1) (v := ?_) rfl (by kernel_rfl) (by kernel_rfl) (by kernel_rfl) (fun _ _ _ h => h) (Or.inl ⟨by rfl, ?qy1⟩) (by assumption) ?qr1
  case qy1 => intro w hSw; (try dsimp only at hSw); go_simp; all_goals with_reducible rfl
  try simp only [getElem_toArray, getElem_cons_zero, getElem_cons_succ, Act.put, setIfInBounds_toArray, set_cons_zero, set_cons_succ]
  refine wpAnyH_take (i := 2) (v := ?_) rfl (by kernel_rfl) (by kernel_rfl) (by kernel_rfl) (fun _ _ _ h => h) (Or.inl ⟨by rfl, ?qy2⟩) (by assumption) ?qr2
  case qy2 => intro w hSw; (try dsimp only at hSw); go_simp; all_goals with_reducible rfl
  try simp only [getElem_toArray, getElem_cons_zero, getElem_cons_succ, Act.put, setIfInBounds_toArray, set_cons_zero, set_cons_succ]
  refine wpAnyH_take (i := 3) (v := ?_) rfl (by kernel_rfl) (by kernel_rfl) (by kernel_rfl) (fun _ _ _ h => h) (Or.inl ⟨by rfl, ?qy3⟩) (by assumption) ?qr3
  case qy3 => intro w hSw; (try dsimp only at hSw); go_simp; all_goals with_reducible rfl
  try simp only [getElem_toArray, getElem_cons_zero, getElem_cons_succ, Act.put, setIfInBounds_toArray, set_cons_zero, set_cons_succ]
  refine wpAnyH_take (i := 4) (v := ?_) rfl (by kernel_rfl) (by kernel_rfl) (by kernel_rfl) (fun _ _ _ h => h) (Or.inl ⟨by rfl, ?qy4⟩) (by assumption) ?qr4
  case qy4 => intro w hSw; (try dsimp only at hSw); go_simp; all_goals with_reducible rfl
  try simp only [getElem_toArray, getElem_cons_zero, getElem_cons_succ, Act.put, setIfInBounds_toArray, set_cons_zero, set_cons_succ]
  refine wpAnyH_take (i := 5) (v := ?_) rfl (by kernel_rfl) (by kernel_rfl) (by kernel_rfl) (fun _ _ _ h => h) (Or.inl ⟨by rfl, ?qy5⟩) (by assumption) ?qr5
  case qy5 => intro w hSw; (try dsimp only at hSw); go_simp; all_goals with_reducible rfl
  try simp only [getElem_toArray, getElem_cons_zero, getElem_cons_succ, Act.put, setIfInBounds_toArray, set_cons_zero, set_cons_succ]
  refine wpAnyH_take (i := 6) (v := ?_) rfl (by kernel_rfl) (by kernel_rfl) (by kernel_rfl) (fun _ _ _ h => h) (Or.inl ⟨by rfl, ?qy6⟩) (by assumption) ?qr6
  case qy6 => intro w hSw; (try dsimp only at hSw); go_simp; all_goals with_reducible rfl
  try simp only [getElem_toArray, getElem_cons_zero, getElem_cons_succ, Act.put, setIfInBounds_toArray, set_cons_zero, set_cons_succ]
  refine wpAnyH_take (i := 7) (v := ?_) rfl (by kernel_rfl) (by kernel_rfl) (by kernel_rfl) (fun _ _ _ h => h) (Or.inl ⟨by rfl, ?qy7⟩) (by assumption) ?qr7
  case qy7 => intro w hSw; (try dsimp only at hSw); go_simp; all_goals with_reducible rfl
  try simp only [getElem_toArray, getElem_cons_zero, getElem_cons_succ, Act.put, setIfInBounds_toArray, set_cons_zero, set_cons_succ]
  refine wpAnyH_take (i := 8) (v := ?_) rfl (by kernel_rfl) (by kernel_rfl) (by kernel_rfl) (fun _ _ _ h => h) (Or.inl ⟨by rfl, ?qy8⟩) (by assumption) ?qr8
  case qy8 => intro w hSw; (try dsimp only at hSw); go_simp; all_goals with_reducible rfl
  try simp only [getElem_toArray, getElem_cons_zero, getElem_cons_succ, Act.put, setIfInBounds_toArray, set_cons_zero, set_cons_succ]
  refine wpAnyH_take (i := 9) (v := ?_) rfl (by kernel_rfl) (by kernel_rfl) (by kernel_rfl) (fun _ _ _ h => h) (Or.inl ⟨by rfl, ?qy9⟩) (by assumption) ?qr9
  case qy9 => intro w hSw; (try dsimp only at hSw); go_simp; all_goals with_reducible rfl
  try simp only [getElem_toArray, getElem_cons_zero, getElem_cons_succ, Act.put, setIfInBounds_toArray, set_cons_zero, set_cons_succ]
  refine wpAnyH_take (i := 10) (v := ?_) rfl (by kernel_rfl) (by kernel_rfl) (by kernel_rfl) (fun _ _ _ h => h) (Or.inl ⟨by rfl, ?qy10⟩) (by assumption) ?qr10
  case qy10 => intro w hSw; (try dsimp only at hSw); go_simp; all_goals with_reducible rfl
  try simp only [getElem_toArray, getElem_cons_zero, getElem_cons_succ, Act.put, setIfInBounds_toArray, set_cons_zero, set_cons_succ]
  refine wpAnyH_ready (rs := [11]) (by kernel_rfl) (by simp) ?_
  refine AllReadyH.cons rfl (fun KK hK => ?_) AllReadyH.nil
  go_simp
  refine hK.out _ _ HSS.out (fun hHeld => ?_)
  clear hK KK
  try simp only [getElem_toArray, getElem_cons_zero, getElem_cons_succ, Act.put, setIfInBounds_toArray, set_cons_zero, set_cons_succ]
  refine wpAnyH_done (by kernel_rfl) ?_ _
  go_wp2_with fail
  refine post_let (fun X => Mem w X ((g, .cells (lgc (.slice (some ⟨b, off, none⟩) n c) (i + 1) σ.fin at_ σ.bad.isSome) 69) :: ((g0, .cells #[.string x1, .int .i64 x2] 79) :: K ++ W))) (by exact HM4.out) ?_
  intro V4 hM
  have k0 : V4.cell? ⟨g0, 0, none⟩ = some (.string x1) := hM.cell 1 rfl 0
  have k1 : V4.cell? ⟨g0, 1, none⟩ = some (.int .i64 x2) := hM.cell 1 rfl 1
  obtain ⟨q1, q2, q3, q4, q5, q6⟩ := HQ.out
  exact bodyPost_ret (v := .agg #[.string x1, .int .i64 x2]) (by simp [results, Tryz.results51, go_sem, k0, k1]) rfl ⟨rfl, q1, _, all, i + 1, at_, q2, q3, q4, q5, q6, (hM.perm (List.Perm.swap _ _ _)).sub⟩
end Go.Proofs.YtneciccdiledfaaGreatDoor
