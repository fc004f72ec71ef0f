/-
  Wheel: a script's acts; both wheels, the act's box beside.
-/
import Derived.Test.YtfplmefcblkljaaWhFace
namespace Go.Proofs.Ytfplmefcblkljaa
open Go.RowKit
open Sm
open Po
open Wh
set_option linter.unusedVariables false
set_option linter.unusedSimpArgs false
set_option maxRecDepth 20000

namespace Wh
structure A18 where
  what : Int
  id : Int
  ahead : Int
  raw : Bool
def ac18 (x : A18) : List Value := [.int .i64 x.what, .int .i64 x.id, .int .u32 x.ahead, .bool x.raw]
def A18W (x : A18) : Prop := (-9223372036854775808 ≤ x.id ∧ x.id ≤ 9223372036854775807) ∧ (0 ≤ x.ahead ∧ x.ahead ≤ 4294967295)
/-- Acts in a slice. -/
def Acts18 (W : World) (a : Option Addr) (n : Nat) (X : Nat → A18) : Prop :=
  ∀ i, i < n → A18W (X i) ∧ ∃ b off, a = some ⟨b, off, none⟩ ∧ ∀ j u, (ac18 (X i))[j]? = some u → W.cell? ⟨b, off + i * 4 + j, none⟩ = some u
theorem Acts18.at_ {W V : World} {a : Option Addr} {n : Nat} {X : Nat → A18} (h : Acts18 W a n X) (hb : Below W.heap.size W V) (i : Nat) (hi : i < n) :
    A18W (X i) ∧ ∃ b off, a = some ⟨b, off, none⟩ ∧ V.cell? ⟨b, off + i * 4, none⟩ = some (.int .i64 (X i).what) ∧ V.cell? ⟨b, off + i * 4 + 1, none⟩ = some (.int .i64 (X i).id) ∧ V.cell? ⟨b, off + i * 4 + 2, none⟩ = some (.int .u32 (X i).ahead) ∧ V.cell? ⟨b, off + i * 4 + 3, none⟩ = some (.bool (X i).raw) := by
  obtain ⟨hx, b, off, e, hc⟩ := h i hi
  have t : ∀ j u, (ac18 (X i))[j]? = some u → V.cell? ⟨b, off + i * 4 + j, none⟩ = some u := fun j u hj => by
    have := hc j u hj
    rw [hb.cell (p := ⟨b, off + i * 4 + j, none⟩) (cell_lt this)]
    exact this
  exact ⟨hx, b, off, e, t 0 _ rfl, t 1 _ rfl, t 2 _ rfl, t 3 _ rfl⟩
section
variable {PS : List Du → Int → Nat → List (Nat × Obj) → Prop} {W V : World} {p pm : Nat} {xs : List Du} {now : Int}
/-- Both wheels side by side. -/
def Bp (PS : List Du → Int → Nat → List (Nat × Obj) → Prop) (w : World) (p m : Nat) (xs : List Du) (now : Int) (V : World) : Prop :=
  ∃ B Bm, PS xs now p B ∧ RW xs now m Bm ∧ Mem w V (B ++ Bm)
/-- And a box beside. -/
def Bx (PS : List Du → Int → Nat → List (Nat × Obj) → Prop) (w : World) (p m : Nat) (G : Nat × Obj) (xs : List Du) (now : Int) (V : World) : Prop :=
  ∃ B Bm, PS xs now p B ∧ RW xs now m Bm ∧ Mem w V (G :: (B ++ Bm))
theorem Bp.below (h : Bp PS W p pm xs now V) : Below W.heap.size W V := by
  obtain ⟨B, Bm, -, -, hM⟩ := h
  exact hM.below
theorem Bp.box (h : Bp PS W p pm xs now V) {g : Nat} (hg : V.heap.size = g) (c : Array Value) {T : TypeId} : Bx PS W p pm (g, .cells c T (0, 0)) xs now (V.alloc (.cells c T)) := by
  obtain ⟨B, Bm, h1, h2, hM⟩ := h
  exact ⟨B, Bm, h1, h2, (hM.push g _ hg.symm).perm List.perm_append_comm⟩
theorem Bx.gcell {g : Nat} {c : Array Value} {T : TypeId} (h : Bx PS W p pm (g, .cells c T (0, 0)) xs now V) (j : Nat) : V.cell? ⟨g, j, none⟩ = c[j]? := by
  obtain ⟨B, Bm, -, -, hM⟩ := h
  exact hM.cell 0 rfl j
theorem Bx.mcell {G : Nat × Obj} (h : Bx PS W p pm G xs now V) : ∃ qa qc, V.cell? ⟨pm, 0, none⟩ = some (.slice qa xs.length qc) ∧ V.cell? ⟨pm, 1, none⟩ = some (.int .u32 now) ∧ qc ≤ 9223372036854775807 := by
  obtain ⟨B, Bm, -, h2, hM⟩ := h
  obtain ⟨a, cap, c0, c1, -, h3, -⟩ := h2.box (hM.sub.perm List.perm_append_comm)
  exact ⟨a, cap, c0, c1, by simp only [maxLen] at h3; omega⟩
theorem Bx.drewN {G : Nat × Obj} (h : Bx PS W p pm G xs now V) (n : Nat) : Bx PS W p pm G xs now (V.drewN n) := by
  obtain ⟨B, Bm, h1, h2, hM⟩ := h
  exact ⟨B, Bm, h1, h2, hM.drewN n⟩
theorem Bx.drew {G : Nat × Obj} (h : Bx PS W p pm G xs now V) : Bx PS W p pm G xs now V.drew := by
  obtain ⟨B, Bm, h1, h2, hM⟩ := h
  exact ⟨B, Bm, h1, h2, hM.drew⟩
theorem Bx.out {G : Nat × Obj} (h : Bx PS W p pm G xs now V) : Bp PS W p pm xs now V := by
  obtain ⟨B, Bm, h1, h2, hM⟩ := h
  exact ⟨B, Bm, h1, h2, hM.sub⟩
/-- The program's is ahead: it has what the other gets next. -/
def By (PS : List Du → Int → Nat → List (Nat × Obj) → Prop) (w : World) (p m : Nat) (G : Nat × Obj) (ys : List Du) (now' : Int) (xs : List Du) (now : Int) (V : World) : Prop :=
  ∃ B Bm, PS ys now' p B ∧ RW xs now m Bm ∧ Mem w V (G :: (B ++ Bm))
theorem By.gcell {g : Nat} {c : Array Value} {T : TypeId} {ys : List Du} {now' : Int} (h : By PS W p pm (g, .cells c T (0, 0)) ys now' xs now V) (j : Nat) : V.cell? ⟨g, j, none⟩ = c[j]? := by
  obtain ⟨B, Bm, -, -, hM⟩ := h
  exact hM.cell 0 rfl j
theorem pg {α : Type} [BEq α] [LawfulBEq α] (G : α) (B L : List α) : List.Perm (G :: (B ++ L)) (B ++ (G :: L)) := List.perm_middle.symm
theorem pg2 (G : Nat × Obj) (B L : List (Nat × Obj)) : List.Perm (G :: (B ++ L)) (L ++ (G :: B)) := by
  have h : List.Perm (G :: (B ++ L)) (G :: (L ++ B)) := List.Perm.cons G List.perm_append_comm
  exact h.trans List.perm_middle.symm
theorem bx_set (hc : WC W PS) {G : Nat × Obj} (h : Bx PS W p pm G xs now V) (hl : xs.length ≤ 1000) (id t : Int) (hid : -9223372036854775808 ≤ id ∧ id ≤ 9223372036854775807) (ht : 0 ≤ t ∧ t ≤ 4294967295) :
    Calls Try.prog 9 #[.pointer (some ⟨p, 0, none⟩), .int .i64 id, .int .u32 t] V fun e V' => e = .returned (.tuple #[]) ∧ By PS W p pm G (wset xs id t) now xs now V' := by
  obtain ⟨B, Bm, h1, h2, hM⟩ := h
  refine (hc.set h1 (hM.perm List.perm_middle.symm) hl id t hid ht).mono ?_
  rintro e V' ⟨rfl, B', h3, m3⟩
  exact ⟨rfl, B', Bm, h3, h2, m3.perm List.perm_middle⟩
theorem bxm_set {G : Nat × Obj} {ys : List Du} {now' : Int} (h : By PS W p pm G ys now' xs now V) (hl : xs.length ≤ 1000) (id t : Int) :
    Calls Try.prog 10 #[.pointer (some ⟨pm, 0, none⟩), .int .i64 id, .int .u32 t] V fun e V' => e = .returned (.tuple #[]) ∧ By PS W p pm G ys now' (wset xs id t) now V' := by
  obtain ⟨B, Bm, h1, h2, hM⟩ := h
  refine (rset_any h2 (hM.perm (pg2 _ _ _)) (by omega) id t).mono ?_
  rintro e V' ⟨rfl, B', h3, m3⟩
  exact ⟨rfl, B, B', h1, h3, m3.perm (pg2 _ _ _).symm⟩
theorem bx_drop (hc : WC W PS) {G : Nat × Obj} (h : Bx PS W p pm G xs now V) (hl : xs.length ≤ 1000) (id : Int) (hid : -9223372036854775808 ≤ id ∧ id ≤ 9223372036854775807) :
    Calls Try.prog 11 #[.pointer (some ⟨p, 0, none⟩), .int .i64 id] V fun e V' => e = .returned (.bool (wat id xs).isSome) ∧ By PS W p pm G (wdel id xs) now xs now V' := by
  obtain ⟨B, Bm, h1, h2, hM⟩ := h
  refine (hc.drop h1 (hM.perm List.perm_middle.symm) hl id hid).mono ?_
  rintro e V' ⟨rfl, B', h3, m3⟩
  exact ⟨rfl, B', Bm, h3, h2, m3.perm List.perm_middle⟩
theorem bxm_drop {G : Nat × Obj} {ys : List Du} {now' : Int} (h : By PS W p pm G ys now' xs now V) (hl : xs.length ≤ 1000) (id : Int) :
    Calls Try.prog 12 #[.pointer (some ⟨pm, 0, none⟩), .int .i64 id] V fun e V' => e = .returned (.bool (wat id xs).isSome) ∧ By PS W p pm G ys now' (wdel id xs) now V' := by
  obtain ⟨B, Bm, h1, h2, hM⟩ := h
  refine (rdrop_any h2 (hM.perm (pg2 _ _ _)) (by omega) id).mono ?_
  rintro e V' ⟨rfl, B', h3, m3⟩
  exact ⟨rfl, B, B', h1, h3, m3.perm (pg2 _ _ _).symm⟩
theorem By.bx {G : Nat × Obj} (h : By PS W p pm G xs now xs now V) : Bx PS W p pm G xs now V := h
theorem bx_at (hc : WC W PS) {G : Nat × Obj} (h : Bx PS W p pm G xs now V) (hl : xs.length ≤ 1000) (id : Int) (hid : -9223372036854775808 ≤ id ∧ id ≤ 9223372036854775807) :
    Calls Try.prog 16 #[.pointer (some ⟨p, 0, none⟩), .int .i64 id] V fun e V' => e = .returned (.tuple #[.int .u32 ((wat id xs).getD 0), .bool (wat id xs).isSome]) ∧ Bx PS W p pm G xs now V' := by
  obtain ⟨B, Bm, h1, h2, hM⟩ := h
  refine (hc.at_ h1 (hM.perm List.perm_middle.symm) hl id hid).mono ?_
  rintro e V' ⟨rfl, B', h3, m3⟩
  exact ⟨rfl, B', Bm, h3, h2, m3.perm List.perm_middle⟩
theorem bxm_at {G : Nat × Obj} (h : Bx PS W p pm G xs now V) (id : Int) :
    Calls Try.prog 17 #[.pointer (some ⟨pm, 0, none⟩), .int .i64 id] V fun e V' => e = .returned (.tuple #[.int .u32 ((wat id xs).getD 0), .bool (wat id xs).isSome]) ∧ V = V' := by
  obtain ⟨B, Bm, h1, h2, hM⟩ := h
  exact rat_any h2 (hM.perm (pg2 _ _ _)) id
/-- What both tell at a tick, held against each other. -/
theorem bx_tick (hc : WC W PS) {G : Nat × Obj} (h : Bx PS W p pm G xs now V) (hl : xs.length ≤ 1000) (hn : 0 ≤ now ∧ now ≤ 4294967295) :
    Calls Try.prog 14 #[.pointer (some ⟨p, 0, none⟩)] V fun e V' => ∃ v D B Bm, e = .returned v ∧ RdI v (tout now xs) D ∧ PS (trest now xs) (tnow now) p B ∧ RW xs now pm Bm ∧ Mem W V' (D ++ (B ++ (G :: Bm))) := by
  obtain ⟨B, Bm, h1, h2, hM⟩ := h
  refine (hc.tick h1 (hM.perm List.perm_middle.symm) hl hn).mono ?_
  rintro e V' ⟨v, D, B', rfl, hv, h3, m3⟩
  exact ⟨v, D, B', Bm, rfl, hv, h3, h2, m3⟩
theorem ic_flat2 (l : List Int) : ic l = (ix l).flatten := by
  induction l with
  | nil => rfl
  | cons x l ih =>
    show Value.int .i64 x :: ic l = [Value.int .i64 x] ++ (ix l).flatten
    rw [ih]
    rfl
theorem slb_ix2 {w V : World} {T : TypeId} {v : Value} {l : List Int} {D L : List (Nat × Obj)} (h : SlB T 1 v l.length (ic l) D) (hM : Mem w V (D ++ L)) : Rw V 1 v (ix l) := by
  refine SlB.rw (T := T) (B := D) (L := L) (w := w) (fun x hx => ?_) ?_ hM
  · obtain ⟨y, -, rfl⟩ := List.mem_map.1 hx
    rfl
  · rw [ix_len, ← ic_flat2]
    exact h
theorem bxm_tick {G : Nat × Obj} {v : Value} {os : List Int} {ys : List Du} {now' : Int} {D B Bm : List (Nat × Obj)} (hv : RdI v os D) (h1 : PS ys now' p B) (h2 : RW xs now pm Bm) (hM : Mem W V (D ++ (B ++ (G :: Bm)))) (hl : xs.length ≤ 1000) (hn : 0 ≤ now ∧ now ≤ 4294967295) :
    Calls Try.prog 15 #[.pointer (some ⟨pm, 0, none⟩)] V fun e V' => ∃ v2, e = .returned v2 ∧ Rw V' 1 v (ix os) ∧ Rw V' 1 v2 (ix (tout now xs)) ∧ ∀ V2, Below V'.heap.size V' V2 → By PS W p pm G ys now' (trest now xs) (tnow now) V2 := by
  have hM1 : Mem W V (Bm ++ (D ++ (B ++ [G]))) := hM.perm (by
    classical
    rw [List.perm_iff_count]
    intro q
    simp only [List.count_append, List.count_cons, List.count_nil]
    omega)
  refine (rtick_any h2 hM1 (by omega) hn).mono ?_
  rintro e V' ⟨v2, D2, B2, rfl, hv2, h3, m3⟩
  refine ⟨v2, rfl, hv W V' (D2 ++ (B2 ++ (B ++ [G]))) (m3.perm ?_), slb_ix2 hv2 m3, fun V2 hb => ⟨B, B2, h1, h3, ?_⟩⟩
  · classical
    rw [List.perm_iff_count]
    intro q
    simp only [List.count_append, List.count_cons, List.count_nil]
    omega
  · have m4 := (m3.after hb).perm (show List.Perm _ ((G :: (B ++ B2)) ++ (D2 ++ D)) by
      classical
      rw [List.perm_iff_count]
      intro q
      simp only [List.cons_append, List.count_append, List.count_cons, List.count_nil]
      omega)
    exact ⟨m4.below, fun q hq => m4.low q (List.mem_append_left _ hq), fun q hq => m4.at_ q (List.mem_append_left _ hq), (List.nodup_append.mp (by have := m4.apart; rw [List.map_append] at this; exact this)).1⟩
end
end Wh
end Go.Proofs.Ytfplmefcblkljaa
