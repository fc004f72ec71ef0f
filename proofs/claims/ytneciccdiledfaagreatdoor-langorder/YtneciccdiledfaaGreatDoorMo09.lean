/-
  Hardware addresses as text: the program's Mac, at every text.
-/
import Derived.Test.YtneciccdiledfaaGreatDoorMo03
import Derived.Test.YtneciccdiledfaaGreatDoorMo08
import Derived.Test.YtneciccdiledfaaGreatDoorMo07
namespace Go.Proofs.YtneciccdiledfaaGreatDoor
open Go.RowKit
open Ad
open Sm (IsBytes)
set_option linter.unusedVariables false

namespace Ad
/-- Parts of two digits each, put into a row from a place on. -/
def fill : Nat → List Int → List (List UInt8) → Option (List Int)
  | _, l, [] => some l
  | i, l, p :: r => match two p with
    | none => none
    | some x => fill (i + 1) (l.set i (x : Int)) r
def mac (s : List UInt8) : Option (List Int) := if (cut 58 s).length = 6 then fill 0 [0, 0, 0, 0, 0, 0] (cut 58 s) else none
theorem fill_stop {i : Nat} {l : List Int} {p : List UInt8} {r : List (List UInt8)} (h : two p = none) : fill i l (p :: r) = none := by rw [fill, h]
theorem fill_on {i x : Nat} {l : List Int} {p : List UInt8} {r : List (List UInt8)} (h : two p = some x) : fill i l (p :: r) = fill (i + 1) (l.set i (x : Int)) r := by rw [fill, h]
theorem rh_one {p : List UInt8} {i : Nat} {l : List Int} (h0 : l.getD i 0 = 0) (hl : i < l.length) : (∃ x, two p = some x ∧ rh p i 1 l = (true, l.set i (x : Int))) ∨ (two p = none ∧ (rh p i 1 l).1 = false) := by
  unfold rh
  by_cases h2 : p.length = 2 * 1
  · rw [if_pos h2]
    obtain ⟨a, b, rfl⟩ : ∃ a b, p = [a, b] := by
      match p, h2 with
      | [a, b], _ => exact ⟨a, b, rfl⟩
    rcases rhGo_two (off := i) (k := 0) (a := a) (b := b) (t := []) (by simpa using h0) (by simpa using hl) with ⟨x, e1, e2⟩ | ⟨e1, e2⟩
    · refine Or.inl ⟨x, e1, ?_⟩
      have e2' : rhGo i 0 [a, b] l = rhGo i 2 [] (l.set i (x : Int)) := e2
      rw [e2', rhGo_nil]
    · exact Or.inr ⟨e1, e2⟩
  · rw [if_neg h2]
    exact Or.inr ⟨two_len (by omega), rfl⟩
end Ad
abbrev z6 : List Int := [0, 0, 0, 0, 0, 0]
def mv (o : Option (List Int)) : Value := .agg (ab (o.getD z6))
theorem Mem.add {w W : World} {L : List (Nat × Obj)} (h : Mem w W L) {g : Nat} {o : Obj} (hg : w.heap.size ≤ g) (ho : W.heap[g]? = some o) (hn : ∀ p ∈ L, p.1 ≠ g) : Mem w W ((g, o) :: L) := by
  refine ⟨h.below, fun p hp => ?_, fun p hp => ?_, ?_⟩
  · rcases List.mem_cons.1 hp with rfl | hp
    · exact hg
    · exact h.low p hp
  · rcases List.mem_cons.1 hp with rfl | hp
    · exact ho
    · exact h.at_ p hp
  · rw [List.map_cons, List.nodup_cons]
    refine ⟨fun hm => ?_, h.apart⟩
    obtain ⟨p, hp, e⟩ := List.mem_map.1 hm
    exact hn p hp e
theorem set_zeros {l : List Int} {i : Nat} {x : Int} (hz : ∀ j, i ≤ j → l.getD j 0 = 0) : ∀ j, i + 1 ≤ j → (l.set i x).getD j 0 = 0 := by
  intro j hj
  have := hz j (by omega)
  simpa [List.getD, List.getElem?_set_ne (show i ≠ j by omega)] using this
theorem z6_zeros : ∀ j, 0 ≤ j → (z6).getD j 0 = 0 := by
  intro j _
  match j with
  | 0 | 1 | 2 | 3 | 4 | 5 => rfl
  | j + 6 => simp
theorem z6_bytes : IsBytes z6 := by
  intro i
  match i with
  | 0 | 1 | 2 | 3 | 4 | 5 => simp
  | i + 6 => simp

theorem slice_one (g j : Nat) (hj : j < 6) (w : World) : (Instr.sliceAt 25 (.pointer (some ⟨g, 0, none⟩)) (some (.int .i64 (j : Int))) (some (.int .i64 ((j : Int) + 1))) none).run Tryz.prog w = .ok (.slice (some ⟨g, j, none⟩) 1 (6 - j)) w := by
  have hlen : Tryz.prog.arrayLen 25 = 6 := by kernel_rfl
  have hel : Tryz.prog.elem 25 = 5 := by kernel_rfl
  rw [run_sliceAt_array_lh w 25 ⟨g, 0, none⟩ (by kernel_rfl) .i64 .i64 j ((j : Int) + 1) (by omega) (by omega) (by rw [hlen]; omega), hel, hlen]
  have e1 : ((j : Int) + 1).toNat = j + 1 := by omega
  have hne : ¬ 6 = j := by omega
  have hadd : (⟨g, 0, none⟩ : Addr).add j = ⟨g, j, none⟩ := by
    by_cases h0 : j = 0
    · subst h0; simp [Addr.add]
    · simp [Addr.add, h0]
  simp [slicedAt, Tryz.sizeOf5, e1, hne, hadd]
set_option maxHeartbeats 4000000 in
set_option maxRecDepth 20000 in
theorem mac_any {w : World} (hV : Vs w) (s : ByteArray) (hs : s.size ≤ 40000) :
    Calls Tryz.prog 76 #[.string s] w fun e w' => e = .returned (.tuple #[mv (mac s.data.toList), .int .i64 (le (mac s.data.toList))]) ∧ Below w.heap.size w w' := by
  have hM0 := two_blocks w (.cells (ab z6) 25 (0, 0)) (.cells (ab z6) 25 (0, 0))
  have hsz0 : (((w.alloc (.cells (ab z6) 25 (0, 0))).alloc (.cells (ab z6) 25 (0, 0)))).heap.size = w.heap.size + 2 := by simp
  have hV0 : Vs ((w.alloc (.cells (ab z6) 25 (0, 0))).alloc (.cells (ab z6) 25 (0, 0))) := hV.below hM0.below
  have cS := split_any hV0 s 58 7 6 (by omega) (by omega) (by omega) 7 rfl
  rw [hsz0] at cS
  unfold mac
  by_cases hcut : (cut 58 s.data.toList).length = 6
  · rw [if_pos hcut]
    obtain ⟨R, hR⟩ : ∃ R, fill 0 [0, 0, 0, 0, 0, 0] (cut 58 s.data.toList) = R := ⟨_, rfl⟩
    rw [hR]
    go_enter Tryz.func76, Tryz.ntmps76
    go_wp2_with fail
    refine cS.mono ?_
    rintro e w1 ⟨P, cap, rfl, hcap, hcells, hb1, hsp⟩
    obtain ⟨h6, hmap⟩ : P.length = 6 ∧ P.map (·.data.toList) = cut 58 s.data.toList := by
      rcases hsp with ⟨a, b, _⟩ | ⟨_, c⟩
      · exact ⟨a, b⟩
      · exact absurd hcut c
    clear hsp cS
    rw [h6] at hcap ⊢
    have hPs : ∀ (j : Nat) x, P[j]? = some x → (cut 58 s.data.toList)[j]? = some x.data.toList := by
      intro j x hj
      rw [← hmap, List.getElem?_map, hj]; rfl
    have hM1 := hM0.after (by rw [hsz0]; exact hb1)
    obtain ⟨o, ho⟩ : ∃ o, w1.heap[w.heap.size + 2]? = some o := by
      have := hcells 0 _ (List.getElem?_eq_getElem (by omega))
      have hlt := cell_in this
      exact ⟨_, Array.getElem?_eq_getElem hlt⟩
    have hM2 : Mem w w1 ((w.heap.size + 1, .cells (ab z6) 25 (0, 0)) :: [(w.heap.size, .cells (ab z6) 25 (0, 0)), (w.heap.size + 2, o)]) := by
      have := hM1.add (g := w.heap.size + 2) (by omega) ho (by intro p hp; simp at hp; rcases hp with rfl | rfl <;> simp)
      exact this.perm (by simpa using List.perm_append_comm (l₁ := [(w.heap.size + 2, o)]) (l₂ := [(w.heap.size + 1, Obj.cells (ab z6) 25 (0, 0)), (w.heap.size, Obj.cells (ab z6) 25 (0, 0))]))
    clear hM0 hM1 hV0 hsz0 hb1
    go_wp2_with fail
    go_loopw [17] (fun jj w' => ∃ (j : Nat) (l : List Int), jj = .int .i64 j ∧ j ≤ 6 ∧ l.length = 6 ∧ IsBytes l ∧ (∀ i, j ≤ i → l.getD i 0 = 0) ∧ fill j l ((cut 58 s.data.toList).drop j) = R ∧ Mem w w' ((w.heap.size + 1, .cells (ab l) 25 (0, 0)) :: [(w.heap.size, .cells (ab z6) 25 (0, 0)), (w.heap.size + 2, o)])) (fun jj _ => 6 - (intOf jj).toNat)
    case atStart => exact ⟨0, z6, rfl, by omega, rfl, z6_bytes, z6_zeros, by simpa using hR, hM2⟩
    case round =>
      obtain ⟨j, l, rfl, hj6, hl6, hlb, hlz, hc, hMr⟩ := hrel
      clear hM2 hR
      by_cases hj : j < 6
      · have hjz : (j : Int) < 6 := by omega
        have e7 : IntKind.i64.wrap ((j : Int) + 1) = (j : Int) + 1 := wrap64 (by omega) (by omega)
        obtain ⟨x, hx⟩ : ∃ x, P[j]? = some x := ⟨P[j]'(by omega), List.getElem?_eq_getElem (by omega)⟩
        have hcx := hPs j x hx
        have hc1 := hcells j x hx
        have hcell : wr.cell? ⟨w.heap.size + 2, j, none⟩ = some (.string x) := by
          rw [← hc1]
          exact World.cell?_of_block (w := w1) (w' := wr) (a := ⟨w.heap.size + 2, j, none⟩) ((hMr.get 2 rfl).trans ho.symm)
        rw [drop_at hcx] at hc
        have cR := readHex_any hMr x j 1 (6 - j) (by omega) hlb (by omega)
        clear hc1 hcx hx hPs hcells
        rcases rh_one (p := x.data.toList) (hlz j (Nat.le_refl _)) (by omega) with ⟨v, h2, hrh⟩ | ⟨h2, hrh⟩
        · rw [hrh] at cR
          rw [fill_on h2] at hc
          have hv := two_lt h2
          clear h2 hrh
          have hsl := slice_one (w.heap.size + 1) j hj
          go_wp2_with fail
          refine cR.mono ?_
          rintro e w' ⟨rfl, hM3⟩
          go_wp2_with fail
          go_roundw
          case rel => exact ⟨j + 1, _, by first | rfl | trivial, by omega, by rw [List.length_set]; exact hl6, set_bytes hlb _ (by omega), set_zeros hlz, hc, hM3⟩
          case measure => simp [intOf]; omega
        · obtain ⟨ok, l2, hrl⟩ : ∃ ok l2, rh x.data.toList j 1 l = (ok, l2) := ⟨_, _, rfl⟩
          rw [hrl] at cR hrh
          have hok : ok = false := hrh
          subst hok
          rw [fill_stop h2] at hc
          subst hc
          clear h2 hrh hrl
          have hsl := slice_one (w.heap.size + 1) j hj
          go_wp2_with fail
          refine cR.mono ?_
          rintro e w' ⟨rfl, hM3⟩
          have c0 : w'.cell? ⟨w.heap.size, 0, none⟩ = some (.int .u8 0) := hM3.cell 1 rfl 0
          have c1 : w'.cell? ⟨w.heap.size, 1, none⟩ = some (.int .u8 0) := hM3.cell 1 rfl 1
          have c2 : w'.cell? ⟨w.heap.size, 2, none⟩ = some (.int .u8 0) := hM3.cell 1 rfl 2
          have c3 : w'.cell? ⟨w.heap.size, 3, none⟩ = some (.int .u8 0) := hM3.cell 1 rfl 3
          have c4 : w'.cell? ⟨w.heap.size, 4, none⟩ = some (.int .u8 0) := hM3.cell 1 rfl 4
          have c5 : w'.cell? ⟨w.heap.size, 5, none⟩ = some (.int .u8 0) := hM3.cell 1 rfl 5
          have f0 := hM3.free 1 rfl
          go_wp2_with fail
          refine post_let (fun W2 => Mem w W2 ((w.heap.size, .cells (ab z6) 25 (0, 0)) :: [(w.heap.size + 1, .cells (ab l2) 25 (0, 0)), (w.heap.size + 2, o)])) (hM3.flip.put6 rfl 0 0 0 0 0 0) ?_
          intro W2 hM4
          refine bodyPost_ret (v := .tuple #[.agg (ab z6), .int .i64 60]) ?_ rfl ⟨rfl, hM4.below⟩
          exact results_two (p := 2) (q := 3) (ty := 25) rfl _ _ w.heap.size (ab z6) rfl (run_loadVar_row _ _ 25 25 _ (0, 0) _ (hM4.get 0 rfl) Tryz.underlying25 rfl (by kernel_rfl))
      · have hjz : ¬ (j : Int) < 6 := by omega
        have hnil : (cut 58 s.data.toList).drop j = [] := List.drop_eq_nil_of_le (by omega)
        rw [hnil, fill] at hc
        subst hc
        obtain ⟨a0, a1, a2, a3, a4, a5, rfl⟩ := six hl6
        clear hcells hPs hlz
        have c0 : wr.cell? ⟨w.heap.size, 0, none⟩ = some (.int .u8 0) := hMr.cell 1 rfl 0
        have c1 : wr.cell? ⟨w.heap.size, 1, none⟩ = some (.int .u8 0) := hMr.cell 1 rfl 1
        have c2 : wr.cell? ⟨w.heap.size, 2, none⟩ = some (.int .u8 0) := hMr.cell 1 rfl 2
        have c3 : wr.cell? ⟨w.heap.size, 3, none⟩ = some (.int .u8 0) := hMr.cell 1 rfl 3
        have c4 : wr.cell? ⟨w.heap.size, 4, none⟩ = some (.int .u8 0) := hMr.cell 1 rfl 4
        have c5 : wr.cell? ⟨w.heap.size, 5, none⟩ = some (.int .u8 0) := hMr.cell 1 rfl 5
        have f0 := hMr.free 1 rfl
        have d0 : wr.cell? ⟨w.heap.size + 1, 0, none⟩ = some (.int .u8 a0) := hMr.cell 0 rfl 0
        have d1 : wr.cell? ⟨w.heap.size + 1, 1, none⟩ = some (.int .u8 a1) := hMr.cell 0 rfl 1
        have d2 : wr.cell? ⟨w.heap.size + 1, 2, none⟩ = some (.int .u8 a2) := hMr.cell 0 rfl 2
        have d3 : wr.cell? ⟨w.heap.size + 1, 3, none⟩ = some (.int .u8 a3) := hMr.cell 0 rfl 3
        have d4 : wr.cell? ⟨w.heap.size + 1, 4, none⟩ = some (.int .u8 a4) := hMr.cell 0 rfl 4
        have d5 : wr.cell? ⟨w.heap.size + 1, 5, none⟩ = some (.int .u8 a5) := hMr.cell 0 rfl 5
        go_wp2_with fail
        refine post_let (fun W2 => Mem w W2 ((w.heap.size, .cells (ab [a0, a1, a2, a3, a4, a5]) 25 (0, 0)) :: [(w.heap.size + 1, .cells (ab [a0, a1, a2, a3, a4, a5]) 25 (0, 0)), (w.heap.size + 2, o)])) (hMr.flip.put6 rfl a0 a1 a2 a3 a4 a5) ?_
        intro W2 hM4
        refine bodyPost_ret (v := .tuple #[.agg (ab [a0, a1, a2, a3, a4, a5]), .int .i64 0]) ?_ rfl ⟨rfl, hM4.below⟩
        exact results_two (p := 2) (q := 3) (ty := 25) rfl _ _ w.heap.size (ab [a0, a1, a2, a3, a4, a5]) rfl (run_loadVar_row _ _ 25 25 _ (0, 0) _ (hM4.get 0 rfl) Tryz.underlying25 rfl (by kernel_rfl))
  · rw [if_neg hcut]
    go_enter Tryz.func76, Tryz.ntmps76
    go_wp2_with fail
    refine cS.mono ?_
    rintro e w1 ⟨P, cap, rfl, hcap, hcells, hb1, hsp⟩
    have h4 : P.length ≠ 6 := by
      rcases hsp with ⟨_, _, c⟩ | ⟨c, _⟩
      · exact absurd c hcut
      · exact c
    have hlz : (((P.length : Nat) : Int) != 6) = true := by simp; omega
    have hM3 := hM0.after (by rw [hsz0]; exact hb1)
    have c0 : w1.cell? ⟨w.heap.size, 0, none⟩ = some (.int .u8 0) := hM3.cell 1 rfl 0
    have c1 : w1.cell? ⟨w.heap.size, 1, none⟩ = some (.int .u8 0) := hM3.cell 1 rfl 1
    have c2 : w1.cell? ⟨w.heap.size, 2, none⟩ = some (.int .u8 0) := hM3.cell 1 rfl 2
    have c3 : w1.cell? ⟨w.heap.size, 3, none⟩ = some (.int .u8 0) := hM3.cell 1 rfl 3
    have c4 : w1.cell? ⟨w.heap.size, 4, none⟩ = some (.int .u8 0) := hM3.cell 1 rfl 4
    have c5 : w1.cell? ⟨w.heap.size, 5, none⟩ = some (.int .u8 0) := hM3.cell 1 rfl 5
    have f0 := hM3.free 1 rfl
    clear hsp cS hcells hV0 hsz0 hb1
    go_wp2_with fail
    refine post_let (fun W2 => Mem w W2 ((w.heap.size, .cells (ab z6) 25 (0, 0)) :: [(w.heap.size + 1, .cells (ab z6) 25 (0, 0))])) (hM3.flip.put6 rfl 0 0 0 0 0 0) ?_
    intro W2 hM4
    refine bodyPost_ret (v := .tuple #[.agg (ab z6), .int .i64 60]) ?_ rfl ⟨rfl, hM4.below⟩
    exact results_two (p := 2) (q := 3) (ty := 25) rfl _ _ w.heap.size (ab z6) rfl (run_loadVar_row _ _ 25 25 _ (0, 0) _ (hM4.get 0 rfl) Tryz.underlying25 rfl (by kernel_rfl))
end Go.Proofs.YtneciccdiledfaaGreatDoor

