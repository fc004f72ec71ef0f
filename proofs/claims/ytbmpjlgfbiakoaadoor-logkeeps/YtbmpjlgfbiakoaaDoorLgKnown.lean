/-
  lychlaw10.known: a record that is there again.
-/
import Derived.Test.YtbmpjlgfbiakoaaDoorLgSy
import Derived.Lib.SlBytesConst
namespace Go.Proofs.YtbmpjlgfbiakoaaDoor
open Go.RowKit
open Sm
set_option linter.unusedVariables false

theorem ends_nil {got : List (List Int)} (h : Ends got []) : got = [] := by
  have := h.1; simpa using this
theorem ends_single {got : List (List Int)} {r : List Int} (h : Ends got [r]) : got = [r] := by
  obtain ⟨h1, h2, h3⟩ := h
  match got, h1, h2, h3 with
  | [], _, h2, _ => exact absurd (h2 rfl) (by simp)
  | [x], _, _, h3 => rw [h3]; rfl
theorem rs_nil {v : Value} {Y : List (Nat × Obj)} (h : RS v [] Y) : v = .slice none 0 0 ∧ Y = [] := by
  rcases h with ⟨h1, _, h2⟩ | ⟨_, _, _, _, _, h0, _⟩
  · exact ⟨h1, h2⟩
  · simp at h0
theorem Sd.mem {W W' : World} {p h m N : Nat} {D : Dk} {B : Int} {all : List (List Int)} {L : List (Nat × Obj)} (H : Sd W W' p h m N D B all L) : ∃ K, Mem W W' K := by
  obtain ⟨hc, ks, K, h1, _⟩ := H.at_
  exact ⟨_, h1.st.mem⟩
/-- One of the rows. -/
theorem rs_at {v : Value} {bl : List (List Int)} {Y : List (Nat × Obj)} (h : RS v bl Y) {i : Nat} {r : List Int} (hi : bl[i]? = some r) : ∃ hh cap g gc cur, v = .slice (some ⟨hh, 0, none⟩) bl.length cap ∧ (∃ hc, (hh, Obj.cells hc 22 (0, 0)) ∈ Y ∧ hc[i]? = some (.slice (some ⟨g, 0, none⟩) r.length gc)) ∧ (g, Obj.cells cur 5 (0, 0)) ∈ Y ∧ (Bk.mk g gc cur r).Ok r.length := by
  rcases h with ⟨_, e, _⟩ | ⟨hh, cap, hc, ks, rfl, h0, h1, h2, h3, h4, h5, rfl⟩
  · rw [e] at hi; simp at hi
  · have hil := (List.getElem?_eq_some_iff.mp hi).1
    rw [← h5, List.getElem?_map] at hi
    obtain ⟨k, hk, hkr⟩ := Option.map_eq_some_iff.mp hi
    have hk2 := h4 k (List.mem_of_getElem? hk)
    refine ⟨hh, cap, k.g, k.cap, k.cur, rfl, ⟨hc, by simp, ?_⟩, ?_, ?_⟩
    · have e := congrArg (fun l => l[i]?) h3
      simp only [List.getElem?_map, hk, Option.map_some, List.getElem?_take, if_pos hil, Array.getElem?_toList] at e
      rw [e, Bk.hdB, hkr]
    · exact List.mem_cons_of_mem _ (List.mem_map.mpr ⟨k, List.mem_of_getElem? hk, rfl⟩)
    · rw [hkr] at hk2; rw [← hkr] at hk2 ⊢; exact hk2
theorem row_of_bk {W : World} {g gc : Nat} {cur : Array Value} {r : List Int} (ho : (Bk.mk g gc cur r).Ok r.length) (hg : W.heap[g]? = some (.cells cur 5 (0, 0))) (hl : r.length ≤ 140737488351232) : Row W (some ⟨g, 0, none⟩) r := by
  refine ⟨ho.bytes, hl, Or.inr ⟨g, 0, rfl, fun j hj => ?_⟩⟩
  rw [Nat.zero_add, cell_of hg]
  have e2 := congrArg (fun l => l[j]?) ho.here
  simp only [List.getElem?_map, List.getElem?_take, if_pos hj, Array.getElem?_toList, List.getElem?_eq_getElem hj, Option.map_some] at e2
  rw [e2, getD_eq hj]
theorem crc_nine : crc [49, 50, 51, 52, 53, 54, 55, 56, 57] = 3421780262 := by decide +kernel
theorem str_abc : strOfNums [97, 98, 99] = ⟨#[97, 98, 99]⟩ := by decide

set_option maxRecDepth 20000 in
set_option maxHeartbeats 4000000 in
theorem known_log {w : World} {ga : Addr} (hG : Gl w ga) : Calls Tryd.prog 9 #[] w fun e w' => e = .returned (.bool true) ∧ ∃ K, Mem w w' K := by
  have hN := sd_new (x := 8) (y := 512) (n := 8) (m := 512) (by decide) (by decide) w
  have HG : Hid (Gl w ga) := hG
  clear hG
  go_enter Tryd.func9, Tryd.ntmps9
  go_wp2_with fail
  refine hN.mono ?_
  rintro e w1 ⟨p, rfl, h, H1⟩
  have hO := sd_open H1 HG.out rfl (by omega) (by omega) (by omega) (by omega)
  clear hN H1
  go_wp2_with fail
  refine hO.mono ?_
  rintro e w2 ⟨pl, v', rfl, got, Y, hR, hE, H2⟩
  have hg0 := ends_nil hE
  subst hg0
  obtain ⟨rfl, rfl⟩ := rs_nil hR
  have hA : Mem w2 (w2.alloc (.cells (bs [97, 98, 99]) 5 (3, 4))) [(w2.heap.size, .cells (bs [97, 98, 99]) 5 (3, 4))] := (Mem.nil w2).push1 rfl
  have hcv := Go.Lib.run_convert_bytes_const (P := Tryd.prog) w2 22 5 (bs [97, 98, 99]) 3 3 Tryd.underlying22 Tryd.underlying5
  have e34 : (bs [97, 98, 99]).size = 3 := rfl
  rw [e34] at hcv
  have H3 := H2.push hA
  have hisb : IsBytes [97, 98, 99] := by intro i; match i with | 0 => decide | 1 => decide | 2 => decide | n + 3 => simp
  have hAp := sy_append H3 HG.out rfl (by omega) (by omega) (by omega) (by omega) (by simp) (g := w2.heap.size) (k := 3) (r := [97, 98, 99]) rfl (by decide) (beside_of (fz := (3, 4)) (by simp) hisb (by simp)) hisb
  generalize hw3 : w2.alloc (.cells (bs [97, 98, 99]) 5 (3, 4)) = w3 at *
  simp only [bs, List.map_cons, List.map_nil] at hcv
  clear hO hR hE H2 H3 hA
  go_wp2_with fail
  refine hAp.mono ?_
  rintro e w4 ⟨err, rfl, D', hcase⟩
  rcases hcase with ⟨rfl, a1, a2, H4⟩ | ⟨rfl, _, a2, _⟩
  · have hD : D' = ⟨false, false, 0, 0⟩ := by simpa using a2
    subst hD
    have H4b := H4.sub
    have hO := sd_open H4b.sd HG.out rfl (by omega) (by omega) (by omega) (by omega)
    clear hAp a1 a2 H4 H4b
    go_wp2_with fail
    refine hO.mono ?_
    rintro e w5 ⟨pl2, v2, rfl, got, Y, hR, hE, H5⟩
    have hg1 := ends_single hE
    subst hg1
    have hN := sd_new (x := 1) (y := 64) (n := 1) (m := 64) (by decide) (by decide) w5
    obtain ⟨hh, cap, g, gc, cur, hv2, ⟨hc, hm1, hm2⟩, hm3, hok⟩ := rs_at hR (i := 0) rfl
    subst hv2
    have hm1b : (hh, Obj.cells hc 22 (0, 0)) ∈ Y ++ [] := by simpa using hm1
    have hm3b : (g, Obj.cells cur 5 (0, 0)) ∈ Y ++ [] := by simpa using hm3
    clear hO hR hE
    go_wp2_with fail
    refine hN.mono ?_
    rintro e w6 ⟨p2, rfl, h2, H6⟩
    obtain ⟨K6, hK6⟩ := H6.mem
    have H7 := H5.join hK6
    have hO2 := sd_open_small H6 (by omega)
    clear hN H5 H6 hK6
    go_wp2_with fail
    refine hO2.mono ?_
    rintro e w7 ⟨rfl, rfl⟩
    have c0 : w6.cell? ⟨hh, 0, none⟩ = some (.slice (some ⟨g, 0, none⟩) 3 gc) := (cell_of (H7.has hm1b) 0).trans hm2
    have hrow := row_of_bk hok (H7.has hm3b) (by simp)
    have hst : (convert 22 9 (.slice (some ⟨g, 0, none⟩) 3 gc)).run Tryd.prog w6 = .ok (.string ⟨#[97, 98, 99]⟩) w6 := by
      have := row_string hrow gc
      rw [str_abc] at this; exact this
    have hrec : Calls Tryd.prog 20 #[.pointer (some ⟨pl2, 0, none⟩)] w6 fun e W' => e = .returned (.int .i64 1) ∧ w6 = W' := sy_records H7 (by omega) (by omega)
    have hla : Calls Tryd.prog 22 #[.pointer (some ⟨pl2, 0, none⟩)] w6 fun e W' => ∃ g, e = .returned (.slice (some ⟨g, 0, none⟩) 3 3) ∧ Mem w6 W' [(g, .cells (bs [97, 98, 99]) 5 (0, 0))] := sy_last H7 (by simp)
    have HH7 : Hid (∃ K, Mem w w6 K) := H7.sd.mem
    clear hO2 H7 hrow hok hm1 hm2 hm3 hm1b hm3b hcv
    go_wp2_with fail
    refine hrec.mono ?_
    rintro e w' ⟨rfl, rfl⟩
    go_wp2_with fail
    refine hla.mono ?_
    rintro e w8 ⟨g8, rfl, h8⟩
    have hst8 : (convert 22 9 (.slice (some ⟨g8, 0, none⟩) 3 3)).run Tryd.prog w8 = .ok (.string ⟨#[97, 98, 99]⟩) w8 := by
      have := row_string (h8.own 0 rfl hisb (by simp)) 3
      rw [str_abc] at this; exact this
    have hA9 : Mem w8 (w8.alloc (.cells (bs [49, 50, 51, 52, 53, 54, 55, 56, 57]) 5 (9, 10))) [(w8.heap.size, .cells (bs [49, 50, 51, 52, 53, 54, 55, 56, 57]) 5 (9, 10))] := (Mem.nil w8).push1 rfl
    have hcv9 := Go.Lib.run_convert_bytes_const (P := Tryd.prog) w8 22 5 (bs [49, 50, 51, 52, 53, 54, 55, 56, 57]) 9 9 Tryd.underlying22 Tryd.underlying5
    have e9 : (bs [49, 50, 51, 52, 53, 54, 55, 56, 57]).size = 9 := rfl
    rw [e9] at hcv9
    have hr9 : Row (w8.alloc (.cells (bs [49, 50, 51, 52, 53, 54, 55, 56, 57]) 5 (9, 10))) (some ⟨w8.heap.size, 0, none⟩) [49, 50, 51, 52, 53, 54, 55, 56, 57] := by
      refine ⟨?_, by simp, Or.inr ⟨w8.heap.size, 0, rfl, fun j hj => ?_⟩⟩
      · intro i
        match i with
        | 0 => decide
        | 1 => decide
        | 2 => decide
        | 3 => decide
        | 4 => decide
        | 5 => decide
        | 6 => decide
        | 7 => decide
        | 8 => decide
        | n + 9 => simp
      · rw [Nat.zero_add, cell_of_row _ w8.heap.size j (bs [49, 50, 51, 52, 53, 54, 55, 56, 57]) 5 (9, 10) (hA9.get 0 rfl), bs_get hj]
    have hsm := lsum_any (n := 9) rfl hr9 9
    rw [crc_nine] at hsm
    have HF : Hid (∃ K, Mem w (w8.alloc (.cells (bs [49, 50, 51, 52, 53, 54, 55, 56, 57]) 5 (9, 10))) K) := by
      obtain ⟨K, hK⟩ := HH7.out
      exact ⟨_, (hK.join h8).join hA9⟩
    generalize w8.alloc (.cells (bs [49, 50, 51, 52, 53, 54, 55, 56, 57]) 5 (9, 10)) = w9 at *
    simp only [bs, List.map_cons, List.map_nil] at hcv9
    clear h8 hA9 hr9 HH7 hla hrec hst
    go_wp2_with fail
    refine hsm.mono ?_
    rintro e w' ⟨rfl, rfl⟩
    go_wp2
    go_ret
    exact ⟨rfl, HF.out⟩
  · simp at a2
end Go.Proofs.YtbmpjlgfbiakoaaDoor
