/-
  lychlaw10.LogOnly.
-/
import Derived.Test.YtbmpjlgfbiakoaaDoorLgKnown
namespace Go.Proofs.YtbmpjlgfbiakoaaDoor
open Go.RowKit
open Sm
set_option linter.unusedVariables false

/-- A slice of numbers that came in. -/
def RowK (k : IntKind) (W : World) (a : Option Addr) (l : List Int) : Prop :=
  l = [] ∨ ∃ b off, a = some ⟨b, off, none⟩ ∧ ∀ i, i < l.length → W.cell? ⟨b, off + i, none⟩ = some (.int k (l.getD i 0))
theorem rowk_of {k : IntKind} {w : World} {x : Addr} {len cap : Nat} {zs : List Int} (hl : len ≤ cap) (hz : zs.length = cap) (hcell : ∀ i, i < zs.length → w.cell? (x.add i) = some (.int k (zs.getD i 0))) : RowK k w (some x) (zs.take len) ∧ (zs.take len).length = len := by
  have hlen : (zs.take len).length = len := by simp; omega
  refine ⟨?_, hlen⟩
  by_cases h0 : len = 0
  · exact Or.inl (by subst h0; simp)
  · obtain ⟨b, off, spot⟩ := x
    have hc := hcell 0 (by omega)
    have hspot : spot = none := by simpa [Addr.add] using World.cell?_spot hc
    subst hspot
    refine Or.inr ⟨b, off, rfl, fun i hi => ?_⟩
    rw [take_getD _ _ _ (by omega)]
    have hci := hcell i (by omega)
    by_cases e : i = 0
    · subst e; simpa [Addr.add] using hci
    · simpa [Addr.add, e] using hci
theorem take_u16 {zs : List Int} (h : ∀ n ∈ zs, 0 ≤ n ∧ n ≤ 65535) (len i : Nat) : 0 ≤ (zs.take len).getD i 0 ∧ (zs.take len).getD i 0 ≤ 65535 := by
  by_cases hi : i < (zs.take len).length
  · have e : (zs.take len).getD i 0 = (zs.take len)[i] := getD_eq hi
    rw [e]; exact h _ (List.mem_of_mem_take (List.getElem_mem hi))
  · have e : (zs.take len).getD i 0 = 0 := by rw [List.getD, List.getElem?_eq_none (by omega)]; rfl
    rw [e]; omega
/-- What came in is as it was. -/
theorem RowK.at_ {k : IntKind} {w : World} {a : Option Addr} {l : List Int} (h : RowK k w a l) {i : Nat} (hi : i < l.length) : ∃ b off, a = some ⟨b, off, none⟩ ∧ ∀ V, Below w.heap.size w V → V.cell? ⟨b, off + i, none⟩ = some (.int k (l.getD i 0)) := by
  rcases h with e | ⟨b, off, e, hc⟩
  · subst e; simp at hi
  · refine ⟨b, off, e, fun V hV => ?_⟩
    have h1 := hc i hi
    rw [← h1]; exact hV.cell (p := ⟨b, off + i, none⟩) (cell_lt h1)

theorem room_300 : room 8 300 = 708 := by decide
/-- A log that lives, or one whose store has no power. -/
def Runs (w W : World) (p h m N : Nat) (pl : Nat) (i : Nat) : Prop :=
  (∃ (D : Dk) (B : Int) (all : List (List Int)), D.dead = false ∧ 0 ≤ B ∧ B ≤ i ∧ all.length ≤ i ∧ Sy w W p h m N D pl B all []) ∨
  (So w W p h m N gone pl [] ∧ ∃ (B : Int) (all : List (List Int)), 0 ≤ B ∧ B ≤ i ∧ Sd w W p h m N gone B all [])
theorem Runs.more {w W : World} {p h m N pl i j : Nat} (hr : Runs w W p h m N pl i) (hj : i ≤ j) : Runs w W p h m N pl j := by
  rcases hr with ⟨D, B, all, h1, h2, h3, h4, h5⟩ | ⟨h1, B, all, h2, h3, h4⟩
  · exact Or.inl ⟨D, B, all, h1, h2, by omega, by omega, h5⟩
  · exact Or.inr ⟨h1, B, all, h2, by omega, h4⟩
theorem Runs.sd {w W : World} {p h m N pl i : Nat} (hr : Runs w W p h m N pl i) : ∃ (D : Dk) (B : Int) (all : List (List Int)), 0 ≤ B ∧ B ≤ i ∧ Sd w W p h m N D B all [] := by
  rcases hr with ⟨D, B, all, h1, h2, h3, h4, h5⟩ | ⟨h1, B, all, h2, h3, h4⟩
  · exact ⟨D, B, all, h2, h3, h5.sd⟩
  · exact ⟨_, B, all, h2, h3, h4⟩
theorem So.join {w W : World} {p h m N : Nat} {D : Dk} {pl : Nat} {L : List (Nat × Obj)} (H : So w W p h m N D pl L) {W' : World} {K : List (Nat × Obj)} (k : Mem W W' K) : So w W' p h m N D pl L := by
  obtain ⟨hc, ks, t, c, v, K2, h1, h2⟩ := H.at_
  have h4 := h1.join k
  refine ⟨hc, ks, t, c, v, K2 ++ K, h4.on (h4.st.perm ?_), h2⟩
  refine List.perm_middle.trans (List.Perm.cons _ ?_)
  rw [show L ++ (K2 ++ K) = (L ++ K2) ++ K by simp]; exact List.perm_append_comm
/-- One Append more, of a record of its own. -/
theorem runs_append {w W : World} {p h m N pl i : Nat} (hr : Runs w W p h m N pl i) {ga : Addr} (hG : Gl w ga) (hn : 4 ≤ N) (hm : 256 ≤ m) (hi : i ≤ 800000) {g k : Nat} {r : List Int} (hrl : r.length = k) (hk : k ≤ room N m) (hb : IsBytes r) {W1 : World} (q : Mem W W1 [(g, .cells (bs r) 5 (0, 0))]) :
    Calls Tryd.prog 18 #[.pointer (some ⟨pl, 0, none⟩), .slice (some ⟨g, 0, none⟩) k k] W1 fun ev W' => ∃ err, ev = .returned (.int .i64 err) ∧ Below w.heap.size w W' ∧ Runs w W' p h m N pl (i + 1) := by
  have hrm := room_le N m
  rcases hr with ⟨D, B, all, h1, h2, h3, h4, h5⟩ | ⟨h1, B, all, h2, h3, h4⟩
  · have H1 := h5.push q
    refine (sy_append H1 hG h1 hn hm (by omega) h2 (by omega) hrl hk (beside_of (fz := (0, 0)) (by simp) hb (by omega)) hb).mono ?_
    rintro ev W' ⟨err, rfl, D', hc⟩
    rcases hc with ⟨rfl, a1, a2, a3⟩ | ⟨rfl, a1, a2, a3, a4⟩
    · exact ⟨0, rfl, a3.sd.below, Or.inl ⟨D', B + 1, all ++ [r], a1, by omega, by omega, by simp; omega, a3.sub⟩⟩
    · subst a1
      refine ⟨42, rfl, ?_, Or.inr ⟨?_, ?_⟩⟩
      · rcases a4 with q | q <;> exact q.below
      · obtain ⟨hc, ks, t, c, v, K2, b1, b2⟩ := a3.at_
        refine ⟨hc, ks, t, c, v, [(g, .cells (bs r) 5 (0, 0))] ++ ([] ++ K2), ?_, b2⟩
        simpa using b1
      · rcases a4 with q | q
        · exact ⟨B + 1, all, by omega, by omega, q.sub⟩
        · exact ⟨B + 1, _, by omega, by omega, q.sub⟩
  · have H1 := h1.join q
    obtain ⟨hc, ks, t, c, v, K2, b1, b2⟩ := H1.at_
    subst b2
    refine (append_dead b1 hG rfl _ k k hk).mono ?_
    rintro ev W' ⟨rfl, K3, h6⟩
    exact ⟨42, rfl, ((h4.join q).join h6).below, Or.inr ⟨H1.join h6, B, all, h2, by omega, (h4.join q).join h6⟩⟩

set_option maxRecDepth 20000 in
set_option maxHeartbeats 4000000 in
theorem only_any {w : World} {ga : Addr} (hG : Gl w ga) {a : Option Addr} {l : List Int} {n : Nat} (hn : l.length = n) (hr : RowK .u16 w a l) (hu : ∀ i, 0 ≤ l.getD i 0 ∧ l.getD i 0 ≤ 65535) (c : Nat) (h20 : n ≤ 20) (x y : Int) (hx0 : -9223372036854775808 ≤ x) (hx1 : x ≤ 9223372036854775807) :
    Calls Tryd.prog 6 #[.slice a n c, .int .i64 x, .int .i64 y] w fun e w' => e = .returned (.bool true) ∧ Below w.heap.size w w' := by
  have hK := known_log hG
  have q20 : ¬ (20 : Int) < (n : Int) := by omega
  have HR : Hid (RowK .u16 w a l) := hr
  have HU : Hid (∀ i, 0 ≤ l.getD i 0 ∧ l.getD i 0 ≤ 65535) := hu
  have HG : Hid (Gl w ga) := hG
  have hpl := plc_range x 40 (by omega)
  have HPL : Hid (∀ W, Calls Tryd.prog 13 #[.int .i64 x, .int .i64 40] W fun e w' => e = .returned (.int .i64 (plc x 40)) ∧ W = w') := fun W => place_any x 40 W hx0 hx1 (by omega) (by omega)
  generalize plc x 40 = P at *
  clear hr hu hG
  go_enter Tryd.func6, Tryd.ntmps6
  go_wp2_with fail
  refine hK.mono ?_
  rintro e w1 ⟨rfl, K1, h1⟩
  have hN := sd_new (x := 8) (y := 300) (n := 8) (m := 300) (by decide) (by decide) w1
  have HG1 : Hid (Gl w1 ga) := HG.out.on h1
  have HB1 : Hid (Below w.heap.size w w1) := h1.below
  clear hK
  go_wp2_with fail
  refine hN.mono ?_
  rintro e w2 ⟨p, rfl, h, H2⟩
  have hO := sd_open H2 HG1.out rfl (by omega) (by omega) (by omega) (by omega)
  clear hN H2
  go_wp2_with fail
  refine hO.mono ?_
  rintro e w3 ⟨pl, v', rfl, got, Y, hR, hE, H3⟩
  obtain ⟨rfl, rfl⟩ := rs_nil (by rw [ends_nil hE] at hR; exact hR)
  clear hO hR hE
  go_wp2_with fail
  refine (HPL.out w3).mono ?_
  rintro e w' ⟨rfl, rfl⟩
  have hC := sy_cut H3 P y (by omega)
  clear H3
  go_wp2_with fail
  refine hC.mono ?_
  rintro e w4 ⟨rfl, H4⟩
  have HRN : Hid (Runs w1 w4 p h 300 8 pl 0) := Or.inl ⟨_, 0, [], rfl, by omega, by omega, by simp, H4⟩
  clear hC H4
  go_wp2_with fail
  go_loopw [11] (fun u wr => ∃ i : Nat, u = .int .i64 i ∧ i ≤ n ∧ Runs w1 wr p h 300 8 pl i) (fun u _ => n - (intOf u).toNat)
  case atStart => exact ⟨0, rfl, by omega, HRN.out⟩
  case round =>
    obtain ⟨i, rfl, hi, hst⟩ := hrel
    clear HRN
    by_cases hlt : i < n
    · obtain ⟨b, off, rfl, hcell⟩ := HR.out.at_ (i := i) (by omega)
      have hz := HU.out i
      generalize l.getD i 0 = z at *
      obtain ⟨hz0, hz1⟩ := hz
      obtain ⟨k, hk⟩ : ∃ k : Nat, z % 709 = (k : Int) := ⟨(z % 709).toNat, by omega⟩
      have hk7 : k ≤ 708 := by omega
      have hkt : Int.tmod z 709 = (k : Int) := by rw [Int.tmod_eq_emod_of_nonneg hz0]; exact hk
      have w709 : IntKind.i64.wrap 709 = 709 := by decide
      have hrem : Op.intDiv .rem .i64 z 709 = (pure (.int .i64 (k : Int)) : Sem Value) := by simp [Op.intDiv, hkt]
      have hkw : IntKind.i64.wrap (k : Int) = k := by rw [IntKind.wrap_i64]; omega
      have HV : Hid (∀ V, Below w1.heap.size w1 V → V.cell? ⟨b, off + i, none⟩ = some (.int .u16 z)) := fun V hV => hcell V (HB1.out.trans (hV.mono HB1.out.size))
      obtain ⟨D0, B0, all0, _, _, hsd⟩ := hst.sd
      have HB0 : Hid (Below w1.heap.size w1 wr.drew) := (hsd.drewN 1).below
      have c0 := HV.out _ hsd.below
      have HRM : Hid (Calls Tryd.prog 15 #[.pointer (some ⟨p, 0, none⟩)] wr.drew fun e W' => e = .returned (.int .i64 708) ∧ wr.drew = W') := by
        have := sd_room (hsd.drewN 1); rw [room_300] at this; exact this
      have HRC : Hid (Calls Tryd.prog 19 #[.int .i64 i, .int .i64 k] wr.drew fun e W' => ∃ g, e = .returned (.slice (some ⟨g, 0, none⟩) k k) ∧ Mem wr.drew W' [(g, .cells (bs (rcd i k)) 5 (0, 0))]) := record_any wr.drew i (by omega) (by omega) k (by omega)
      have HAP : Hid (∀ W1 g, Mem wr.drew W1 [(g, .cells (bs (rcd i k)) 5 (0, 0))] → Calls Tryd.prog 18 #[.pointer (some ⟨pl, 0, none⟩), .slice (some ⟨g, 0, none⟩) k k] W1 fun ev W' => ∃ err, ev = .returned (.int .i64 err) ∧ Below w1.heap.size w1 W' ∧ Runs w1 W' p h 300 8 pl (i + 1)) := by
        intro W1 g hq
        have hq2 : Mem wr W1 [(g, .cells (bs (rcd i k)) 5 (0, 0))] := ((Mem.nil wr).drew.join hq)
        exact runs_append hst HG1.out (by omega) (by omega) (by omega) (rcd_length i k) (by rw [room_300]; omega) (rcd_bytes i k) hq2
      have q0 : (i : Int) < (n : Int) := by omega
      have hzw : IntKind.i64.wrap z = z := by rw [IntKind.wrap_i64]; omega
      clear hst hsd hcell
      go_wp2_with fail
      go_region_held3 (fun w' => w'.cell? ⟨b, off + i, none⟩ = some (.int .u16 z)) (first | go_keep | assumption | exact HV.out _ (HB0.out.trans (q5.below.mono HB0.out.size)) | exact HV.out _ hb7)
        (first
          | (go_at_call 15; with_reducible refine HRM.out.mono ?_; rintro e3 w3 ⟨rfl, rfl⟩)
          | (go_at_call 19; with_reducible refine HRC.out.mono ?_; rintro e3 w5 ⟨g5, rfl, q5⟩)
          | (go_at_call 18; with_reducible refine (HAP.out _ _ q5).mono ?_; rintro e3 w7 ⟨err, rfl, hb7, hst⟩))
      go_wp2_with fail
      go_roundw
      case rel => exact ⟨i + 1, by go_num, by omega, hst⟩
      case measure => simp [intOf]; omega
    · have : i = n := by omega
      subst this
      obtain ⟨D0, B0, all0, hb0, hb1, hsd⟩ := hst.sd
      have hP := sd_power hsd
      clear hst hsd
      go_wp2_with fail
      refine hP.mono ?_
      rintro e w5 ⟨rfl, H5⟩
      have hC := sd_cut H5 0 0 (by omega)
      clear hP H5
      go_wp2_with fail
      refine hC.mono ?_
      rintro e w6 ⟨rfl, H6⟩
      have hO := sd_open H6 HG1.out rfl (by omega) (by omega) (by omega) hb0
      clear hC H6
      go_wp2_with fail
      refine hO.mono ?_
      rintro e w7 ⟨pl2, v2, rfl, got, Y, hR, hE, H7⟩
      have hD := sd_dead H7.sd
      have HB7 : Hid (Below w.heap.size w w7) := HB1.out.trans (H7.sd.below.mono HB1.out.size)
      clear hO H7 hR hE
      go_wp2_with fail
      refine hD.mono ?_
      rintro e w' ⟨rfl, rfl⟩
      go_wp2
      go_ret
      exact ⟨rfl, HB7.out⟩
theorem only_long {w : World} {ga : Addr} (hG : Gl w ga) (a : Option Addr) (n c : Nat) (hn : 20 < n) (x y : Int) :
    Calls Tryd.prog 6 #[.slice a n c, .int .i64 x, .int .i64 y] w fun e w' => e = .returned (.bool true) ∧ Below w.heap.size w w' := by
  have hK := known_log hG
  have q : (20 : Int) < (n : Int) := by omega
  go_enter Tryd.func6, Tryd.ntmps6
  go_wp2_with fail
  refine hK.mono ?_
  rintro e w1 ⟨rfl, K, h1⟩
  go_wp2
  go_ret
  exact ⟨rfl, h1.below⟩
end Go.Proofs.YtbmpjlgfbiakoaaDoor
