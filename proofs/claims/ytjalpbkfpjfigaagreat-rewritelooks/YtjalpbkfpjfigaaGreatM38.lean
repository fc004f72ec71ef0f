/-
  The statements' seat: what lychseat.Packet answers, whatever it is handed.
  The packet of few numbers is bytes.
  What the document's own lychref8.Hop answers, whatever bytes it is handed.
-/
import Derived.Test.YtjalpbkfpjfigaaGreatM37
import Derived.Test.YtjalpbkfpjfigaaGreatM35
import Derived.Deep.DeepCutAuto
import Derived.Deep.CutBlock
import Derived.Laws.BitsAllLaws
import Derived.Test.YtjalpbkfpjfigaaGreatM29
import Derived.Test.YtjalpbkfpjfigaaGreatM36
import Derived.Test.YtjalpbkfpjfigaaGreatM25
import Derived.Test.YtjalpbkfpjfigaaGreatM23
namespace Go.Proofs.YtjalpbkfpjfigaaGreat
open Go.RowKit
open Sm
set_option linter.unusedVariables false
set_option maxRecDepth 20000

/-- A row that a store into a block leaves. -/
def Far (g : Nat) (a : Option Addr) (l : List Int) : Prop := l = [] ∨ ∀ x, a = some x → g ≠ x.block
theorem Row.beside {w : World} {a : Option Addr} {l : List Int} (h : Row w a l) {g j : Nat} (hf : Far g a l) {v : Value} : Row (w.setCell ⟨g, j, none⟩ v) a l := by
  rcases hf with rfl | hf
  · exact ⟨h.bytes, h.len, Or.inl rfl⟩
  · exact h.far hf
theorem far_low {w : World} {a : Option Addr} {l : List Int} (h : Row w a l) {g : Nat} (hg : w.heap.size ≤ g) : Far g a l := by
  rcases h.cells with e | ⟨b, off, rfl, hc⟩
  · exact Or.inl e
  · by_cases hz : l = []
    · exact Or.inl hz
    · refine Or.inr (fun x hx => ?_)
      cases hx
      have := cell_lt (hc 0 (List.length_pos_iff.mpr hz))
      simp only at this ⊢
      omega
theorem Mem.two {w W : World} {p q r : Nat × Obj} (h : Mem w W [p, q, r]) : Mem w W [p, q] :=
  ⟨h.below, fun x hx => h.low x (by simp at hx; rcases hx with rfl | rfl <;> simp), fun x hx => h.at_ x (by simp at hx; rcases hx with rfl | rfl <;> simp), by have := h.apart; simp at this ⊢; omega⟩
theorem Mem.skip3 {w W : World} {p q r s : Nat × Obj} (h : Mem w W [p, q, r, s]) : Mem w W [p, q, s] :=
  ⟨h.below, fun x hx => h.low x (by simp at hx; rcases hx with rfl | rfl | rfl <;> simp), fun x hx => h.at_ x (by simp at hx; rcases hx with rfl | rfl | rfl <;> simp), by have := h.apart; simp at this ⊢; omega⟩
theorem mgv_two {w : World} {za : Option Addr} {zc : Nat} {l : List Int} (T S : Int) (h : Row w za l) (hn : za = none → zc = 0) : MgV w 0 (.agg (mgA T 0 S 0 (.slice za l.length zc))) ⟨T, 0, S, 0, l⟩ :=
  ⟨za, zc, rfl, h, hn, fun x hx => Nat.zero_le _⟩
theorem spoil_fin {w : World} {B g c i nb : Nat} {bl L : List Int} {y : Int} (h : OwnB w B g c bl) (hn : bl.length = nb) (hL : L = bl.set i y) : (w.setCell ⟨g, i, none⟩ (.int .u8 y)).drew.ownsRow B 5 1 (.slice (some ⟨g, 0, none⟩) nb c) L.length (L.map (Value.int .u8)) := by
  subst hL
  have := h.store i y
  unfold OwnB at this
  rw [List.length_set, hn] at this ⊢
  exact this
theorem pk1_shape (P : Pa) (side k : Int) : pk1 P side k = ⟨0, 64, (pk1 P side k).proto, P.n, 2, 0, psrc P side k, pdst P side k, [], (pk1 P side k).body⟩ := by
  unfold pk1; split <;> rfl

abbrev paB (P : Pa) : Array Value := paA P.pr P.s P.d P.fr P.tp P.fl P.ttl P.er P.n P.sp

set_option maxHeartbeats 4000000 in
theorem packet_any (w : World) (P : Pa) (hP : P.Ok) (side k : Int) (hs : side = 0 ∨ side = 1) (hk : 0 ≤ k ∧ k ≤ 255) :
    Calls Tryz.prog 8 #[.agg (paB P), .int .i64 side, .int .i64 k] w fun e w' => ∃ u, e = .returned u ∧ w'.ownsRow w.heap.size 5 1 u (pktb P side k).length ((pktb P side k).map (Value.int .u8)) ∧ Below w.heap.size w w' := by
  have HM0 : Hid (Mem w (w.alloc (.cells (paB P) paT)) [(w.heap.size, .cells (paB P) paT)]) := (Mem.nil w).push1 rfl
  have hwk := wrap8_small k hk.1 hk.2
  have HI : Hid (∀ W, Calls Tryz.prog 19 #[.int .u8 P.s] W _) := fun W => inside_any W P.s hP.s.1 hP.s.2
  have HO1 : Hid (∀ W, Calls Tryz.prog 20 #[.int .u8 P.d, .int .u8 k] W _) := fun W => outside_any W P.d k hP.d.1 hP.d.2 hk.1 hk.2
  have HO2 : Hid (∀ W, Calls Tryz.prog 20 #[.int .u8 P.s, .int .u8 k] W _) := fun W => outside_any W P.s k hP.s.1 hP.s.2 hk.1 hk.2
  have HO3 : Hid (∀ W, Calls Tryz.prog 20 #[.int .u8 (5 + P.d % 3), .int .u8 k] W _) := fun W => outside_any W (5 + P.d % 3) k (by have := hP.d; omega) (by have := hP.d; omega) hk.1 hk.2
  have h53 : IntKind.u8.wrap (5 + P.d % 3) = 5 + P.d % 3 := wrap8_small _ (by have := hP.d; omega) (by have := hP.d; omega)
  have d0 := hP.d.1
  have htm : P.d.tmod 3 = P.d % 3 := Int.tmod_eq_emod_of_nonneg d0
  go_enter Tryz.func8, Tryz.ntmps8
  go_upto_region 1 with fail
  refine wp_letter (fun W => Mem w W [(w.heap.size, .cells (paB P) paT)]) HM0.out ?_
  intro w1 hM1
  have HM1 : Hid (Mem w w1.drew [(w.heap.size, .cells (paB P) paT)]) := hM1.drew
  have b1 : w1.cell? ⟨w.heap.size, 1, none⟩ = some (.int .u8 P.s) := hM1.cell 0 rfl 1
  have b2 : w1.cell? ⟨w.heap.size, 2, none⟩ = some (.int .u8 P.d) := hM1.cell 0 rfl 2
  clear hM1 HM0
  go_region_held3 (fun w' => w'.cell? ⟨w.heap.size, 1, none⟩ = some (.int .u8 P.s) ∧ w'.cell? ⟨w.heap.size, 2, none⟩ = some (.int .u8 P.d)) (first | go_keep | assumption)
    (first
      | (go_at_call 19; with_reducible refine (HI.out _).mono ?_; rintro e w2 ⟨rfl, rfl⟩)
      | (go_at_call 20; with_reducible refine (HO1.out _).mono ?_; rintro e w3 ⟨rfl, rfl⟩))
  all_goals
    go_upto_if 29 with fail
    refine wp_letter (fun W => Mem w W [(w.heap.size, .cells (paB P) paT)]) HM1.out ?_
    intro w4 hM4
    have HM4 : Hid _ := hM4
    have c1 : w4.cell? ⟨w.heap.size, 1, none⟩ = some (.int .u8 P.s) := hM4.cell 0 rfl 1
    have c2 : w4.cell? ⟨w.heap.size, 2, none⟩ = some (.int .u8 P.d) := hM4.cell 0 rfl 2
    clear hM4 HM1 b1 b2
    go_cut [7, 8] (fun s7 s8 wx => s7 = .int .u32 (psrc P side k) ∧ s8 = .int .u32 (pdst P side k) ∧ Mem w wx [(w.heap.size, .cells (paB P) paT)])
    case first =>
      rcases hs with rfl | rfl
      · go_wp2_with fail
        go_meet
        case rel => exact ⟨rfl, rfl, HM4.out⟩
      · have HM5 : Hid (Mem w w4.drew [(w.heap.size, .cells (paB P) paT)]) := HM4.out.drew
        go_upto_region 3 with fail
        go_region_held3 (fun w' => w'.cell? ⟨w.heap.size, 1, none⟩ = some (.int .u8 P.s) ∧ w'.cell? ⟨w.heap.size, 2, none⟩ = some (.int .u8 P.d)) (first | go_keep | assumption)
          (first
            | (go_at_call 20; with_reducible refine (HO2.out _).mono ?_; rintro e w2 ⟨rfl, rfl⟩)
            | (go_at_call 20; with_reducible refine (HO3.out _).mono ?_; rintro e w3 ⟨rfl, rfl⟩))
        all_goals
          go_wp2_with fail
          go_meet
          case rel => exact ⟨rfl, rfl, HM5.out⟩
    case rest =>
      obtain ⟨rfl, rfl, hM5⟩ := hcut
      clear c1 c2 HM4 HI HO1 HO2 HO3 htm h53
      have HM5 : Hid _ := hM5
      have b0 : wc.cell? ⟨w.heap.size, 0, none⟩ = some (.int .u8 P.pr) := hM5.cell 0 rfl 0
      have HSD : Hid ((0 ≤ psrc P side k ∧ psrc P side k ≤ 4294967295) ∧ (0 ≤ pdst P side k ∧ pdst P side k ≤ 4294967295)) := ⟨psrc_range hP hk, pdst_range hP hk⟩
      have HPr : Hid (∀ W, Calls Tryz.prog 21 #[.int .u8 P.pr] W fun e w' => e = .returned (.int .u8 (prt P.pr)) ∧ Below W.heap.size W w') := fun W => proto_any W P.pr hP.pr.1 hP.pr.2
      have HF : Hid (∀ W, Calls Tryz.prog 22 #[.int .u8 P.fr] W _) := fun W => port_any W P.fr hP.fr.1 hP.fr.2
      have HT : Hid (∀ W, Calls Tryz.prog 22 #[.int .u8 P.tp] W _) := fun W => port_any W P.tp hP.tp.1 hP.tp.2
      have HPk : Hid (∀ q, q = prt P.pr → q = 17 ∨ q = 6 ∨ q = 1) := fun q hq => by rw [hq]; exact prt_kind _
      clear hM5
      go_wp2_with fail
      refine (HPr.out _).mono ?_
      rintro e w5 ⟨rfl, hb5⟩
      have hM6 := HM5.out.after hb5
      have HM6 : Hid (Mem w w5.drew [(w.heap.size, .cells (paB P) paT)]) := hM6.drew
      have b3 : w5.cell? ⟨w.heap.size, 3, none⟩ = some (.int .u8 P.fr) := hM6.cell 0 rfl 3
      have b4 : w5.cell? ⟨w.heap.size, 4, none⟩ = some (.int .u8 P.tp) := hM6.cell 0 rfl 4
      clear b0 hM6 hb5 HM5 HPr
      go_upto_region 5 with fail
      go_region_held3 (fun w' => w'.cell? ⟨w.heap.size, 3, none⟩ = some (.int .u8 P.fr) ∧ w'.cell? ⟨w.heap.size, 4, none⟩ = some (.int .u8 P.tp)) (first | go_keep | assumption)
        (first
          | (go_at_call 22; with_reducible refine (HF.out _).mono ?_; rintro e w6 ⟨rfl, rfl⟩)
          | (go_at_call 22; with_reducible refine (HT.out _).mono ?_; rintro e w6 ⟨rfl, rfl⟩))
      all_goals
        go_upto_region 6 with fail
        refine wp_letter (fun W => Mem w W [(w.heap.size, .cells (paB P) paT)]) HM6.out ?_
        intro w7 hM7
        have HM7 : Hid _ := hM7
        have b5 : w7.cell? ⟨w.heap.size, 5, none⟩ = some (.int .u8 P.fl) := hM7.cell 0 rfl 5
        have b8 : w7.cell? ⟨w.heap.size, 8, none⟩ = some (.int .u8 P.n) := hM7.cell 0 rfl 8
        have hBo := body_any w7 (prt P.pr) (psrc P side k) (pdst P side k) (ports P.fr) (ports P.tp) P.fl P.n (prt_kind _) HSD.out.1 HSD.out.2 (ports_range hP.fr.1 hP.fr.2) (ports_range hP.tp.1 hP.tp.2) hP.fl hP.n
        clear hM7 HM6 b3 b4 HF HT
        go_wp2_with fail
        refine hBo.mono ?_
        rintro e w8 ⟨x, rfl, hown, hb8⟩
        have hM8 := HM7.out.after hb8
        have HM8 : Hid _ := hM8
        obtain ⟨hbb, hbl⟩ := bodyb_ok (pr := prt P.pr) (src := psrc P side k) (dst := pdst P side k) (ports_range hP.fr.1 hP.fr.2) (ports_range hP.tp.1 hP.tp.2) hP.fl hP.n
        obtain ⟨N, hN⟩ : ∃ N, (bodyb (prt P.pr) (psrc P side k) (pdst P side k) (ports P.fr) (ports P.tp) P.fl P.n).length = N := ⟨_, rfl⟩
        rw [hN] at hown
        obtain ⟨xa, xc, hx, hrow, hnil, -, -⟩ := own_read hown hN hbb (by omega)
        subst hx
        have HR8 : Hid (Row w8 xa (pk0 P side k).body ∧ (xa = none → xc = 0) ∧ (pk0 P side k).body.length = N) := ⟨hrow, hnil, hN⟩
        have c8 : w8.cell? ⟨w.heap.size, 8, none⟩ = some (.int .u8 P.n) := hM8.cell 0 rfl 8
        have hwn := wrap16_small P.n hP.n.1 (by have := hP.n; omega)
        clear hM8 hown hrow hnil hb8 hBo b5 b8 HM7 hbb hbl hN
        go_upto_region 8 with fail
        refine wp_letter (fun W => Mem w W [(w.heap.size, .cells (paB P) paT), (w8.heap.size, .cells (ipA 0 64 (prt P.pr) P.n 2 0 (psrc P side k) (pdst P side k) (.slice none 0 0) (.slice xa N xc)) ipT (0, 0))] ∧ Row W xa (pk0 P side k).body ∧ Far w8.heap.size xa (pk0 P side k).body) ⟨HM8.out.push2 rfl, HR8.out.1.below ((Below.refl _ _).alloc (Nat.le_refl _) _) (Nat.le_refl _), far_low HR8.out.1 (Nat.le_refl _)⟩ ?_
        intro w9 ⟨hM9, hv9, hf9⟩
        have HM9 : Hid _ := hM9
        have HR9 : Hid (Row w9 xa (pk0 P side k).body ∧ (xa = none → xc = 0) ∧ (pk0 P side k).body.length = N ∧ Far w8.heap.size xa (pk0 P side k).body) := ⟨hv9, HR8.out.2.1, HR8.out.2.2, hf9⟩
        have d7 : w9.cell? ⟨w.heap.size, 7, none⟩ = some (.int .u8 P.er) := hM9.cell 0 rfl 7
        have e0 := hP.er.1
        clear hM9 hv9 hf9 HM8 HR8 c8
        generalize w8.heap.size = G at *
        obtain ⟨Q, hQ⟩ : ∃ Q, pk1 P side k = Q := ⟨_, rfl⟩
        have HQ : Hid (pk1 P side k = Q) := hQ
        go_upto_if 72 with fail
        go_cut [6] (fun s6 wx => s6 = .slice none 0 0 ∧ ∃ xa' xc', Mem w wx [(w.heap.size, .cells (paB P) paT), (G, .cells (ipA 0 64 Q.proto P.n 2 0 (psrc P side k) (pdst P side k) (.slice none 0 0) (.slice xa' Q.body.length xc')) ipT (0, 0))] ∧ Row wx xa' Q.body ∧ (xa' = none → xc' = 0) ∧ Far G xa' Q.body)
        case first =>
          by_cases h4 : P.er % 5 = 4
          · have e1 : Q = ⟨0, 64, 1, P.n, 2, 0, psrc P side k, pdst P side k, [], mgOut (perr P side k)⟩ := by rw [← HQ.out]; exact if_pos h4
            have HE : Hid (Q = _) := e1
            have c5 : w9.cell? ⟨w.heap.size, 5, none⟩ = some (.int .u8 P.fl) := HM9.out.cell 0 rfl 5
            have c8 : w9.cell? ⟨w.heap.size, 8, none⟩ = some (.int .u8 P.n) := HM9.out.cell 0 rfl 8
            have hBo := body_any w9 (prt P.pr) (pdst P side k) (psrc P side k) (ports P.tp) (ports P.fr) P.fl P.n (prt_kind _) HSD.out.2 HSD.out.1 (ports_range hP.tp.1 hP.tp.2) (ports_range hP.fr.1 hP.fr.2) hP.fl hP.n
            clear hQ e1 HR9
            go_wp2_with fail
            refine hBo.mono ?_
            rintro e w10 ⟨y, rfl, hown, hb10⟩
            have hM10 := HM9.out.after hb10
            have HM10 : Hid _ := hM10
            obtain ⟨hbb, hbl⟩ := bodyb_ok (pr := prt P.pr) (src := pdst P side k) (dst := psrc P side k) (ports_range hP.tp.1 hP.tp.2) (ports_range hP.fr.1 hP.fr.2) hP.fl hP.n
            obtain ⟨M, hM⟩ : ∃ M, (bodyb (prt P.pr) (pdst P side k) (psrc P side k) (ports P.tp) (ports P.fr) P.fl P.n).length = M := ⟨_, rfl⟩
            rw [hM] at hown
            obtain ⟨ya, yc, hy, hrow, hnil, -, -⟩ := own_read hown hM hbb (by omega)
            subst hy
            have HV10 : Hid (IpV w10 0 (.agg (ipA 0 3 (prt P.pr) 0 0 0 (pdst P side k) (psrc P side k) (.slice none 0 0) (.slice ya M yc))) (pin P side k)) := ⟨none, 0, ya, yc, by simp only [pin, hM]; rfl, row_nil w10, hrow, fun _ => rfl, hnil, fun x hx => (by cases hx), fun x hx => Nat.zero_le _⟩
            clear hM10 hown hrow hnil hb10 hBo c5 c8 d7 HM9 hbb hbl hM
            go_upto_region 10 with fail
            refine wp_letter (fun W => Mem w W [(w.heap.size, .cells (paB P) paT), (G, .cells (ipA 0 64 (prt P.pr) P.n 2 0 (psrc P side k) (pdst P side k) (.slice none 0 0) (.slice xa N xc)) ipT (0, 0)), (w10.heap.size, .cells (ipA 0 3 (prt P.pr) 0 0 0 (pdst P side k) (psrc P side k) (.slice none 0 0) (.slice ya M yc)) ipT (0, 0))] ∧ IpV W 0 (.agg (ipA 0 3 (prt P.pr) 0 0 0 (pdst P side k) (psrc P side k) (.slice none 0 0) (.slice ya M yc))) (pin P side k)) ⟨HM10.out.push3 rfl, HV10.out.below ((Below.refl _ _).alloc (Nat.le_refl _) _) (Nat.le_refl _)⟩ ?_
            intro w11 ⟨hM11, hv11⟩
            have HM11 : Hid _ := hM11
            have kc : ∀ i, w11.cell? ⟨w10.heap.size, i, none⟩ = (ipA 0 3 (prt P.pr) 0 0 0 (pdst P side k) (psrc P side k) (.slice none 0 0) (.slice ya M yc))[i]? := hM11.cell 2 rfl
            have hB := rbytes_any (pin_ok hP hk) hv11
            clear hM11 hv11 HM10 HV10
            generalize w10.heap.size = G2 at *
            obtain ⟨K, hK⟩ : ∃ K, (ipOut (pin P side k)).length = K := ⟨_, rfl⟩
            have HK : Hid ((ipOut (pin P side k)).length = K) := hK
            rw [hK] at hB
            clear hK
            go_wp2_with fail
            refine hB.mono ?_
            rintro e w12 ⟨z, rfl, hown, hb12⟩
            have hM12 := HM11.out.after hb12
            have HM12 : Hid (Mem w w12 [(w.heap.size, .cells (paB P) paT), (G, .cells (ipA 0 64 (prt P.pr) P.n 2 0 (psrc P side k) (pdst P side k) (.slice none 0 0) (.slice xa N xc)) ipT (0, 0)), (G2, .cells (ipA 0 3 (prt P.pr) 0 0 0 (pdst P side k) (psrc P side k) (.slice none 0 0) (.slice ya M yc)) ipT (0, 0))]) := hM12
            obtain ⟨za, zc, hz, hrow, hnil, hfar, -⟩ := own_read hown HK.out (ipOut_bytes (pin_ok hP hk)).1 (by have := (ipOut_bytes (pin_ok (side := side) hP hk)).2; omega)
            subst hz
            have HR12 : Hid (Row w12 za (ipOut (pin P side k)) ∧ (za = none → zc = 0) ∧ Far G za (ipOut (pin P side k))) := ⟨hrow, hnil, Or.inr fun x hx e => by
              have h1 := hfar x hx
              have h2 := HM11.out.lt (p := (G, .cells (ipA 0 64 (prt P.pr) P.n 2 0 (psrc P side k) (pdst P side k) (.slice none 0 0) (.slice xa N xc)) ipT (0, 0))) (by simp)
              simp only at h2
              omega⟩
            have c8 : w12.cell? ⟨w.heap.size, 8, none⟩ = some (.int .u8 P.n) := hM12.cell 0 rfl 8
            have c8' : (w12.alloc (.cells #[.int .u8 3, .int .u8 11, .int .u8 12] 5)).cell? ⟨w.heap.size, 8, none⟩ = some (.int .u8 P.n) := (hM12.push4 (o := .cells #[.int .u8 3, .int .u8 11, .int .u8 12] 5) rfl).cell 0 rfl 8
            clear hM12 hown hrow hnil hfar hb12 hB kc HM11
            have n0 := hP.n.1
            have HT : Hid (etyp P.n = if P.n % 3 = 0 then 3 else if P.n % 3 = 1 then 11 else 12) := rfl
            have cs : P.n % 3 = 0 ∨ P.n % 3 = 1 ∨ P.n % 3 = 2 := by omega
            rcases cs with e3 | e3 | e3
            · have HT : Hid (etyp P.n = 3) := by have := HT.out; rw [e3] at this; exact this
              have HPe : Hid (perr P side k = ⟨3, 0, msum ⟨3, 0, 0, 0, ipOut (pin P side k)⟩, 0, ipOut (pin P side k)⟩) := by show perr P side k = _; unfold perr; rw [HT.out]; rfl
              have HOk : Hid ((Mg.mk 3 0 0 0 (ipOut (pin P side k))).Ok) := ⟨by simp, by simp, by simp, by simp, (ipOut_bytes (pin_ok hP hk)).1⟩
              go_upto_region 12 with fail
              refine wp_letter (fun W => Mem w W [(w.heap.size, .cells (paB P) paT), (G, .cells (ipA 0 64 (prt P.pr) P.n 2 0 (psrc P side k) (pdst P side k) (.slice none 0 0) (.slice xa N xc)) ipT (0, 0)), (w12.heap.size + 1, .cells (mgA 3 0 0 0 (.slice za K zc)) mgT (0, 0))] ∧ Row W za (ipOut (pin P side k)) ∧ Far (w12.heap.size + 1) za (ipOut (pin P side k))) ⟨((HM12.out.two.push3 rfl).push4 (g := w12.heap.size + 1) (by simp)).skip3, (HR12.out.1.below ((Below.refl _ _).alloc (Nat.le_refl _) _) (Nat.le_refl _)).below ((Below.refl _ _).alloc (Nat.le_refl _) _) (Nat.le_refl _), far_low HR12.out.1 (by omega)⟩ ?_
              intro w13 ⟨hM13, hr13, hf13⟩
              have HM13 : Hid _ := hM13
              have HR13 : Hid _ := hr13
              have HF13 : Hid _ := hf13
              have kc : ∀ i, w13.cell? ⟨w12.heap.size + 1, i, none⟩ = (mgA 3 0 0 0 (.slice za K zc))[i]? := hM13.cell 2 rfl
              have hv13 := mgv_two 3 0 hr13 HR12.out.2.1
              rw [HK.out] at hv13
              have hS := rmsum_any HOk.out hv13
              clear c8 c8' hM13 hr13 hf13 HM12 hv13 n0 e3
              generalize w12.heap.size + 1 = G3 at *
              obtain ⟨S, hSs⟩ : ∃ S, msum ⟨3, 0, 0, 0, ipOut (pin P side k)⟩ = S := ⟨_, rfl⟩
              rw [hSs] at hS HPe
              have HOS : Hid ((Mg.mk 3 0 S 0 (ipOut (pin P side k))).Ok) := by have := perr_ok (side := side) hP hk; rw [HPe.out] at this; exact this
              clear hSs
              go_wp2_with fail
              refine hS.mono ?_
              rintro e w14 ⟨rfl, hb14⟩
              have hM14 := HM13.out.after hb14
              have HM14 : Hid (Mem w w14 [(w.heap.size, .cells (paB P) paT), (G, .cells (ipA 0 64 (prt P.pr) P.n 2 0 (psrc P side k) (pdst P side k) (.slice none 0 0) (.slice xa N xc)) ipT (0, 0)), (G3, .cells (mgA 3 0 0 0 (.slice za K zc)) mgT (0, 0))]) := hM14
              have HR14 : Hid (Row w14 za (ipOut (pin P side k))) := HR13.out.below hb14 (Nat.le_refl _)
              clear kc hS hb14 HM13 HR13
              have kf3 : ∀ i, w14.frozen? ⟨G3, i, none⟩ = false := hM14.free 2 rfl
              have kf : ∀ i, w14.frozen? ⟨G, i, none⟩ = false := hM14.free 1 rfl
              have kc3 : ∀ i, w14.cell? ⟨G3, i, none⟩ = (mgA 3 0 0 0 (.slice za K zc))[i]? := hM14.cell 2 rfl
              clear hM14
              go_upto_region 13 with fail
              refine wp_letter (fun W => Mem w W [(w.heap.size, .cells (paB P) paT), (G, .cells (ipA 0 64 (prt P.pr) P.n 2 0 (psrc P side k) (pdst P side k) (.slice none 0 0) (.slice xa N xc)) ipT (0, 0)), (G3, .cells (mgA 3 0 S 0 (.slice za K zc)) mgT (0, 0))] ∧ Row W za (ipOut (pin P side k))) ⟨HM14.out.set 2 rfl 2 _, HR14.out.beside HF13.out⟩ ?_
              intro w15 ⟨hM15, hr15⟩
              have HM15 : Hid _ := hM15
              have HR15 : Hid _ := hr15
              clear kf kf3 kc3 HM14 HR14
              have kf : ∀ i, w15.frozen? ⟨G, i, none⟩ = false := hM15.free 1 rfl
              have kc : ∀ i, w15.cell? ⟨G, i, none⟩ = (ipA 0 64 (prt P.pr) P.n 2 0 (psrc P side k) (pdst P side k) (.slice none 0 0) (.slice xa N xc))[i]? := hM15.cell 1 rfl
              clear hM15 hr15
              go_upto_region 14 with fail
              refine wp_letter (fun W => Mem w W [(w.heap.size, .cells (paB P) paT), (G, .cells (ipA 0 64 1 P.n 2 0 (psrc P side k) (pdst P side k) (.slice none 0 0) (.slice xa N xc)) ipT (0, 0)), (G3, .cells (mgA 3 0 S 0 (.slice za K zc)) mgT (0, 0))] ∧ Row W za (ipOut (pin P side k))) ⟨HM15.out.set 1 rfl 2 _, HR15.out.beside HR12.out.2.2⟩ ?_
              intro w16 ⟨hM16, hr16⟩
              have HM16 : Hid _ := hM16
              have kc3 : ∀ i, w16.cell? ⟨G3, i, none⟩ = (mgA 3 0 S 0 (.slice za K zc))[i]? := hM16.cell 2 rfl
              have hv16 := mgv_two 3 S hr16 HR12.out.2.1
              rw [HK.out] at hv16
              have hB := rmbytes_any HOS.out hv16
              rw [← HPe.out] at hB
              obtain ⟨J, hJ⟩ : ∃ J, (mgOut (perr P side k)).length = J := ⟨_, rfl⟩
              have HJ : Hid ((mgOut (perr P side k)).length = J) := hJ
              rw [hJ] at hB
              clear kf kc HM15 HR15 hM16 hr16 hv16 hJ
              go_wp2_with fail
              refine hB.mono ?_
              rintro e w17 ⟨y, rfl, hown, hb17⟩
              have hM17 := HM16.out.after hb17
              have HM17 : Hid (Mem w w17 [(w.heap.size, .cells (paB P) paT), (G, .cells (ipA 0 64 1 P.n 2 0 (psrc P side k) (pdst P side k) (.slice none 0 0) (.slice xa N xc)) ipT (0, 0)), (G3, .cells (mgA 3 0 S 0 (.slice za K zc)) mgT (0, 0))]) := hM17
              obtain ⟨va, vc, hv, hrow, hnil, hfar, -⟩ := own_read hown HJ.out (mgOut_facts (perr_ok hP hk)).1 (by have := (mgOut_facts (perr_ok (side := side) hP hk)).2; omega)
              subst hv
              have HR17 : Hid (Row w17 va (mgOut (perr P side k)) ∧ (va = none → vc = 0) ∧ Far G va (mgOut (perr P side k))) := ⟨hrow, hnil, Or.inr fun x hx e => by
                have h1 := hfar x hx
                have h2 := HM16.out.lt (p := (G, .cells (ipA 0 64 1 P.n 2 0 (psrc P side k) (pdst P side k) (.slice none 0 0) (.slice xa N xc)) ipT (0, 0))) (by simp)
                simp only at h2
                omega⟩
              have kf : ∀ i, w17.frozen? ⟨G, i, none⟩ = false := hM17.free 1 rfl
              have kc : ∀ i, w17.cell? ⟨G, i, none⟩ = (ipA 0 64 1 P.n 2 0 (psrc P side k) (pdst P side k) (.slice none 0 0) (.slice xa N xc))[i]? := hM17.cell 1 rfl
              clear hM17 hown hrow hnil hfar hb17 hB kc3 HM16
              go_wp2_with fail
              go_meet
              case rel =>
                refine ⟨rfl, va, vc, ?_⟩
                rw [HE.out]
                simp only [HJ.out]
                exact ⟨HM17.out.two.set 1 rfl 9 _, HR17.out.1.beside HR17.out.2.2, HR17.out.2⟩
            · have HT : Hid (etyp P.n = 11) := by have := HT.out; rw [e3] at this; exact this
              have HPe : Hid (perr P side k = ⟨11, 0, msum ⟨11, 0, 0, 0, ipOut (pin P side k)⟩, 0, ipOut (pin P side k)⟩) := by show perr P side k = _; unfold perr; rw [HT.out]; rfl
              have HOk : Hid ((Mg.mk 11 0 0 0 (ipOut (pin P side k))).Ok) := ⟨by simp, by simp, by simp, by simp, (ipOut_bytes (pin_ok hP hk)).1⟩
              go_upto_region 12 with fail
              refine wp_letter (fun W => Mem w W [(w.heap.size, .cells (paB P) paT), (G, .cells (ipA 0 64 (prt P.pr) P.n 2 0 (psrc P side k) (pdst P side k) (.slice none 0 0) (.slice xa N xc)) ipT (0, 0)), (w12.heap.size + 1, .cells (mgA 11 0 0 0 (.slice za K zc)) mgT (0, 0))] ∧ Row W za (ipOut (pin P side k)) ∧ Far (w12.heap.size + 1) za (ipOut (pin P side k))) ⟨((HM12.out.two.push3 rfl).push4 (g := w12.heap.size + 1) (by simp)).skip3, (HR12.out.1.below ((Below.refl _ _).alloc (Nat.le_refl _) _) (Nat.le_refl _)).below ((Below.refl _ _).alloc (Nat.le_refl _) _) (Nat.le_refl _), far_low HR12.out.1 (by omega)⟩ ?_
              intro w13 ⟨hM13, hr13, hf13⟩
              have HM13 : Hid _ := hM13
              have HR13 : Hid _ := hr13
              have HF13 : Hid _ := hf13
              have kc : ∀ i, w13.cell? ⟨w12.heap.size + 1, i, none⟩ = (mgA 11 0 0 0 (.slice za K zc))[i]? := hM13.cell 2 rfl
              have hv13 := mgv_two 11 0 hr13 HR12.out.2.1
              rw [HK.out] at hv13
              have hS := rmsum_any HOk.out hv13
              clear c8 c8' hM13 hr13 hf13 HM12 hv13 n0 e3
              generalize w12.heap.size + 1 = G3 at *
              obtain ⟨S, hSs⟩ : ∃ S, msum ⟨11, 0, 0, 0, ipOut (pin P side k)⟩ = S := ⟨_, rfl⟩
              rw [hSs] at hS HPe
              have HOS : Hid ((Mg.mk 11 0 S 0 (ipOut (pin P side k))).Ok) := by have := perr_ok (side := side) hP hk; rw [HPe.out] at this; exact this
              clear hSs
              go_wp2_with fail
              refine hS.mono ?_
              rintro e w14 ⟨rfl, hb14⟩
              have hM14 := HM13.out.after hb14
              have HM14 : Hid (Mem w w14 [(w.heap.size, .cells (paB P) paT), (G, .cells (ipA 0 64 (prt P.pr) P.n 2 0 (psrc P side k) (pdst P side k) (.slice none 0 0) (.slice xa N xc)) ipT (0, 0)), (G3, .cells (mgA 11 0 0 0 (.slice za K zc)) mgT (0, 0))]) := hM14
              have HR14 : Hid (Row w14 za (ipOut (pin P side k))) := HR13.out.below hb14 (Nat.le_refl _)
              clear kc hS hb14 HM13 HR13
              have kf3 : ∀ i, w14.frozen? ⟨G3, i, none⟩ = false := hM14.free 2 rfl
              have kf : ∀ i, w14.frozen? ⟨G, i, none⟩ = false := hM14.free 1 rfl
              have kc3 : ∀ i, w14.cell? ⟨G3, i, none⟩ = (mgA 11 0 0 0 (.slice za K zc))[i]? := hM14.cell 2 rfl
              clear hM14
              go_upto_region 13 with fail
              refine wp_letter (fun W => Mem w W [(w.heap.size, .cells (paB P) paT), (G, .cells (ipA 0 64 (prt P.pr) P.n 2 0 (psrc P side k) (pdst P side k) (.slice none 0 0) (.slice xa N xc)) ipT (0, 0)), (G3, .cells (mgA 11 0 S 0 (.slice za K zc)) mgT (0, 0))] ∧ Row W za (ipOut (pin P side k))) ⟨HM14.out.set 2 rfl 2 _, HR14.out.beside HF13.out⟩ ?_
              intro w15 ⟨hM15, hr15⟩
              have HM15 : Hid _ := hM15
              have HR15 : Hid _ := hr15
              clear kf kf3 kc3 HM14 HR14
              have kf : ∀ i, w15.frozen? ⟨G, i, none⟩ = false := hM15.free 1 rfl
              have kc : ∀ i, w15.cell? ⟨G, i, none⟩ = (ipA 0 64 (prt P.pr) P.n 2 0 (psrc P side k) (pdst P side k) (.slice none 0 0) (.slice xa N xc))[i]? := hM15.cell 1 rfl
              clear hM15 hr15
              go_upto_region 14 with fail
              refine wp_letter (fun W => Mem w W [(w.heap.size, .cells (paB P) paT), (G, .cells (ipA 0 64 1 P.n 2 0 (psrc P side k) (pdst P side k) (.slice none 0 0) (.slice xa N xc)) ipT (0, 0)), (G3, .cells (mgA 11 0 S 0 (.slice za K zc)) mgT (0, 0))] ∧ Row W za (ipOut (pin P side k))) ⟨HM15.out.set 1 rfl 2 _, HR15.out.beside HR12.out.2.2⟩ ?_
              intro w16 ⟨hM16, hr16⟩
              have HM16 : Hid _ := hM16
              have kc3 : ∀ i, w16.cell? ⟨G3, i, none⟩ = (mgA 11 0 S 0 (.slice za K zc))[i]? := hM16.cell 2 rfl
              have hv16 := mgv_two 11 S hr16 HR12.out.2.1
              rw [HK.out] at hv16
              have hB := rmbytes_any HOS.out hv16
              rw [← HPe.out] at hB
              obtain ⟨J, hJ⟩ : ∃ J, (mgOut (perr P side k)).length = J := ⟨_, rfl⟩
              have HJ : Hid ((mgOut (perr P side k)).length = J) := hJ
              rw [hJ] at hB
              clear kf kc HM15 HR15 hM16 hr16 hv16 hJ
              go_wp2_with fail
              refine hB.mono ?_
              rintro e w17 ⟨y, rfl, hown, hb17⟩
              have hM17 := HM16.out.after hb17
              have HM17 : Hid (Mem w w17 [(w.heap.size, .cells (paB P) paT), (G, .cells (ipA 0 64 1 P.n 2 0 (psrc P side k) (pdst P side k) (.slice none 0 0) (.slice xa N xc)) ipT (0, 0)), (G3, .cells (mgA 11 0 S 0 (.slice za K zc)) mgT (0, 0))]) := hM17
              obtain ⟨va, vc, hv, hrow, hnil, hfar, -⟩ := own_read hown HJ.out (mgOut_facts (perr_ok hP hk)).1 (by have := (mgOut_facts (perr_ok (side := side) hP hk)).2; omega)
              subst hv
              have HR17 : Hid (Row w17 va (mgOut (perr P side k)) ∧ (va = none → vc = 0) ∧ Far G va (mgOut (perr P side k))) := ⟨hrow, hnil, Or.inr fun x hx e => by
                have h1 := hfar x hx
                have h2 := HM16.out.lt (p := (G, .cells (ipA 0 64 1 P.n 2 0 (psrc P side k) (pdst P side k) (.slice none 0 0) (.slice xa N xc)) ipT (0, 0))) (by simp)
                simp only at h2
                omega⟩
              have kf : ∀ i, w17.frozen? ⟨G, i, none⟩ = false := hM17.free 1 rfl
              have kc : ∀ i, w17.cell? ⟨G, i, none⟩ = (ipA 0 64 1 P.n 2 0 (psrc P side k) (pdst P side k) (.slice none 0 0) (.slice xa N xc))[i]? := hM17.cell 1 rfl
              clear hM17 hown hrow hnil hfar hb17 hB kc3 HM16
              go_wp2_with fail
              go_meet
              case rel =>
                refine ⟨rfl, va, vc, ?_⟩
                rw [HE.out]
                simp only [HJ.out]
                exact ⟨HM17.out.two.set 1 rfl 9 _, HR17.out.1.beside HR17.out.2.2, HR17.out.2⟩
            · have HT : Hid (etyp P.n = 12) := by have := HT.out; rw [e3] at this; exact this
              have HPe : Hid (perr P side k = ⟨12, 0, msum ⟨12, 0, 0, 0, ipOut (pin P side k)⟩, 0, ipOut (pin P side k)⟩) := by show perr P side k = _; unfold perr; rw [HT.out]; rfl
              have HOk : Hid ((Mg.mk 12 0 0 0 (ipOut (pin P side k))).Ok) := ⟨by simp, by simp, by simp, by simp, (ipOut_bytes (pin_ok hP hk)).1⟩
              go_upto_region 12 with fail
              refine wp_letter (fun W => Mem w W [(w.heap.size, .cells (paB P) paT), (G, .cells (ipA 0 64 (prt P.pr) P.n 2 0 (psrc P side k) (pdst P side k) (.slice none 0 0) (.slice xa N xc)) ipT (0, 0)), (w12.heap.size + 1, .cells (mgA 12 0 0 0 (.slice za K zc)) mgT (0, 0))] ∧ Row W za (ipOut (pin P side k)) ∧ Far (w12.heap.size + 1) za (ipOut (pin P side k))) ⟨((HM12.out.two.push3 rfl).push4 (g := w12.heap.size + 1) (by simp)).skip3, (HR12.out.1.below ((Below.refl _ _).alloc (Nat.le_refl _) _) (Nat.le_refl _)).below ((Below.refl _ _).alloc (Nat.le_refl _) _) (Nat.le_refl _), far_low HR12.out.1 (by omega)⟩ ?_
              intro w13 ⟨hM13, hr13, hf13⟩
              have HM13 : Hid _ := hM13
              have HR13 : Hid _ := hr13
              have HF13 : Hid _ := hf13
              have kc : ∀ i, w13.cell? ⟨w12.heap.size + 1, i, none⟩ = (mgA 12 0 0 0 (.slice za K zc))[i]? := hM13.cell 2 rfl
              have hv13 := mgv_two 12 0 hr13 HR12.out.2.1
              rw [HK.out] at hv13
              have hS := rmsum_any HOk.out hv13
              clear c8 c8' hM13 hr13 hf13 HM12 hv13 n0 e3
              generalize w12.heap.size + 1 = G3 at *
              obtain ⟨S, hSs⟩ : ∃ S, msum ⟨12, 0, 0, 0, ipOut (pin P side k)⟩ = S := ⟨_, rfl⟩
              rw [hSs] at hS HPe
              have HOS : Hid ((Mg.mk 12 0 S 0 (ipOut (pin P side k))).Ok) := by have := perr_ok (side := side) hP hk; rw [HPe.out] at this; exact this
              clear hSs
              go_wp2_with fail
              refine hS.mono ?_
              rintro e w14 ⟨rfl, hb14⟩
              have hM14 := HM13.out.after hb14
              have HM14 : Hid (Mem w w14 [(w.heap.size, .cells (paB P) paT), (G, .cells (ipA 0 64 (prt P.pr) P.n 2 0 (psrc P side k) (pdst P side k) (.slice none 0 0) (.slice xa N xc)) ipT (0, 0)), (G3, .cells (mgA 12 0 0 0 (.slice za K zc)) mgT (0, 0))]) := hM14
              have HR14 : Hid (Row w14 za (ipOut (pin P side k))) := HR13.out.below hb14 (Nat.le_refl _)
              clear kc hS hb14 HM13 HR13
              have kf3 : ∀ i, w14.frozen? ⟨G3, i, none⟩ = false := hM14.free 2 rfl
              have kf : ∀ i, w14.frozen? ⟨G, i, none⟩ = false := hM14.free 1 rfl
              have kc3 : ∀ i, w14.cell? ⟨G3, i, none⟩ = (mgA 12 0 0 0 (.slice za K zc))[i]? := hM14.cell 2 rfl
              clear hM14
              go_upto_region 13 with fail
              refine wp_letter (fun W => Mem w W [(w.heap.size, .cells (paB P) paT), (G, .cells (ipA 0 64 (prt P.pr) P.n 2 0 (psrc P side k) (pdst P side k) (.slice none 0 0) (.slice xa N xc)) ipT (0, 0)), (G3, .cells (mgA 12 0 S 0 (.slice za K zc)) mgT (0, 0))] ∧ Row W za (ipOut (pin P side k))) ⟨HM14.out.set 2 rfl 2 _, HR14.out.beside HF13.out⟩ ?_
              intro w15 ⟨hM15, hr15⟩
              have HM15 : Hid _ := hM15
              have HR15 : Hid _ := hr15
              clear kf kf3 kc3 HM14 HR14
              have kf : ∀ i, w15.frozen? ⟨G, i, none⟩ = false := hM15.free 1 rfl
              have kc : ∀ i, w15.cell? ⟨G, i, none⟩ = (ipA 0 64 (prt P.pr) P.n 2 0 (psrc P side k) (pdst P side k) (.slice none 0 0) (.slice xa N xc))[i]? := hM15.cell 1 rfl
              clear hM15 hr15
              go_upto_region 14 with fail
              refine wp_letter (fun W => Mem w W [(w.heap.size, .cells (paB P) paT), (G, .cells (ipA 0 64 1 P.n 2 0 (psrc P side k) (pdst P side k) (.slice none 0 0) (.slice xa N xc)) ipT (0, 0)), (G3, .cells (mgA 12 0 S 0 (.slice za K zc)) mgT (0, 0))] ∧ Row W za (ipOut (pin P side k))) ⟨HM15.out.set 1 rfl 2 _, HR15.out.beside HR12.out.2.2⟩ ?_
              intro w16 ⟨hM16, hr16⟩
              have HM16 : Hid _ := hM16
              have kc3 : ∀ i, w16.cell? ⟨G3, i, none⟩ = (mgA 12 0 S 0 (.slice za K zc))[i]? := hM16.cell 2 rfl
              have hv16 := mgv_two 12 S hr16 HR12.out.2.1
              rw [HK.out] at hv16
              have hB := rmbytes_any HOS.out hv16
              rw [← HPe.out] at hB
              obtain ⟨J, hJ⟩ : ∃ J, (mgOut (perr P side k)).length = J := ⟨_, rfl⟩
              have HJ : Hid ((mgOut (perr P side k)).length = J) := hJ
              rw [hJ] at hB
              clear kf kc HM15 HR15 hM16 hr16 hv16 hJ
              go_wp2_with fail
              refine hB.mono ?_
              rintro e w17 ⟨y, rfl, hown, hb17⟩
              have hM17 := HM16.out.after hb17
              have HM17 : Hid (Mem w w17 [(w.heap.size, .cells (paB P) paT), (G, .cells (ipA 0 64 1 P.n 2 0 (psrc P side k) (pdst P side k) (.slice none 0 0) (.slice xa N xc)) ipT (0, 0)), (G3, .cells (mgA 12 0 S 0 (.slice za K zc)) mgT (0, 0))]) := hM17
              obtain ⟨va, vc, hv, hrow, hnil, hfar, -⟩ := own_read hown HJ.out (mgOut_facts (perr_ok hP hk)).1 (by have := (mgOut_facts (perr_ok (side := side) hP hk)).2; omega)
              subst hv
              have HR17 : Hid (Row w17 va (mgOut (perr P side k)) ∧ (va = none → vc = 0) ∧ Far G va (mgOut (perr P side k))) := ⟨hrow, hnil, Or.inr fun x hx e => by
                have h1 := hfar x hx
                have h2 := HM16.out.lt (p := (G, .cells (ipA 0 64 1 P.n 2 0 (psrc P side k) (pdst P side k) (.slice none 0 0) (.slice xa N xc)) ipT (0, 0))) (by simp)
                simp only at h2
                omega⟩
              have kf : ∀ i, w17.frozen? ⟨G, i, none⟩ = false := hM17.free 1 rfl
              have kc : ∀ i, w17.cell? ⟨G, i, none⟩ = (ipA 0 64 1 P.n 2 0 (psrc P side k) (pdst P side k) (.slice none 0 0) (.slice xa N xc))[i]? := hM17.cell 1 rfl
              clear hM17 hown hrow hnil hfar hb17 hB kc3 HM16
              go_wp2_with fail
              go_meet
              case rel =>
                refine ⟨rfl, va, vc, ?_⟩
                rw [HE.out]
                simp only [HJ.out]
                exact ⟨HM17.out.two.set 1 rfl 9 _, HR17.out.1.beside HR17.out.2.2, HR17.out.2⟩
          · have e1 : Q = pk0 P side k := by rw [← HQ.out]; exact if_neg h4
            have HE : Hid (Q = pk0 P side k) := e1
            clear hQ e1
            go_wp2_with fail
            go_meet
            case rel =>
              refine ⟨rfl, xa, xc, ?_⟩
              rw [HE.out, HR9.out.2.2.1]
              exact ⟨HM9.out, HR9.out.1, HR9.out.2.1, HR9.out.2.2.2⟩
        case rest =>
          obtain ⟨rfl, xa', xc', hM10, hr10, hn10, hf10⟩ := hcut
          have HM10 : Hid _ := hM10
          have HR10 : Hid (Row wc xa' Q.body ∧ (xa' = none → xc' = 0) ∧ Far G xa' Q.body) := ⟨hr10, hn10, hf10⟩
          have d6 : wc.cell? ⟨w.heap.size, 6, none⟩ = some (.int .u8 P.ttl) := hM10.cell 0 rfl 6
          have t0 := hP.ttl.1
          have t1 := hP.ttl.2
          have kf : ∀ i, wc.frozen? ⟨G, i, none⟩ = false := hM10.free 1 rfl
          have kc : ∀ i, wc.cell? ⟨G, i, none⟩ = (ipA 0 64 Q.proto P.n 2 0 (psrc P side k) (pdst P side k) (.slice none 0 0) (.slice xa' Q.body.length xc'))[i]? := hM10.cell 1 rfl
          have kcA : ∀ (o : Obj) (i : Nat), (wc.alloc o).cell? ⟨G, i, none⟩ = (ipA 0 64 Q.proto P.n 2 0 (psrc P side k) (pdst P side k) (.slice none 0 0) (.slice xa' Q.body.length xc'))[i]? := fun o => (hM10.push3 (o := o) rfl).cell 1 rfl
          have kfA : ∀ (o : Obj) (i : Nat), (wc.alloc o).frozen? ⟨G, i, none⟩ = false := fun o => (hM10.push3 (o := o) rfl).free 1 rfl
          have HQs : Hid (Q = ⟨0, 64, Q.proto, P.n, 2, 0, psrc P side k, pdst P side k, [], Q.body⟩) := by have := pk1_shape P side k; rw [HQ.out] at this; exact this
          have HR2 : Hid (pk2 P side k = pkt P ⟨0, 64, Q.proto, P.n, 2, 0, psrc P side k, pdst P side k, [], Q.body⟩) := by rw [← HQs.out, ← HQ.out]; rfl
          obtain ⟨Rk, hRk⟩ : ∃ Rk, pk2 P side k = Rk := ⟨_, rfl⟩
          have HRk : Hid (pk2 P side k = Rk) := hRk
          rw [hRk] at HR2
          clear hRk hQ HR9 HM9 d7 e0 hM10 hr10 hn10 hf10 HQs
          go_upto_block 0 with fail
          go_cut [6] (fun s6 wx => s6 = .slice none 0 0 ∧ ∃ ao co bo cb, Mem w wx [(w.heap.size, .cells (paB P) paT), (G, .cells (ipB Rk (.slice ao Rk.opts.length co) (.slice bo Rk.body.length cb)) ipT (0, 0))] ∧ IpV wx 0 (.agg (ipB Rk (.slice ao Rk.opts.length co) (.slice bo Rk.body.length cb))) Rk)
          case first =>
            have cs : P.ttl % 16 = 0 ∨ P.ttl % 16 = 1 ∨ P.ttl % 16 = 2 ∨ P.ttl % 16 = 3 ∨ P.ttl % 16 = 4 ∨ (5 : Int) ≤ P.ttl % 16 := by omega
            rcases cs with ht | ht | ht | ht | ht | ht
            · have q1 : P.ttl.tdiv 16 = P.ttl / 16 := Int.tdiv_eq_ediv_of_nonneg t0
              have q2 : (P.ttl / 16).tmod 3 = P.ttl / 16 % 3 := Int.tmod_eq_emod_of_nonneg (by omega)
              have q3 : IntKind.u8.wrap (P.ttl / 16) = P.ttl / 16 := wrap8_small _ (by omega) (by omega)
              have HE : Hid (Rk = ⟨0, P.ttl / 16 % 3, Q.proto, P.n, 2, 0, psrc P side k, pdst P side k, [], Q.body⟩) := by show Rk = _; rw [HR2.out]; unfold pkt; rw [if_pos ht]
              go_wp2_with fail
              go_meet
              case rel =>
                refine ⟨rfl, none, 0, xa', xc', ?_⟩
                rw [HE.out]
                exact ⟨HM10.out.set 1 rfl 1 _, none, 0, xa', xc', rfl, row_nil _, HR10.out.1.beside HR10.out.2.2, fun _ => rfl, HR10.out.2.1, fun x hx => (by cases hx), fun x hx => Nat.zero_le _⟩
            · have HE : Hid (Rk = ⟨0, 64, Q.proto, P.n, 1, 0, psrc P side k, pdst P side k, [], Q.body⟩) := by show Rk = _; rw [HR2.out]; unfold pkt; rw [if_neg (by omega), if_pos ht]
              go_wp2_with fail
              go_meet
              case rel =>
                refine ⟨rfl, none, 0, xa', xc', ?_⟩
                rw [HE.out]
                exact ⟨HM10.out.set 1 rfl 4 _, none, 0, xa', xc', rfl, row_nil _, HR10.out.1.beside HR10.out.2.2, fun _ => rfl, HR10.out.2.1, fun x hx => (by cases hx), fun x hx => Nat.zero_le _⟩
            · have HE : Hid (Rk = ⟨0, 64, Q.proto, P.n, 2, 5, psrc P side k, pdst P side k, [], Q.body⟩) := by show Rk = _; rw [HR2.out]; unfold pkt; rw [if_neg (by omega), if_neg (by omega), if_pos ht]
              go_wp2_with fail
              go_meet
              case rel =>
                refine ⟨rfl, none, 0, xa', xc', ?_⟩
                rw [HE.out]
                exact ⟨HM10.out.set 1 rfl 5 _, none, 0, xa', xc', rfl, row_nil _, HR10.out.1.beside HR10.out.2.2, fun _ => rfl, HR10.out.2.1, fun x hx => (by cases hx), fun x hx => Nat.zero_le _⟩
            · have HE : Hid (Rk = ⟨0, 64, 47, P.n, 2, 0, psrc P side k, pdst P side k, [], Q.body⟩) := by show Rk = _; rw [HR2.out]; unfold pkt; rw [if_neg (by omega), if_neg (by omega), if_neg (by omega), if_pos ht]
              go_wp2_with fail
              go_meet
              case rel =>
                refine ⟨rfl, none, 0, xa', xc', ?_⟩
                rw [HE.out]
                exact ⟨HM10.out.set 1 rfl 2 _, none, 0, xa', xc', rfl, row_nil _, HR10.out.1.beside HR10.out.2.2, fun _ => rfl, HR10.out.2.1, fun x hx => (by cases hx), fun x hx => Nat.zero_le _⟩
            · have HE : Hid (Rk = ⟨0, 64, Q.proto, P.n, 2, 0, psrc P side k, pdst P side k, [1, 1, 1, 1], Q.body⟩) := by show Rk = _; rw [HR2.out]; unfold pkt; rw [if_neg (by omega), if_neg (by omega), if_neg (by omega), if_neg (by omega), if_pos ht]
              have hne : G ≠ wc.heap.size := (HM10.out.push3 (o := abcO) (g := wc.heap.size) rfl).ne 1 2 rfl rfl (by decide)
              go_wp2_with fail
              go_meet
              case rel =>
                refine ⟨rfl, some ⟨wc.heap.size, 0, none⟩, 4, xa', xc', ?_⟩
                rw [HE.out]
                have hM := ((HM10.out.push3 (o := .cells (bs [1, 1, 1, 1]) 5 (0, 0)) (g := wc.heap.size) rfl).set 1 rfl 8 (.slice (some ⟨wc.heap.size, 0, none⟩) 4 4))
                have hro : Row _ (some ⟨wc.heap.size, 0, none⟩) [1, 1, 1, 1] := hM.own 2 rfl (by repeat (first | exact bytes_nil | refine bytes_cons ⟨by decide, by decide⟩ ?_)) (by decide)
                exact ⟨hM.two, some ⟨wc.heap.size, 0, none⟩, 4, xa', xc', rfl, hro, (HR10.out.1.below ((Below.refl _ _).alloc (Nat.le_refl _) _) (Nat.le_refl _)).beside HR10.out.2.2, (fun e => by cases e), HR10.out.2.1, fun x hx => Nat.zero_le _, fun x hx => Nat.zero_le _⟩
            · have HE : Hid (Rk = ⟨0, 64, Q.proto, P.n, 2, 0, psrc P side k, pdst P side k, [], Q.body⟩) := by show Rk = _; rw [HR2.out]; unfold pkt; rw [if_neg (by omega), if_neg (by omega), if_neg (by omega), if_neg (by omega), if_neg (by omega)]
              go_wp2_with fail
              go_meet
              case rel =>
                refine ⟨rfl, none, 0, xa', xc', ?_⟩
                rw [HE.out]
                exact ⟨HM10.out, none, 0, xa', xc', rfl, row_nil _, HR10.out.1, fun _ => rfl, HR10.out.2.1, fun x hx => (by cases hx), fun x hx => Nat.zero_le _⟩
          case rest =>
            obtain ⟨rfl, ao, co, bo, cb, hM11, hv11⟩ := hcut
            have HM11 : Hid _ := hM11
            have kc : ∀ i, wc.cell? ⟨G, i, none⟩ = (ipB Rk (.slice ao Rk.opts.length co) (.slice bo Rk.body.length cb))[i]? := hM11.cell 1 rfl
            have HOk : Hid Rk.Ok := by have := pk2_ok (side := side) hP hk; rw [HRk.out] at this; exact this
            have hB := rbytes_any HOk.out hv11
            have hof := ipOut_bytes HOk.out
            have hpk : pktb P side k = spoil P (ipOut Rk) := by rw [← HRk.out]; rfl
            generalize ipOut Rk = bl at *
            obtain ⟨nb, hnb⟩ : ∃ n, bl.length = n := ⟨_, rfl⟩
            rw [hnb] at hB
            have HBl : Hid (pktb P side k = spoil P bl ∧ IsBytes bl ∧ bl.length ≤ 65535 ∧ bl.length = nb) := ⟨hpk, hof.1, hof.2, hnb⟩
            clear hM11 hv11 hpk hof hnb HRk HOk HR2
            go_wp2_with fail
            refine hB.mono ?_
            rintro e w12 ⟨u, rfl, hown, hb12⟩
            have hM12 := HM11.out.after hb12
            have HB12 : Hid (Below w.heap.size w w12) := hM12.below
            have HU : Hid (w12.ownsRow w.heap.size 5 1 u nb (bl.map (Value.int .u8))) := own_base hown HM11.out.below.size
            have d9 : w12.cell? ⟨w.heap.size, 9, none⟩ = some (.int .u8 P.sp) := hM12.cell 0 rfl 9
            have d8 : w12.cell? ⟨w.heap.size, 8, none⟩ = some (.int .u8 P.n) := hM12.cell 0 rfl 8
            have sp0 := hP.sp.1
            have sp1 := hP.sp.2
            by_cases h7 : P.sp % 8 = 7 ∧ 0 < nb
            · obtain ⟨h7, hz⟩ := h7
              obtain ⟨g, c1, rfl, hg, hc1, hob⟩ := own_shape2 hown HBl.out.2.2.2 hz
              have HOB : Hid (OwnB w12 w.heap.size g c1 bl) := own_base hob HM11.out.below.size
              have HG : Hid (w.heap.size ≤ g) := Nat.le_trans HM11.out.below.size hg
              clear hM12 hown hb12 hB kc HM11 HU hob hg hc1
              have hz' : (0 : Int) < nb := by omega
              obtain ⟨i, hi⟩ : ∃ i : Nat, P.sp % nb = i := ⟨(P.sp % nb).toNat, by have := Int.emod_nonneg P.sp (b := nb) (by omega); omega⟩
              have hit : P.sp.tmod nb = i := by rw [Int.tmod_eq_emod_of_nonneg sp0]; exact hi
              have hin : i < nb := by have := Int.emod_lt_of_pos P.sp (b := nb) hz'; omega
              have hin' : (i : Int) < nb := by omega
              have vs := wrap64_small P.sp sp0 (by omega)
              have hz0 : ¬ (nb : Int) = 0 := by omega
              have vi := wrap64_small (i : Int) (by omega) (by have := HBl.out.2.2.1; have := HBl.out.2.2.2; omega)
              have hi0 : (0 : Int) ≤ (i : Int) := by omega
              have kP := HOB.out.cell i (by have := HBl.out.2.2.2; omega)
              have fP := HOB.out.free i
              have n0 := hP.n.1
              have x8 := HBl.out.2.1 i
              obtain ⟨x, hx⟩ : ∃ x, bl.getD i 0 = x := ⟨_, rfl⟩
              rw [hx] at kP x8
              have HFin : Hid (∀ m y, m = (P.n % 8).toNat → y = bits .xor .u8 x (IntKind.u8.wrap (2 ^ m)) → pktb P side k = bl.set i y) := by
                show ∀ m y, m = (P.n % 8).toNat → y = bits .xor .u8 x (IntKind.u8.wrap (2 ^ m)) → pktb P side k = bl.set i y
                rintro m y rfl rfl
                rw [HBl.out.1]
                unfold spoil
                rw [if_pos ⟨h7, by rw [HBl.out.2.2.2]; exact hz⟩, HBl.out.2.2.2, hi]
                simp only [Int.toNat_natCast, hx]
              clear hx hi
              have nt : P.n.tmod 8 = P.n % 8 := Int.tmod_eq_emod_of_nonneg n0
              have cs : P.n % 8 = 0 ∨ P.n % 8 = 1 ∨ P.n % 8 = 2 ∨ P.n % 8 = 3 ∨ P.n % 8 = 4 ∨ P.n % 8 = 5 ∨ P.n % 8 = 6 ∨ P.n % 8 = 7 := by omega
              go_upto_region 28 with fail
              rcases cs with hr | hr | hr | hr | hr | hr | hr | hr
              all_goals
                rw [hr] at nt
                go_region
                all_goals
                  go_wp2_with fail
                  go_ret
                  exact ⟨_, rfl, spoil_fin HOB.out HBl.out.2.2.2 (HFin.out (P.n % 8).toNat _ rfl (by rw [hr]; rfl)), (below_set HB12.out HG.out).drew⟩
            · have HE : Hid (pktb P side k = bl) := by
                show pktb P side k = bl
                rw [HBl.out.1]
                exact if_neg (by rw [HBl.out.2.2.2]; exact h7)
              obtain ⟨ua, uc, rfl⟩ := own_len hown
              clear hM12 hown hb12 hB kc HM11
              by_cases h8 : P.sp % 8 = 7
              · have hz : nb = 0 := by omega
                subst hz
                clear h7
                go_wp2_with fail
                go_ret
                refine ⟨_, rfl, ?_, HB12.out⟩
                rw [HE.out, HBl.out.2.2.2]
                exact HU.out
              · clear h7
                go_wp2_with fail
                go_ret
                refine ⟨_, rfl, ?_, HB12.out⟩
                rw [HE.out, HBl.out.2.2.2]
                exact HU.out
end Go.Proofs.YtjalpbkfpjfigaaGreat

namespace Go.Proofs.YtjalpbkfpjfigaaGreat
open Go.RowKit
open Sm
set_option linter.unusedVariables false
namespace Sm
theorem pktb_facts {P : Pa} (h : P.Ok) {side k : Int} (hk : 0 ≤ k ∧ k ≤ 255) : IsBytes (pktb P side k) ∧ (pktb P side k).length ≤ 65535 := by
  have hf := ipOut_bytes (pk2_ok (side := side) h hk)
  unfold pktb spoil
  split
  · refine ⟨?_, by rw [List.length_set]; exact hf.2⟩
    rename_i hc
    obtain ⟨-, h0⟩ := hc
    have g0 := Int.emod_nonneg P.sp (b := ((ipOut (pk2 P side k)).length : Int)) (by omega)
    have g1 := Int.emod_lt_of_pos P.sp (b := ((ipOut (pk2 P side k)).length : Int)) (by omega)
    intro j
    rw [getD_set _ _ _ _ (by omega)]
    split
    · have hm : (IntKind.u8.wrap (2 ^ (P.n % 8).toNat)) = ((2 ^ (P.n % 8).toNat % 256 : Nat) : Int) := by simp [IntKind.wrap, IntKind.bits, IntKind.signed]
      rw [hm]
      have r := hf.1 (P.sp % ((ipOut (pk2 P side k)).length : Int)).toNat
      obtain ⟨x, hx⟩ := Int.eq_ofNat_of_zero_le r.1
      rw [hx]
      rw [u8_xor_nat x _ (by omega) (by omega)]
      have hlt : x ^^^ (2 ^ (P.n % 8).toNat % 256) < 2 ^ 8 := Nat.xor_lt_two_pow (by omega) (by omega)
      omega
    · exact hf.1 j
  · exact hf
end Sm
end Go.Proofs.YtjalpbkfpjfigaaGreat

namespace Go.Proofs.YtjalpbkfpjfigaaGreat
open Go.RowKit
open Sm
set_option linter.unusedVariables false
set_option maxRecDepth 20000

/-- The document's own Ip's answer written out. -/
theorem rip_seen {w : World} {a : Option Addr} {n c : Nat} {l : List Int} (hr : Row w a l) (hn : l.length = n) (hc : n ≤ c) :
    Calls Tryz.prog 44 #[.slice a n c] w fun r w' => ∃ ao co bo cb, r = .returned (.tuple #[.agg (ipB (ipRes l) (.slice ao (ipRes l).opts.length co) (.slice bo (ipRes l).body.length cb)), .int .i64 (ipErr l)]) ∧
      IpV w' w.heap.size (.agg (ipB (ipRes l) (.slice ao (ipRes l).opts.length co) (.slice bo (ipRes l).body.length cb))) (ipRes l) ∧ (ipRes l).body.length ≤ cb ∧ Below w.heap.size w w' := by
  refine (rip_cap hr hn hc).mono ?_
  rintro r w' ⟨v, rfl, ⟨hv, hcap⟩, hb⟩
  have hv' := hv
  obtain ⟨ao, co, bo, cb, rfl, -⟩ := hv
  exact ⟨ao, co, bo, cb, rfl, hv', hcap.le, hb⟩

end Go.Proofs.YtjalpbkfpjfigaaGreat

