/-
  DiskPlays: a round, as a piece of the function's own code.
-/
import Derived.Test.YtjabckgjnknhnaaDkSwAll
namespace Go.Proofs.Ytjabckgjnknhnaa
open Go.RowKit
open Sm
set_option linter.unusedVariables false

/-- What a round leaves. -/
def Mr (w1 : World) (N m q : Nat) (s2 s10 : Value) (a' : Act) (w' : World) : Prop :=
  a'.defers = [] ∧ a'.tmps.size = 301 ∧ a'.tmps.getD 2 undef = s2 ∧ a'.tmps.getD 8 undef = .pointer (some ⟨q, 0, none⟩) ∧ a'.tmps.getD 10 undef = s10 ∧
    ∃ p h D hc ks hm cm M hcm km, a'.tmps.getD 7 undef = .pointer (some ⟨p, 0, none⟩) ∧ km.length = N ∧ Pl w1 w' p h m D hc ks q hm cm M hcm km []

set_option maxRecDepth 20000 in
set_option maxHeartbeats 4000000 in
theorem round_ok {w1 wr : World} {N m q p h hm cm n c i : Nat} {al : Option Addr} {D M : Dk} {hc hcm : Array Value} {ks km : List Bk} {a : Act} (df : a.defers = []) (sz : a.tmps.size = 301)
    (g2 : a.tmps.getD 2 undef = .slice al n c) (g7 : a.tmps.getD 7 undef = .pointer (some ⟨p, 0, none⟩)) (g8 : a.tmps.getD 8 undef = .pointer (some ⟨q, 0, none⟩)) (g10 : a.tmps.getD 10 undef = .int .i64 i)
    (hlt : i < n) (HA : Acts w1 al n) (hP : Pl w1 wr p h m D hc ks q hm cm M hcm km []) (hlen : km.length = N) (N1 : 1 ≤ N) (N4 : N ≤ 4) (m0 : 64 ≤ m) (m1 : m ≤ 199) (q0 : (i : Int) < (n : Int))
    (cd : Code) (hcd : blk 3 (Try.f3.body.getD .skip) = some cd) (K' : Act → World → Prop) (Q : Exit → Act → World → Prop) (hK : ∀ a' w', Mr w1 N m q (.slice al n c) (.int .i64 i) a' w' → K' a' w') : Code.wp Try.prog cd (Exit.then K' Q) a wr := by
  conv at hcd => lhs; whnf
  injection hcd with hcd
  subst hcd
  obtain ⟨f, hf, ha⟩ := frame301 a df sz
  have x2 := (hf 2).symm.trans g2
  have x7 := (hf 7).symm.trans g7
  have x8 := (hf 8).symm.trans g8
  have x10 := (hf 10).symm.trans g10
  simp only [x2, x7, x8, x10] at ha
  have HN : Hid (1 ≤ N ∧ N ≤ 4) := ⟨N1, N4⟩
  have HM : Hid (64 ≤ m ∧ m ≤ 199) := ⟨m0, m1⟩
  have HK : Hid (∀ a' w', Mr w1 N m q (.slice al n c) (.int .i64 i) a' w' → K' a' w') := hK
  clear hf x2 x7 x8 x10 g2 g7 g8 g10 df sz hK N1 N4 m0 m1
  subst ha
  obtain ⟨b, off, rfl, hAt⟩ : ∃ b off, al = some ⟨b, off, none⟩ ∧ ∀ i, i < n → ∃ c : Ac, c.Ok ∧ AcAt w1 b (off + i * 5) c := by
    rcases HA with e | e
    · omega
    · exact e
  obtain ⟨C, hCo, hC0⟩ := hAt i hlt
  have hC : AcAt wr b (off + i * 5) C := by
    have hlt2 := cell_lt hC0.c0
    have key : ∀ j, wr.cell? ⟨b, j, none⟩ = w1.cell? ⟨b, j, none⟩ := fun j => hP.d.st.below.cell (p := ⟨b, j, none⟩) hlt2
    exact ⟨by rw [key]; exact hC0.c0, by rw [key]; exact hC0.c1, by rw [key]; exact hC0.c2, by rw [key]; exact hC0.c3, by rw [key]; exact hC0.c4⟩
  have k0 := hC.c0
  have k1 := hC.c1
  have k2 := hC.c2
  have k3 := hC.c3
  have k4 := hC.c4
  have HP : Hid (Pl w1 wr p h m D hc ks q hm cm M hcm km []) := hP
  have HL : Hid (km.length = N ∧ ks.length = N) := ⟨hlen, hP.len.trans hlen⟩
  have HC : Hid C.Ok := hCo
  have hPx : Pl w1 (wr.alloc (.cells (acA C) acT)) p h m D hc ks q hm cm M hcm km [(wr.heap.size, .cells (acA C) acT (0, 0))] := hP.more ((Mem.nil wr).push1 rfl)
  have HPx : Hid (Pl w1 (wr.alloc (.cells (acA C) acT)) p h m D hc ks q hm cm M hcm km [(wr.heap.size, .cells (acA C) acT (0, 0))]) := hPx
  clear hP hC hC0 hAt hCo hlen hPx
  go_upto_region 19 with fail
  generalize wr.heap.size = gx at HPx ⊢
  refine wp_letter (fun W => Pl w1 W p h m D hc ks q hm cm M hcm km [(gx, .cells (acA C) acT (0, 0))]) HPx.out ?_
  intro wa hPa
  have HPa : Hid (Pl w1 wa p h m D hc ks q hm cm M hcm km [(gx, .cells (acA C) acT (0, 0))]) := hPa
  have e1 := hPa.extra (List.mem_singleton.mpr rfl) 1
  have d0 := hPa.e.st.box 0
  simp at e1 d0
  rw [HL.out.1] at d0
  have HPL : Hid (∀ k, Calls Try.prog 7 #[.int .i64 C.i, .int .i64 ((N : Int) + 2)] (wa.drewN k) fun e w' => e = .returned (.int .i64 (plc C.i (N + 2))) ∧ wa.drewN k = w') := fun k => place_any C.i (N + 2) _ HC.out.i.1 HC.out.i.2 (by have := HN.out; omega) (by have := HN.out; omega)
  have hpr := plc_range C.i ((N : Int) + 2) (by have := HN.out; omega)
  generalize plc C.i ((N : Int) + 2) = T at HPL hpr
  have hN4 : (N : Int) ≤ 4 := by have := HN.out; omega
  have w4 : IntKind.i64.wrap ((N : Int) + 2) = (N : Int) + 2 := by rw [IntKind.wrap_i64]; omega
  have w5 : IntKind.i64.wrap (T - 1) = T - 1 := by rw [IntKind.wrap_i64]; omega
  clear HPx k0 k1 k2 k3 k4 hPa HP
  go_quiet (first | (go_at_call 7; exact quiet_of_eq (HPL.out _)))
  have HPb : Hid (Pl w1 (wa.drewN nq) p h m D hc ks q hm cm M hcm km [(gx, .cells (acA C) acT (0, 0))]) := HPa.out.drewN nq
  clear HPa HPL e1 d0 w4 w5
  go_upto_region 20 with fail
  refine wp_letter (fun W => Pl w1 W p h m D hc ks q hm cm M hcm km [(gx, .cells (acA C) acT (0, 0))]) HPb.out ?_
  intro wb hPb
  clear HPb
  have HPb : Hid (Pl w1 wb p h m D hc ks q hm cm M hcm km [(gx, .cells (acA C) acT (0, 0))]) := hPb
  have e0 := hPb.extra (List.mem_singleton.mpr rfl) 0
  simp at e0
  clear hPb
  go_upto_block 4 with fail
  refine wp_cut (Mt w1 N m q (.slice (some ⟨b, off, none⟩) n c) (.int .i64 i) (.int .i64 (T - 1))) ?rest ?first
  case first =>
    intro J K2 hJ hK2
    refine sw_all (w1 := w1) (wb := wb) (N := N) (m := m) (q := q) (p := p) (h := h) (hm := hm) (cm := cm) (gx := gx) (D := D) (M := M) (hc := hc) (hcm := hcm) (ks := ks) (km := km) (C := C) (t := T - 1) (s2 := .slice (some ⟨b, off, none⟩) n c) (s10 := .int .i64 i)
      ⟨rfl, rfl, rfl, rfl, rfl, rfl, rfl, rfl, rfl, HPb.out, HL.out.1, HN.out.1, HN.out.2, HM.out.1, HM.out.2, HC.out, by omega, by omega⟩ _ ?_ K2 _ (fun a' w' hr => hK2 _ _ (Met.intro (hJ _ _ hr)))
    with_unfolding_all rfl
  case rest =>
    clear HPb e0 HL
    clear hc ks hm cm hcm km h D M
    rintro a' wc ⟨hdf, hsz, s2, s8, s10, s12, p, h, D, hc, ks, hm, cm, M, hcm, km, s7, hlen, hP⟩
    obtain ⟨f, hf, ha⟩ := frame301 a' hdf hsz
    rw [hf] at s2 s8 s10 s12 s7
    simp only [s2, s8, s10, s12, s7] at ha
    clear hf s2 s8 s10 s12 s7 hsz hdf
    subst ha
    have ht : -1 ≤ T - 1 ∧ T - 1 ≤ N := by omega
    generalize T - 1 = t at ht ⊢
    have HL : Hid (km.length = N ∧ ks.length = N) := ⟨hlen, hP.len.trans hlen⟩
    have HP : Hid (Pl w1 wc p h m D hc ks q hm cm M hcm km []) := hP
    have c2 := hP.e.st.box 2
    simp at c2
    rw [← hP.rel.dead] at c2
    have HDD : Hid (∀ k, Calls Try.prog 17 #[.pointer (some ⟨p, 0, none⟩)] (wc.drewN k) fun e w' => e = .returned (.bool D.dead) ∧ wc.drewN k = w') := fun k => ddead_any (HP.out.drewN k).d
    clear hlen hP
    have ln : ((0 : Int) != 0) = false := by simp
    have l42 : ((42 : Int) != 42) = false := by simp
    have l40 : ((40 : Int) != 40) = false := by simp
    rcases Bool.eq_false_or_eq_true D.dead with hdd | hdd
    · rw [hdd] at c2 HDD
      have hbb : (true != true) = false := rfl
      have HHD : Hid (D.dead = true) := hdd
      clear hdd
      go_upto_region 51 with fail
      go_quiet (first | (go_at_call 17; exact quiet_of_eq (HDD.out _)))
      go_upto_region 53 with fail
      refine wp_letter (fun W => Pl w1 W p h m D hc ks q hm cm M hcm km []) (HP.out.drewN nq) ?_
      intro wd hPd
      clear HP HDD c2
      have HPd : Hid (Pl w1 wd p h m D hc ks q hm cm M hcm km []) := hPd
      have c2 := hPd.e.st.box 2
      simp at c2
      rw [← hPd.rel.dead, HHD.out] at c2
      have hr := dread_no hPd.d t (Or.inl HHD.out)
      rw [rdErr, if_pos HHD.out] at hr
      clear hPd
      go_wp2_with fail
      refine hr.mono ?_
      rintro e w' ⟨rfl, rfl⟩
      go_wp2
      exact HK.out _ _ ⟨by first | trivial | rfl, rfl, rfl, rfl, rfl, p, _, D, hc, ks, hm, cm, M, hcm, km, rfl, HL.out.1, HPd.out⟩
    · rw [hdd] at c2 HDD
      have hbb : (false != false) = false := rfl
      have HHD : Hid (D.dead = false) := hdd
      clear hdd
      go_upto_region 51 with fail
      go_quiet (first | (go_at_call 17; exact quiet_of_eq (HDD.out _)))
      go_upto_region 53 with fail
      refine wp_letter (fun W => Pl w1 W p h m D hc ks q hm cm M hcm km []) (HP.out.drewN nq) ?_
      intro wd hPd
      clear HP HDD c2
      have HPd : Hid (Pl w1 wd p h m D hc ks q hm cm M hcm km []) := hPd
      by_cases hin : 0 ≤ t ∧ t < N
      · obtain ⟨j, rfl, hj⟩ := place_small hin.1 hin.2
        obtain ⟨k, hk⟩ : ∃ k, ks[j]? = some k := ⟨_, List.getElem?_eq_getElem (by rw [HL.out.2]; exact hj)⟩
        obtain ⟨kk, hkk⟩ : ∃ k, km[j]? = some k := ⟨_, List.getElem?_eq_getElem (by rw [HL.out.1]; exact hj)⟩
        have hsame : kk.b = k.b := by
          have e := congrArg (fun l => l[j]?) hPd.same
          simp only [List.getElem?_map, hk, hkk, Option.map_some, Option.some.injEq] at e
          exact e.symm
        have hr := dread_yes hPd.d j hk HHD.out
        have HKK : Hid (ks[j]? = some k ∧ km[j]? = some kk ∧ kk.b = k.b ∧ k.b.length = m ∧ IsBytes k.b) := ⟨hk, hkk, hsame, (hPd.d.st.okAt hk).len, (hPd.d.st.okAt hk).bytes⟩
        have j0 : ¬ (j : Int) < 0 := by omega
        have j1 : (j : Int) < (N : Int) := by omega
        clear hPd hk hkk hsame
        go_wp2_with fail
        refine hr.mono ?_
        rintro e we ⟨g, rfl, hmg⟩
        have hPe : Pl w1 we p h m D hc ks q hm cm M hcm km [(g, .cells (bs k.b) 5 (0, 0))] := HPd.out.more hmg
        have c0 := hPe.e.st.box 0
        have c2 := hPe.e.st.box 2
        simp at c0 c2
        rw [← hPe.rel.dead, HHD.out] at c2
        rw [HL.out.1] at c0
        have ch := hPe.e.st.head HKK.out.2.1
        have hbt := hbytes_yes (hPe.extraRow (List.mem_singleton.mpr rfl) HKK.out.2.2.2.2 (by rw [HKK.out.2.2.2.1]; have := HM.out; omega)) (by have q := hPe.e.st.row HKK.out.2.1 (by have := HM.out; omega); rw [HKK.out.2.2.1] at q; exact q) m m HKK.out.2.2.2.1 HKK.out.2.2.2.1 m kk.cap
        have HPe : Hid (Pl w1 we p h m D hc ks q hm cm M hcm km []) := hPe.less
        clear hPe hmg hr HPd
        go_wp2_with fail
        refine hbt.mono ?_
        rintro e w' ⟨rfl, rfl⟩
        go_wp2
        exact HK.out _ _ ⟨by first | trivial | rfl, rfl, rfl, rfl, rfl, p, _, D, hc, ks, hm, cm, M, hcm, km, rfl, HL.out.1, HPe.out⟩
      · have hno : dIn ks.length t = false := by
          rw [HL.out.2]
          cases hq : dIn N t
          · rfl
          · exact absurd (by simpa [dIn] using hq) hin
        have hr := dread_no hPd.d t (Or.inr hno)
        rw [rdErr, if_neg (by rw [HHD.out]; decide), if_neg (by rw [hno]; decide)] at hr
        have c0 := hPd.e.st.box 0
        have c2 := hPd.e.st.box 2
        simp at c0 c2
        rw [← hPd.rel.dead, HHD.out] at c2
        rw [HL.out.1] at c0
        clear hPd hno
        obtain hto | ⟨ht0, ht1⟩ : t < 0 ∨ (0 ≤ t ∧ (N : Int) ≤ t) := by omega
        all_goals
          clear hin
          go_wp2_with fail
          refine hr.mono ?_
          rintro e w' ⟨rfl, rfl⟩
          go_wp2
          exact HK.out _ _ ⟨by first | trivial | rfl, rfl, rfl, rfl, rfl, p, _, D, hc, ks, hm, cm, M, hcm, km, rfl, HL.out.1, HPd.out⟩
end Go.Proofs.Ytjabckgjnknhnaa
