/-
  The walk of DiskPlays.
-/
import Derived.Test.YtjabckgjnknhnaaDkRound
import Derived.Test.YtjabckgjnknhnaaDkGrowLoop
import Derived.Deep.CutBlock
import Derived.Test.YtjabckgjnknhnaaDkFrame
namespace Go.Proofs.Ytjabckgjnknhnaa
open Go.RowKit
open Sm
set_option linter.unusedVariables false

set_option maxRecDepth 20000 in
set_option maxHeartbeats 2000000 in
theorem plays_core (x y : Int) (a : Option Addr) (n c : Nat) (w : World) (hx0 : -9223372036854775808 ≤ x) (hx1 : x ≤ 9223372036854775807) (hy0 : -9223372036854775808 ≤ y) (hy1 : y ≤ 9223372036854775807) (hA : Acts w a n) :
    Calls Try.prog 3 #[.int .i64 x, .int .i64 y, .slice a n c] w fun e w' => e = .returned (.bool true) ∧ Below w.heap.size w w' := by
  have hk := dknown_any w
  by_cases h60 : 60 < n
  · clear hA
    have h60' : (60 : Int) < n := by omega
    go_enter Try.func3, Try.ntmps3
    go_wp2_with fail
    refine hk.mono ?_
    rintro e w1 ⟨rfl, hb1⟩
    go_wp2
    go_ret
    exact ⟨rfl, hb1⟩
  have hpx := plc_range x 6 (by omega)
  have hpy := plc_range y 200 (by omega)
  have hcx : ∀ W, Calls Try.prog 7 #[.int .i64 x, .int .i64 6] W (fun e w' => e = .returned (.int .i64 (plc x 6)) ∧ W = w') := fun W => place_any x 6 W hx0 hx1 (by omega) (by omega)
  have hcy : ∀ W, Calls Try.prog 7 #[.int .i64 y, .int .i64 200] W (fun e w' => e = .returned (.int .i64 (plc y 200)) ∧ W = w') := fun W => place_any y 200 W hy0 hy1 (by omega) (by omega)
  generalize plc x 6 = X at hpx hcx
  generalize plc y 200 = S at hpy hcy
  obtain ⟨N, hN⟩ : ∃ N : Nat, (N : Int) = max (X - 1) 1 := ⟨(max (X - 1) 1).toNat, by omega⟩
  obtain ⟨m, hm⟩ : ∃ m : Nat, (m : Int) = max S 64 := ⟨(max S 64).toNat, by omega⟩
  have HN : Hid (1 ≤ N ∧ N ≤ 4 ∧ bd (X - 1) 1 64 = N) := ⟨by omega, by omega, by unfold bd; omega⟩
  have HM : Hid (64 ≤ m ∧ m ≤ 199 ∧ bd S 64 65536 = m) := ⟨by omega, by omega, by unfold bd; omega⟩
  have HX : Hid ((N : Int) = max (X - 1) 1) := hN
  have HS : Hid ((m : Int) = max S 64) := hm
  obtain ⟨x0, x1⟩ := hpx
  obtain ⟨y0, y1⟩ := hpy
  clear hN hm hx0 hx1 hy0 hy1
  have h60' : ¬ (60 : Int) < n := by omega
  go_enter Try.func3, Try.ntmps3
  go_wp2_with fail
  refine hk.mono ?_
  rintro e w1 ⟨rfl, hb1⟩
  have HB1 : Hid (Below w.heap.size w w1) := hb1
  have HA : Hid (Acts w1 a n) := hA.below hb1 (Nat.le_refl _)
  clear hk hb1 hA
  go_wp2_with fail
  refine (hcx _).mono ?_
  rintro e w' ⟨rfl, rfl⟩
  clear hcx
  go_wp2_with fail
  refine (hcy _).mono ?_
  rintro e w' ⟨rfl, rfl⟩
  clear hcy
  have hnew := dnew_any (Mem.nil w1) (X - 1) S
  rw [HN.out.2.2, HM.out.2.2, Int.toNat_natCast, Int.toNat_natCast] at hnew
  go_wp2_with fail
  refine hnew.mono ?_
  rintro e w2 ⟨p, rfl, h, hc, ks, H, hB⟩
  have HB : Hid (ks.map Bk.b = List.replicate N (nots m)) := hB
  have HH : Hid (DkAt w1 w2 p h m D0 hc ks []) := H
  clear hnew H hB
  have HG0 : Hid (Grow w1 (w2.alloc (.cells (mdN (.slice none 0 0) m) mdT)) p h m hc ks w2.heap.size (.slice none 0 0) 0) :=
    ⟨_, HH.out.of (HH.out.st.alloc _), Or.inl ⟨rfl, rfl, rfl⟩⟩
  go_upto_region 8 with fail
  go_cut [8] from 19 (fun v wx => ∃ q, v = .pointer (some ⟨q, 0, none⟩) ∧ Grow w1 wx p h m hc ks q (.slice none 0 0) 0)
  case first =>
    by_cases hS : S < 64
    · have e : (m : Int) = 64 := by have := HS.out; omega
      go_wp2_with fail
      go_meet
      case rel => exact ⟨w2.heap.size, rfl, by have g := HG0.out; rw [mdN, e] at g; exact g⟩
    · have e : (m : Int) = S := by have := HS.out; omega
      go_wp2_with fail
      go_meet
      case rel => exact ⟨w2.heap.size, rfl, by have g := HG0.out; rw [mdN, e] at g; exact g⟩
  case rest =>
    obtain ⟨q, rfl, hG⟩ := hcut
    clear HG0 HH
    go_upto_block 0 with fail
    refine wp_cut (fun a' w' => a'.defers = [] ∧ a'.tmps.size = 301 ∧ a'.tmps.getD 2 undef = .slice a n c ∧ a'.tmps.getD 7 undef = .pointer (some ⟨p, 0, none⟩) ∧ a'.tmps.getD 8 undef = .pointer (some ⟨q, 0, none⟩) ∧ ∃ v, Grow w1 w' p h m hc ks q v N) ?rest ?first
    case first =>
      intro J K2 hJ hK2
      refine grow_loop (X := X) (s2 := .slice a n c) (s7 := .pointer (some ⟨p, 0, none⟩)) rfl rfl rfl rfl rfl rfl rfl hG HX.out HN.out.2.1 HM.out.2.1 _ ?_ K2 _ (fun a' w' r1 r2 r3 r4 r5 r6 => hK2 _ _ (Met.intro (hJ _ _ ⟨r1, r2, r3, r4, r5, r6⟩)))
      with_unfolding_all rfl
    case rest =>
      clear hG
      rintro a' wc ⟨hdf, hsz, y2, y7, y8, v, hG⟩
      obtain ⟨f, hf, ha⟩ := frame301 a' hdf hsz
      rw [hf] at y2 y7 y8
      simp only [y2, y7, y8] at ha
      clear hf y2 y7 y8 hsz hdf
      subst ha
      obtain ⟨hm, cm, hcm, km, rfl, hlen, hP⟩ := hG.pl (by have := HN.out; omega) HB.out
      have HP : Hid (Pl w1 wc p h m D0 hc ks q hm cm D0 hcm km []) := hP
      have HL : Hid (km.length = N ∧ ks.length = N) := ⟨hlen, hP.len.trans hlen⟩
      have c0 := hG.box 0
      have c1 := hG.box 1
      simp at c0 c1
      have n0 : ((N : Int) != (N : Int)) = false := by simp
      have n1 : ((m : Int) != (m : Int)) = false := by simp
      have HCB : Hid (∀ k, Calls Try.prog 9 #[.pointer (some ⟨p, 0, none⟩)] (wc.drewN k) fun e w' => e = .returned (.int .i64 N) ∧ wc.drewN k = w') := fun k => by
        have hq := dblocks_any (HP.out.drewN k).d
        rw [HL.out.2] at hq; exact hq
      have HCS : Hid (∀ k, Calls Try.prog 10 #[.pointer (some ⟨p, 0, none⟩)] (wc.drewN k) fun e w' => e = .returned (.int .i64 m) ∧ wc.drewN k = w') := fun k => dsize_any (HP.out.drewN k).d
      clear hG hP hlen
      go_upto_region 13 with fail
      go_quiet (first | (go_at_call 9; exact quiet_of_eq (HCB.out _)) | (go_at_call 10; exact quiet_of_eq (HCS.out _)))
      go_upto_region 16 with fail
      have HP0 : Hid (Pl w1 (wc.drewN nq) p h m D0 hc ks q hm cm D0 hcm km []) := HP.out.drewN nq
      clear HP HCB HCS c0 c1 n0 n1
      refine wp_loop (fun a' w' => a'.defers = [] ∧ a'.tmps.size = 301 ∧ ∃ i : Nat, i ≤ n ∧ a'.tmps.getD 2 undef = .slice a n c ∧ a'.tmps.getD 8 undef = .pointer (some ⟨q, 0, none⟩) ∧ a'.tmps.getD 10 undef = .int .i64 i ∧
        ∃ p h D hc ks hm cm M hcm km, a'.tmps.getD 7 undef = .pointer (some ⟨p, 0, none⟩) ∧ km.length = N ∧ Pl w1 w' p h m D hc ks q hm cm M hcm km []) (fun a' _ => n - (intOf (a'.tmps.getD 10 undef)).toNat) ?atStart ?round
      case atStart => exact ⟨rfl, rfl, 0, Nat.zero_le _, rfl, rfl, rfl, p, h, _, hc, ks, hm, cm, _, hcm, km, rfl, HL.out.1, HP0.out⟩
      case round =>
        clear HP0 HL HB
        clear hc ks hm cm hcm km h p
        rintro a' wr ⟨hdf, hsz, i, hi, s2, s8, s10, p, h, D, hc, ks, hm, cm, M, hcm, km, s7, hlen, hP⟩
        obtain ⟨f, hf, ha⟩ := frame301 a' hdf hsz
        rw [hf] at s2 s8 s10 s7
        simp only [s2, s8, s10, s7] at ha
        clear hf s2 s8 s10 s7 hsz hdf
        subst ha
        by_cases hlt : i < n
        · have q0 : (i : Int) < (n : Int) := by omega
          have HI : Hid (i ≤ n) := hi
          have HP : Hid (Pl w1 wr p h m D hc ks q hm cm M hcm km [] ∧ km.length = N) := ⟨hP, hlen⟩
          clear hP hlen hi
          go_upto_block 3 with fail
          refine wp_cut (Mr w1 N m q (.slice a n c) (.int .i64 i)) ?rest ?first
          case first =>
            intro J K2 hJ hK2
            refine round_ok (w1 := w1) (p := p) (h := h) (hm := hm) (cm := cm) (D := D) (M := M) (hc := hc) (hcm := hcm) (ks := ks) (km := km) rfl rfl rfl rfl rfl rfl hlt HA.out HP.out.1 HP.out.2 HN.out.1 HN.out.2.1 HM.out.1 HM.out.2.1 q0 _ ?_ K2 _ (fun a' w' hr => hK2 _ _ (Met.intro (hJ _ _ hr)))
            with_unfolding_all rfl
          case rest =>
            rintro a' wc ⟨hdf, hsz, s2, s8, s10, hrest⟩
            obtain ⟨f2, hf, ha⟩ := frame301 a' hdf hsz
            have HR : Hid (∃ p h D hc ks hm cm M hcm km, f2 7 = .pointer (some ⟨p, 0, none⟩) ∧ km.length = N ∧ Pl w1 wc p h m D hc ks q hm cm M hcm km []) := by
              obtain ⟨p, h, D, hc, ks, hm, cm, M, hcm, km, e7, r⟩ := hrest
              exact ⟨p, h, D, hc, ks, hm, cm, M, hcm, km, (hf 7).symm.trans e7, r⟩
            rw [hf] at s2 s8 s10
            simp only [s2, s8, s10] at ha
            clear hf s2 s8 s10 hsz hdf hrest
            subst ha
            have i9 : (i : Int) ≤ 60 := by omega
            go_wp2
            refine ⟨⟨by first | trivial | rfl, rfl, i + 1, by omega, rfl, rfl, ?_, HR.out⟩, ?_⟩
            · show Value.int IntKind.i64 ((i : Int) + 1) = _
              exact congrArg (Value.int IntKind.i64) (by omega)
            · show n - (intOf (Value.int IntKind.i64 ((i : Int) + 1))).toNat < n - (intOf (Value.int IntKind.i64 (i : Int))).toNat
              simp only [intOf]; omega
        · have HP : Hid (Pl w1 wr p h m D hc ks q hm cm M hcm km []) := hP
          have q0 : ¬ (i : Int) < (n : Int) := by omega
          clear hP hlen
          go_wp2
          go_ret
          exact ⟨rfl, HB1.out.trans (HP.out.d.st.below.mono HB1.out.size)⟩
end Go.Proofs.Ytjabckgjnknhnaa
