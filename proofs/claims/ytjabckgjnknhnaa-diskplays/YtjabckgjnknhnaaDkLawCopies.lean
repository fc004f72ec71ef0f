/-
  The walk of DiskCopies.
-/
import Derived.Test.YtjabckgjnknhnaaDkKnown
import Derived.Test.YtjabckgjnknhnaaDkCopy
import Derived.Test.YtjabckgjnknhnaaSum
import Derived.Test.YtjabckgjnknhnaaHelp
namespace Go.Proofs.Ytjabckgjnknhnaa
open Go.RowKit
open Sm
set_option linter.unusedVariables false

theorem Mem.rowIn {w W : World} {L : List (Nat × Obj)} (h : Mem w W L) {g : Nat} {l : List Int} {t : TypeId} (hm : (g, Obj.cells (bs l) t (0, 0)) ∈ L) (hb : IsBytes l) (hl : l.length ≤ 140737488351232) : Row W (some ⟨g, 0, none⟩) l := by
  obtain ⟨i, hi, e⟩ := List.mem_iff_getElem.mp hm
  exact h.own i (by rw [List.getElem?_eq_getElem hi, e]) hb hl
theorem St.rowIn {w W : World} {p : Nat} {A : Array Value} {T : TypeId} {h m : Nat} {hc : Array Value} {ks : List Bk} {L : List (Nat × Obj)} (s : St w W p A T h m hc ks L) {g : Nat} {l : List Int} {t : TypeId} (hm : (g, Obj.cells (bs l) t (0, 0)) ∈ L) (hb : IsBytes l) (hl : l.length ≤ 140737488351232) :
    Row W (some ⟨g, 0, none⟩) l := s.mem.rowIn (List.mem_cons_of_mem _ (List.mem_cons_of_mem _ (List.mem_append_right _ hm))) hb hl

/-- What a block of 64 noughts is when bytes were copied into it. -/
def into (l : List Int) : List Int := l.take 64 ++ List.replicate (64 - (l.take 64).length) 0
theorem into_len (l : List Int) : (into l).length = 64 := by simp [into]; omega
theorem into_bytes {l : List Int} (h : IsBytes (l.take 64)) : IsBytes (into l) := bytes_append h (rep_bytes _ 0 (by omega) (by omega))
theorem into_new (l : List Int) : (bs (into l)).toList = (bs (List.replicate 64 0)).toList.take 0 ++ ((l.take 64).map (Value.int .u8) ++ (bs (List.replicate 64 0)).toList.drop (0 + (l.take 64).length)) := by
  have e : ∀ k, (bs (List.replicate k 0)).toList = List.replicate k (Value.int .u8 0) := fun k => by simp
  rw [e, List.take_zero, List.nil_append, Nat.zero_add, List.drop_replicate]
  show (into l).map _ = _
  rw [into, List.map_append, List.map_replicate]

/-- The same store, seen with the other one ahead. -/
theorem DkAt.other {w W : World} {p h m : Nat} {D : Dk} {hc : Array Value} {ks : List Bk} {L : List (Nat × Obj)} {p2 h2 : Nat} {D2 : Dk} {hc2 : Array Value} {ks2 : List Bk} (H : DkAt w W p h m D hc ks (stL p2 (dkA h2 ks2.length D2) dkT h2 hc2 ks2 L))
    {W0 : World} {m2 : Nat} {L0 : List (Nat × Obj)} (H2 : DkAt w W0 p2 h2 m2 D2 hc2 ks2 L0) : DkAt w W p2 h2 m2 D2 hc2 ks2 (stL p (dkA h ks.length D) dkT h hc ks L) :=
  ⟨H.st.swap H2.st.heads H2.st.ok, H2.pos, H2.top, H2.mlo, H2.mhi, H2.left, H2.pre⟩

theorem bl_at {ks : List Bk} {bl : List (List Int)} (h : ks.map Bk.b = bl) {i : Nat} {b : List Int} (hi : bl[i]? = some b) : ∃ k, ks[i]? = some k ∧ k.b = b := by
  rw [← h, List.getElem?_map] at hi
  exact Option.map_eq_some_iff.mp hi

set_option maxRecDepth 20000 in
set_option maxHeartbeats 2000000 in
theorem copies_core (a : Option Addr) (n c : Nat) (l : List Int) (a1 : Option Addr) (n1 c1 : Nat) (l1 : List Int) (z : Int) (w : World) (hl : l.length = n) (hr : ∀ k, k ≤ n → k ≤ 140737488351232 → Row w a (l.take k))
    (hl1 : l1.length = n1) (hr1 : ∀ k, k ≤ n1 → k ≤ 140737488351232 → Row w a1 (l1.take k)) (hz0 : -9223372036854775808 ≤ z) (hz1 : z ≤ 9223372036854775807) :
    Calls Try.prog 5 #[.slice a n c, .slice a1 n1 c1, .int .i64 z] w fun e w' => e = .returned (.bool true) ∧ Below w.heap.size w w' := by
  have hk := dknown_any w
  have tk : ∀ (q : List Int) (n : Nat), q.length = n → q.take (Nat.min n 64) = q.take 64 := by
    intro q n hq
    by_cases e : n ≤ 64
    · rw [show Nat.min n 64 = n from Nat.min_eq_left e, List.take_of_length_le (by omega), List.take_of_length_le (by omega)]
    · rw [show Nat.min n 64 = 64 from Nat.min_eq_right (by omega)]
  have HR : Hid (Row w a (l.take 64) ∧ (l.take 64).length = Nat.min n 64) := by
    have := hr (Nat.min n 64) (Nat.min_le_left _ _) (Nat.le_trans (Nat.min_le_right _ _) (by omega))
    rw [tk l n hl] at this
    exact ⟨this, by rw [List.length_take, hl]; exact Nat.min_comm _ _⟩
  have HR1 : Hid (Row w a1 (l1.take 64) ∧ (l1.take 64).length = Nat.min n1 64) := by
    have := hr1 (Nat.min n1 64) (Nat.min_le_left _ _) (Nat.le_trans (Nat.min_le_right _ _) (by omega))
    rw [tk l1 n1 hl1] at this
    exact ⟨this, by rw [List.length_take, hl1]; exact Nat.min_comm _ _⟩
  clear tk hr hr1 hl hl1
  go_enter Try.func5, Try.ntmps5
  go_wp2_with fail
  refine hk.mono ?_
  rintro e w1 ⟨rfl, hb1⟩
  clear hk
  obtain ⟨Z, hZ⟩ : ∃ Z, Z = bs (List.replicate 64 0) := ⟨_, rfl⟩
  have HZ : Hid (Z = bs (List.replicate 64 0)) := hZ
  have mk1 : ∀ W : World, (Instr.makeSlice 31 (.int .i64 64) (.int .i64 64)).run Try.prog W = .ok (.slice (some ⟨W.heap.size, 0, none⟩) 64 64) (W.alloc (.cells Z 5)) := fun W => by rw [hZ, ← bs_made]; exact make_bytes 64 (by omega) W
  clear hZ
  go_upto_region 3 with fail
  go_cut [7, 8] from 17 (fun u v wx => ∃ g1 g2, u = .slice (some ⟨g1, 0, none⟩) 64 64 ∧ v = .slice (some ⟨g2, 0, none⟩) 64 64 ∧ Mem w1 wx [(g1, .cells Z 5 (0, 0)), (g2, .cells Z 5 (0, 0))])
  case first =>
    go_region
    all_goals
      go_wp2_with fail
      go_meet
    case rel => exact ⟨w1.heap.size, w1.heap.size + 1, rfl, rfl, (((Mem.nil w1).push1 rfl).push2 (by simp)).drew⟩
    case rel => exact ⟨w1.heap.size + 1, w1.heap.size, rfl, rfl, ((((Mem.nil w1).push1 rfl).push2 (by simp)).drew).perm (List.Perm.swap _ _ _)⟩
  case rest =>
    obtain ⟨g1, g2, rfl, rfl, hM0⟩ := hcut
    rw [HZ.out] at hM0
    have cp : ∀ {W : World} {ao : Option Addr} {q : List Int} {n cap g : Nat}, Row W ao (q.take 64) → (q.take 64).length = Nat.min n 64 → W.heap[g]? = some (.cells (bs (List.replicate 64 0)) 5 (0, 0)) →
        ∃ w', (Builtin.copy_ #[31, 31] 3 #[.slice (some ⟨g, 0, none⟩) 64 64, .slice ao n cap]).run Try.prog W = .ok (.int .i64 ((q.take 64).length : Nat)) w' ∧ Wrote W w' g (bs (into q)) 5 := by
      intro W ao q n cap g hr hl hg
      exact copy_bytes W 3 (some ⟨g, 0, none⟩) ao 64 64 n cap g 0 _ (bs (into q)) 5 hg (q.take 64) hl
        (fun hp => by
          rcases hr.cells with e | ⟨b, off, rfl, hc⟩
          · rw [e] at hp; simp at hp
          · exact ⟨rfl, _, rfl, hr.news⟩) (by rw [bs_size, List.length_replicate, List.length_take]; omega) (into_new q)
    obtain ⟨w2, hc1, hw2⟩ := cp (cap := c) ((HR.out.1.below hb1 (Nat.le_refl _)).below hM0.below (Nat.le_refl _)) HR.out.2 (hM0.get 0 rfl)
    have hM1 := hM0.wrote 0 rfl hw2
    obtain ⟨w3, hc2, hw3⟩ := cp (cap := c1) ((HR1.out.1.below hb1 (Nat.le_refl _)).below hM1.below (Nat.le_refl _)) HR1.out.2 (hM1.get 1 rfl)
    have hM2 : Mem w1 w3 [(g1, .cells (bs (into l)) 5 (0, 0)), (g2, .cells (bs (into l1)) 5 (0, 0))] := hM1.wrote 1 rfl hw3
    generalize ((l.take 64).length : Nat) = y1 at hc1
    generalize ((l1.take 64).length : Nat) = y2 at hc2
    have HX : Hid (IsBytes (into l) ∧ (into l).length = 64) := ⟨into_bytes HR.out.1.bytes, into_len l⟩
    have HY : Hid (IsBytes (into l1) ∧ (into l1).length = 64) := ⟨into_bytes HR1.out.1.bytes, into_len l1⟩
    have hN := dnew_any hM2 3 64
    generalize into l = X at hN HX
    generalize into l1 = Y at hN HY
    have HB1 : Hid (Below w.heap.size w w1) := hb1
    clear hM0 hM1 hM2 hw2 hw3 cp HR HR1 hb1
    go_wp2_with fail
    refine hN.mono ?_
    rintro e w4 ⟨p, rfl, h, hc, ks, H, hB⟩
    rw [show (bd 64 64 65536).toNat = 64 by decide] at H hB
    rw [show (bd 3 1 64).toNat = 3 by decide] at hB
    have hlen : ks.length = 3 := by have := congrArg List.length hB; rwa [List.length_map, List.length_replicate] at this
    have HL : Hid (ks.length = 3) := hlen
    have HB : Hid (ks.map Bk.b = [List.replicate 64 0, List.replicate 64 0, List.replicate 64 0]) := hB
    have HRX : Hid (∀ W p D h hc ks L, St w1 W p (dkA h ks.length D) dkT h 64 hc ks L → (g1, Obj.cells (bs X) 5 (0, 0)) ∈ L → Row W (some ⟨g1, 0, none⟩) X) := fun W p D h hc ks L hs hm => hs.rowIn hm HX.out.1 (by rw [HX.out.2]; omega)
    have HRY : Hid (∀ W p D h hc ks L, St w1 W p (dkA h ks.length D) dkT h 64 hc ks L → (g2, Obj.cells (bs Y) 5 (0, 0)) ∈ L → Row W (some ⟨g2, 0, none⟩) Y) := fun W p D h hc ks L hs hm => hs.rowIn hm HY.out.1 (by rw [HY.out.2]; omega)
    have hplace : ∀ W, Calls Try.prog 7 #[.int .i64 z, .int .i64 2] W (fun e w' => e = .returned (.int .i64 (plc z 2)) ∧ W = w') := fun W => place_any z 2 W hz0 hz1 (by omega) (by omega)
    have hpr := plc_range z 2 (by omega)
    clear hN hlen hB hc1 hc2 hz0 hz1
    obtain hp | hp : plc z 2 = 0 ∨ plc z 2 = 1 := by omega
    · rw [hp] at hplace
      clear hpr hp
      have hw1 := dwrite_any H HX.out.2 (HRX.out _ _ _ _ _ _ _ H.st (by simp)) (cap := 64) (by omega) 1
      rw [HL.out] at hw1
      go_wp2_with fail
      refine hw1.mono ?_
      rintro e w5 ⟨rfl, ks5, H5, hB5⟩
      rw [show wD ⟨false, false, 0, 0⟩ 3 64 1 64 = ⟨false, false, 0, 0⟩ by rfl] at H5
      have hB5' : ks5.map Bk.b = [List.replicate 64 0, X, List.replicate 64 0] := by rw [hB5, HB.out, wB, HX.out.2]; rfl
      have hL5 : ks5.length = 3 := by have := congrArg List.length hB5'; rwa [List.length_map] at this
      have HB5 : Hid (ks5.map Bk.b = [List.replicate 64 0, X, List.replicate 64 0]) := hB5'
      have e5 : wErr ⟨false, false, 0, 0⟩ 3 64 1 64 = 0 := by decide
      rw [e5]
      have hct := dcut_any H5 0 0 (by omega)
      rw [show (⟨false, true, max 0 0, bd 0 0 (64 : Nat)⟩ : Dk) = ⟨false, true, 0, 0⟩ by rfl] at hct
      clear hw1 hB5 hB5' H H5
      go_wp2_with fail
      refine (hplace _).mono ?_
      rintro e w' ⟨rfl, rfl⟩
      go_wp2_with fail
      refine hct.mono ?_
      rintro e w6 ⟨rfl, H6⟩
      have hcp := dcopy_any H6
      have HH6 : Hid (DkAt w1 w6 p h 64 ⟨false, true, 0, 0⟩ hc ks5 [(g1, .cells (bs X) 5 (0, 0)), (g2, .cells (bs Y) 5 (0, 0))]) := H6
      clear hct H6
      go_wp2_with fail
      refine hcp.mono ?_
      rintro e w7 ⟨pc, rfl, hh7, hc7, kc, H7, hB7⟩
      have hBc : kc.map Bk.b = [List.replicate 64 0, X, List.replicate 64 0] := hB7.trans HB5.out
      have hLc : kc.length = 3 := by have := congrArg List.length hBc; rwa [List.length_map] at this
      have Hd := H7.other HH6.out
      have hw1 := dwrite_any Hd HY.out.2 (HRY.out _ _ _ _ _ _ _ Hd.st (by simp [stL])) (cap := 64) (by omega) 1
      rw [hL5] at hw1
      have H70 : Hid (DkAt w1 w7 pc hh7 64 ⟨false, true, 0, 0⟩ hc7 kc (stL p (dkA h ks5.length ⟨false, true, 0, 0⟩) dkT h hc ks5 [(g1, .cells (bs X) 5 (0, 0)), (g2, .cells (bs Y) 5 (0, 0))])) := H7
      have HBc : Hid (kc.map Bk.b = [List.replicate 64 0, X, List.replicate 64 0]) := hBc
      clear hcp hB7 Hd H7 hBc
      go_wp2_with fail
      refine hw1.mono ?_
      rintro e w8 ⟨rfl, ks8, H8, hB8⟩
      clear hw1

      rw [show wD ⟨false, true, 0, 0⟩ 3 64 1 64 = ⟨true, false, 0, 0⟩ by rfl] at H8
      have e8 : wErr ⟨false, true, 0, 0⟩ 3 64 1 64 = 42 := by decide
      rw [e8]
      have Hc := H8.other H70.out
      have hw2 := dwrite_any Hc HY.out.2 (HRY.out _ _ _ _ _ _ _ Hc.st (by simp [stL])) (cap := 64) (by omega) 2
      rw [hLc] at hw2
      have HH8 : Hid (DkAt w1 w8 p h 64 ⟨true, false, 0, 0⟩ hc ks8 (stL pc (dkA hh7 kc.length ⟨false, true, 0, 0⟩) dkT hh7 hc7 kc [(g1, .cells (bs X) 5 (0, 0)), (g2, .cells (bs Y) 5 (0, 0))])) := H8
      clear H8 Hc hB8
      go_wp2_with fail
      refine hw2.mono ?_
      rintro e w9 ⟨rfl, kc9, H9, hB9⟩
      rw [show wD ⟨false, true, 0, 0⟩ 3 64 2 64 = ⟨true, false, 0, 0⟩ by rfl] at H9
      have e9 : wErr ⟨false, true, 0, 0⟩ 3 64 2 64 = 42 := by decide
      rw [e9]
      have Hd := H9.other HH8.out
      have r1 := dread_no H9 1 (Or.inl rfl)
      have r2 := dread_no Hd 2 (Or.inl rfl)
      have d1 := ddead_any Hd
      have d2 := ddead_any H9
      rw [rdErr, if_pos rfl] at r1 r2
      have HBel : Hid (Below w.heap.size w w9) := HB1.out.trans (H9.st.below.mono HB1.out.size)
      clear hw2 Hd H9 hB9
      go_wp2_with fail
      refine r1.mono ?_
      rintro e w' ⟨rfl, rfl⟩
      go_wp2_with fail
      refine r2.mono ?_
      rintro e w' ⟨rfl, rfl⟩
      go_wp2_with fail
      refine (hplace _).mono ?_
      rintro e w' ⟨rfl, rfl⟩
      go_wp2_with fail
      refine d1.mono ?_
      rintro e w' ⟨rfl, rfl⟩
      go_wp2_with fail
      refine d2.mono ?_
      rintro e w' ⟨rfl, rfl⟩
      go_wp2
      go_ret
      exact ⟨by simp, HBel.out⟩
    · rw [hp] at hplace
      clear hpr hp
      have hw1 := dwrite_any H HX.out.2 (HRX.out _ _ _ _ _ _ _ H.st (by simp)) (cap := 64) (by omega) 1
      rw [HL.out] at hw1
      go_wp2_with fail
      refine hw1.mono ?_
      rintro e w5 ⟨rfl, ks5, H5, hB5⟩
      rw [show wD ⟨false, false, 0, 0⟩ 3 64 1 64 = ⟨false, false, 0, 0⟩ by rfl] at H5
      have hB5' : ks5.map Bk.b = [List.replicate 64 0, X, List.replicate 64 0] := by rw [hB5, HB.out, wB, HX.out.2]; rfl
      have hL5 : ks5.length = 3 := by have := congrArg List.length hB5'; rwa [List.length_map] at this
      have HB5 : Hid (ks5.map Bk.b = [List.replicate 64 0, X, List.replicate 64 0]) := hB5'
      have e5 : wErr ⟨false, false, 0, 0⟩ 3 64 1 64 = 0 := by decide
      rw [e5]
      have hct := dcut_any H5 1 0 (by omega)
      rw [show (⟨false, true, max 1 0, bd 0 0 (64 : Nat)⟩ : Dk) = ⟨false, true, 1, 0⟩ by rfl] at hct
      clear hw1 hB5 hB5' H H5
      go_wp2_with fail
      refine (hplace _).mono ?_
      rintro e w' ⟨rfl, rfl⟩
      go_wp2_with fail
      refine hct.mono ?_
      rintro e w6 ⟨rfl, H6⟩
      have hcp := dcopy_any H6
      have HH6 : Hid (DkAt w1 w6 p h 64 ⟨false, true, 1, 0⟩ hc ks5 [(g1, .cells (bs X) 5 (0, 0)), (g2, .cells (bs Y) 5 (0, 0))]) := H6
      clear hct H6
      go_wp2_with fail
      refine hcp.mono ?_
      rintro e w7 ⟨pc, rfl, hh7, hc7, kc, H7, hB7⟩
      have hBc : kc.map Bk.b = [List.replicate 64 0, X, List.replicate 64 0] := hB7.trans HB5.out
      have hLc : kc.length = 3 := by have := congrArg List.length hBc; rwa [List.length_map] at this
      have Hd := H7.other HH6.out
      have hw1 := dwrite_any Hd HY.out.2 (HRY.out _ _ _ _ _ _ _ Hd.st (by simp [stL])) (cap := 64) (by omega) 1
      rw [hL5] at hw1
      have H70 : Hid (DkAt w1 w7 pc hh7 64 ⟨false, true, 1, 0⟩ hc7 kc (stL p (dkA h ks5.length ⟨false, true, 1, 0⟩) dkT h hc ks5 [(g1, .cells (bs X) 5 (0, 0)), (g2, .cells (bs Y) 5 (0, 0))])) := H7
      have HBc : Hid (kc.map Bk.b = [List.replicate 64 0, X, List.replicate 64 0]) := hBc
      clear hcp hB7 Hd H7 hBc
      go_wp2_with fail
      refine hw1.mono ?_
      rintro e w8 ⟨rfl, ks8, H8, hB8⟩
      clear hw1

      rw [show wD ⟨false, true, 1, 0⟩ 3 64 1 64 = ⟨false, true, 0, 0⟩ by rfl] at H8
      have e8 : wErr ⟨false, true, 1, 0⟩ 3 64 1 64 = 0 := by decide
      rw [e8]
      have Hc := H8.other H70.out
      have hw2 := dwrite_any Hc HY.out.2 (HRY.out _ _ _ _ _ _ _ Hc.st (by simp [stL])) (cap := 64) (by omega) 2
      rw [hLc] at hw2
      have HH8 : Hid (DkAt w1 w8 p h 64 ⟨false, true, 0, 0⟩ hc ks8 (stL pc (dkA hh7 kc.length ⟨false, true, 1, 0⟩) dkT hh7 hc7 kc [(g1, .cells (bs X) 5 (0, 0)), (g2, .cells (bs Y) 5 (0, 0))])) := H8
      have HB8 : Hid (ks8.map Bk.b = [List.replicate 64 0, Y, List.replicate 64 0]) := by rw [hB8, HB5.out, wB, HY.out.2]; exact rfl
      clear H8 Hc hB8
      go_wp2_with fail
      refine hw2.mono ?_
      rintro e w9 ⟨rfl, kc9, H9, hB9⟩
      rw [show wD ⟨false, true, 1, 0⟩ 3 64 2 64 = ⟨false, true, 0, 0⟩ by rfl] at H9
      have e9 : wErr ⟨false, true, 1, 0⟩ 3 64 2 64 = 0 := by decide
      rw [e9]
      have hB9' : kc9.map Bk.b = [List.replicate 64 0, X, Y] := by rw [hB9, HBc.out, wB, HY.out.2]; rfl
      have Hd := H9.other HH8.out
      obtain ⟨kx, hkx, hbx⟩ := bl_at hB9' (i := 1) rfl
      obtain ⟨ky, hky, hby⟩ := bl_at HB8.out (i := 2) rfl
      have r1 := dread_yes H9 1 hkx rfl
      rw [hbx] at r1
      have HD9 : Hid (DkAt w1 w9 p h 64 ⟨false, true, 0, 0⟩ hc ks8 (stL pc (dkA hh7 kc9.length ⟨false, true, 0, 0⟩) dkT hh7 hc7 kc9 [(g1, .cells (bs X) 5 (0, 0)), (g2, .cells (bs Y) 5 (0, 0))])) := Hd
      have HKY : Hid (ks8[2]? = some ky ∧ ky.b = List.replicate 64 0) := ⟨hky, hby⟩
      clear hw2 Hd H9 hB9 hB9' hkx hky hbx hby
      go_wp2_with fail
      refine r1.mono ?_
      rintro e w10 ⟨gx, rfl, hmx⟩
      have s10 := HD9.out.st.join hmx
      have H10 : DkAt w1 w10 p h 64 ⟨false, true, 0, 0⟩ hc ks8 _ := ⟨s10, HD9.out.pos, HD9.out.top, HD9.out.mlo, HD9.out.mhi, HD9.out.left, HD9.out.pre⟩
      have r2 := dread_yes H10 2 HKY.out.1 rfl
      rw [HKY.out.2] at r2
      have HX10 : Hid (Row w10 (some ⟨gx, 0, none⟩) X) := hmx.own 0 rfl HX.out.1 (by rw [HX.out.2]; omega)
      have HS10 : Hid (Row w10 (some ⟨g1, 0, none⟩) X) := HRX.out _ _ _ _ _ _ _ s10 (by simp [stL])
      have HB10 : Hid (Below w.heap.size w w10) := HB1.out.trans (s10.below.mono HB1.out.size)
      clear r1 hmx H10 s10
      go_wp2_with fail
      refine r2.mono ?_
      rintro e w11 ⟨gy, rfl, hmy⟩
      have hy : Row w11 (some ⟨gy, 0, none⟩) (List.replicate 64 0) := hmy.own 0 rfl (rep_bytes 64 0 (by omega) (by omega)) (by simp)
      have hh1 := hbytes_yes (HX10.out.below hmy.below (Nat.le_refl _)) (HS10.out.below hmy.below (Nat.le_refl _)) 64 64 HX.out.2 HX.out.2 64 64
      have HB11 : Hid (Below w.heap.size w w11) := HB10.out.trans (hmy.below.mono HB10.out.size)
      have hz : Row (w11.alloc (.cells Z 5)) (some ⟨w11.heap.size, 0, none⟩) (List.replicate 64 0) := ((Mem.nil w11).push1 rfl).own 0 (by rw [HZ.out]; rfl) (rep_bytes 64 0 (by omega) (by omega)) (by simp)
      have hh2 := hbytes_yes (row_alloc (o := .cells Z 5) hy) hz 64 64 (by simp) (by simp) 64 64
      have HB12 : Hid (Below w.heap.size w (w11.alloc (.cells Z 5))) := HB11.out.alloc HB11.out.size _
      have mk2 := mk1 w11
      generalize w11.alloc (.cells Z 5) = w12 at mk2 hh2 HB12
      generalize w11.heap.size = g12 at mk2 hh2
      clear r2 hmy hy hz mk1
      go_wp2_with fail
      refine (hplace _).mono ?_
      rintro e w' ⟨rfl, rfl⟩
      go_wp2_with fail
      refine hh1.mono ?_
      rintro e w' ⟨rfl, rfl⟩
      go_wp2_with fail
      refine hh2.mono ?_
      rintro e w' ⟨rfl, rfl⟩
      go_wp2
      go_ret
      exact ⟨by simp, HB12.out⟩
end Go.Proofs.Ytjabckgjnknhnaa
