/-
  The walk of package ip's read.
-/
import Derived.Test.YtjalpbkfpjfigaaGreatM15
namespace Go.Proofs.YtjalpbkfpjfigaaGreat
open Go.RowKit
open Sm
set_option linter.unusedVariables false
set_option maxRecDepth 20000

theorem ip_parts {l : List Int} (h0 : ipErr l = 0) : 20 ≤ l.length ∧ l.getD 0 0 / 16 = 4 ∧ 20 ≤ hdl l ∧ hdl l ≤ whl l ∧ hdl l ≤ l.length ∧ whl l ≤ l.length ∧ foldv (tot (l.take (hdl l)) (cnt (hdl l))) = 65535 := by
  unfold ipErr at h0
  split at h0
  · omega
  · split at h0
    · omega
    · split at h0
      · omega
      · split at h0
        · omega
        · refine ⟨?_, ?_, ?_, ?_, ?_, ?_, ?_⟩ <;> omega

theorem front_of {w : World} {b off : Nat} {l : List Int} (hr : Row w (some ⟨b, off, none⟩) l) (h20 : 20 ≤ l.length) (n : Nat) (hn : l.length = n) : Front w b off n (l.getD 0 0) (l.getD 2 0) (l.getD 3 0) (l.getD 0 0 % 16).toNat (whl l) := by
  have hl := hr.len
  have b0 := hr.bytes 0
  have b2 := hr.bytes 2
  have b3 := hr.bytes 3
  refine ⟨hr.cellAt 0 (by omega), hr.cellAt 2 (by omega), hr.cellAt 3 (by omega), b0, b2, b3, by omega, ?_, by omega, by omega⟩
  show l.getD 2 0 * 256 + l.getD 3 0 = (((l.getD 2 0 * 256 + l.getD 3 0).toNat : Nat) : Int)
  omega

set_option maxHeartbeats 4000000 in
theorem read_ok {w : World} {b off n c : Nat} {l : List Int} (hr : Row w (some ⟨b, off, none⟩) l) (hn : l.length = n) (hc : n ≤ c) (h0 : ipErr l = 0) :
    Calls Tryz.prog 75 #[.slice (some ⟨b, off, none⟩) n c] w fun r w' => ∃ v, r = .returned v ∧ (IpV w' w.heap.size v (ipPk l) ∧ IpCap v (ipPk l)) ∧ Below w.heap.size w w' := by
  obtain ⟨p1, p2, p3, p4, p5, p6, p7⟩ := ip_parts h0
  have hb : b < w.heap.size := cell_lt (hr.cellAt 0 (by omega))
  have hR1 : Row (w.alloc (.cells ip0 ipT)) (some ⟨b, off, none⟩) l := hr.below ((Below.refl _ _).alloc (Nat.le_refl _) _) (Nat.le_refl _)
  have hs := split_rest (front_of hR1 p1 n hn) c hc p2 p3 p4
  have hln := hr.len
  have hlt : (l.take (hdl l)).length = hdl l := by rw [List.length_take]; omega
  have hrh : Row w (some ⟨b, off, none⟩) (l.take (hdl l)) := by
    have := hr.part 0 (hdl l) (by omega)
    simpa using this
  have hbd : ∀ o2, (hdl l < n → o2 = off + hdl l) → Row w (some ⟨b, o2, none⟩) ((l.drop (hdl l)).take (whl l - hdl l)) := by
    intro o2 ho
    by_cases e : hdl l < n
    · rw [ho e]; exact hr.part (hdl l) (whl l - hdl l) (by omega)
    · have : (l.drop (hdl l)).take (whl l - hdl l) = [] := by
        rw [show whl l - hdl l = 0 by omega]; rfl
      rw [this]; exact ⟨fun i => by simp, by simp, Or.inl rfl⟩
  have hbl : ((l.drop (hdl l)).take (whl l - hdl l)).length = whl l - hdl l := by rw [List.length_take, List.length_drop]; omega
  have hpk : ipPk l = ⟨(l.take (hdl l)).getD 1 0, (l.take (hdl l)).getD 8 0, (l.take (hdl l)).getD 9 0, w16 (l.take (hdl l)) 4, w16 (l.take (hdl l)) 6 / 8192, w16 (l.take (hdl l)) 6 % 8192, w32 (l.take (hdl l)) 12, w32 (l.take (hdl l)) 16, (l.take (hdl l)).drop 20, (l.drop (hdl l)).take (whl l - hdl l)⟩ := by
    have g : ∀ i, i < 20 → (l.take (hdl l)).getD i 0 = l.getD i 0 := fun i hi => by simp [List.getD, show i < hdl l by omega]
    unfold w32 w16
    rw [g 1 (by omega), g 8 (by omega), g 9 (by omega), g 4 (by omega), g (4 + 1) (by omega), g 6 (by omega), g (6 + 1) (by omega), g 12 (by omega), g (12 + 1) (by omega), g (12 + 2) (by omega), g (12 + 2 + 1) (by omega), g 16 (by omega), g (16 + 1) (by omega), g (16 + 2) (by omega), g (16 + 2 + 1) (by omega)]
    have e : (l.take (hdl l)).drop 20 = (l.drop 20).take (hdl l - 20) := by rw [List.drop_take]
    rw [e]; rfl
  have hfold : foldv (acc (l.take (hdl l)) 0 (cnt (hdl l))) = 65535 := by
    rw [foldv_acc hrh.bytes 0 (by omega) (by omega), Int.zero_add]; exact p7
  have hsr := acc_range hrh.bytes 0 (by omega) (by omega) (cnt (hdl l))
  have hadd : ∀ W L, Mem w W L → Calls Tryz.prog 91 #[.int .u32 0, .slice (some ⟨b, off, none⟩) (hdl l) c] W _ := fun W L hM => by
    have := add_any (hM.row hrh) c 0 (by omega) (by omega)
    rw [hlt] at this
    exact this
  generalize l.take (hdl l) = h at *
  generalize (l.drop (hdl l)).take (whl l - hdl l) = bd at *
  generalize hS : acc h 0 (cnt (hdl l)) = S at *
  have e4 : 4 * (l.getD 0 0 % 16).toNat = hdl l := rfl
  rw [e4] at hs
  generalize hdl l = m at *
  generalize whl l - m = nb at *
  have HP : Hid (ipPk l = ⟨h.getD 1 0, h.getD 8 0, h.getD 9 0, w16 h 4, w16 h 6 / 8192, w16 h 6 % 8192, w32 h 12, w32 h 16, h.drop 20, bd⟩) := hpk
  have HH : Hid (Row w (some ⟨b, off, none⟩) h ∧ h.length = m ∧ m ≤ c ∧ 20 ≤ m ∧ m ≤ 140737488351232 ∧ bd.length = nb) := ⟨hrh, hlt, by omega, p3, by omega, hbl⟩
  have HB : Hid _ := hbd
  have HA : Hid _ := hadd
  have HN : Hid (m ≤ n ∧ whl l ≤ n) := ⟨by omega, by omega⟩
  have fr := w16_range hrh.bytes 6
  have fo1 := sm_low13 (w16 h 6) fr.1 fr.2
  have fo2 := wrap8_small (w16 h 6 / 8192) (by omega) (by omega)
  obtain ⟨fr0, fr1⟩ := fr
  obtain ⟨s0, s1⟩ := hsr
  obtain ⟨y1, e1⟩ : ∃ y, h.getD 1 0 = y := ⟨_, rfl⟩
  obtain ⟨y8, e8⟩ : ∃ y, h.getD 8 0 = y := ⟨_, rfl⟩
  obtain ⟨y9, e9⟩ : ∃ y, h.getD 9 0 = y := ⟨_, rfl⟩
  obtain ⟨ID, eI⟩ : ∃ y, w16 h 4 = y := ⟨_, rfl⟩
  obtain ⟨FR, eF⟩ : ∃ y, w16 h 6 = y := ⟨_, rfl⟩
  obtain ⟨SS, eS⟩ : ∃ y, w32 h 12 = y := ⟨_, rfl⟩
  obtain ⟨DD, eD⟩ : ∃ y, w32 h 16 = y := ⟨_, rfl⟩
  have HY : Hid (h.getD 1 0 = y1 ∧ h.getD 8 0 = y8 ∧ h.getD 9 0 = y9 ∧ w16 h 4 = ID ∧ w16 h 6 = FR ∧ w32 h 12 = SS ∧ w32 h 16 = DD) := ⟨e1, e8, e9, eI, eF, eS, eD⟩
  rw [eF] at fo1 fo2 fr0 fr1
  clear e1 e8 e9 eI eF eS eD
  clear hr hn hc h0 p1 p2 p3 p4 p5 p6 p7 hR1 hln hlt hrh hbd hbl hpk hadd hS e4
  go_enter Tryz.func75, Tryz.ntmps75
  go_wp2_with fail
  refine hs.mono ?_
  rintro e w2 ⟨hbel, ⟨rfl, hx⟩ | ⟨o2, rfl, h4n, hwn, ho2⟩⟩
  · exfalso; have := HN.out; omega
  · have HM2 : Hid (Mem w w2 [(w.heap.size, .cells ip0 ipT)]) := ((Mem.nil w).push w.heap.size (.cells ip0 ipT) rfl).after hbel
    have HBD : Hid (Row w (some ⟨b, o2, none⟩) bd) := HB.out o2 ho2
    clear hbel h4n hwn ho2 HB hs HN
    go_wp2_with fail
    refine (HA.out w2 _ HM2.out).mono ?_
    rintro e w' ⟨rfl, rfl⟩
    go_wp2_with fail
    refine (fold_any S _ s0 s1).mono ?_
    rintro e w' ⟨rfl, rfl⟩
    rw [hfold]
    go_wp2_with fail
    refine (must_yes 22 _).mono ?_
    rintro e w' ⟨rfl, rfl⟩
    go_upto_region 5 with fail
    refine wp_letter (fun W => Mem w W [(w.heap.size, .cells ip0 ipT), (w2.heap.size, .cells (rdr b (off + 0) (m - 0) (c - 0)) rdT (0, 0)), (w2.heap.size + 1, .cells ip0 ipT (0, 0))]) ((HM2.out.push w2.heap.size _ rfl).push (w2.heap.size + 1) _ (by simp)) ?_
    intro w3 hM3
    have HM3 : Hid _ := hM3
    clear hM3 HM2
    generalize w2.heap.size = R at *
    go_wp2_with fail
    refine (take_at HM3.out (i := 1) rfl 1 HH.out.2.2.1 (by have := HH.out; omega) HH.out.2.2.2.2.1).mono ?_
    rintro e w4 ⟨⟨v4, rfl⟩, hM4⟩
    have HM4 : Hid (Mem w w4 [(w.heap.size, .cells ip0 ipT), (R, .cells (rdr b (off + 1) (m - 1) (c - 1)) rdT (0, 0)), (R + 1, .cells ip0 ipT (0, 0))]) := hM4
    clear hM4 HM3
    go_wp2_with fail
    refine (octet_at HM4.out (i := 1) rfl HH.out.1 HH.out.2.1 hb HH.out.2.2.1 (by have := HH.out; omega)).mono ?_
    rintro e w5 ⟨rfl, hM⟩
    rw [HY.out.1]
    have HM5 : Hid (Mem w w5 [(w.heap.size, .cells ip0 ipT), (R, .cells (rdr b (off + 2) (m - 2) (c - 2)) rdT (0, 0)), (R + 1, .cells (ipA 0 0 0 0 0 0 0 0 (.slice none 0 0) (.slice none 0 0)) ipT (0, 0))]) := hM
    clear hM HM4
    have kc : ∀ i, w5.cell? ⟨R + 1, i, none⟩ = (ipA 0 0 0 0 0 0 0 0 (.slice none 0 0) (.slice none 0 0))[i]? := HM5.out.cell 2 rfl
    have kf : ∀ i, w5.frozen? ⟨R + 1, i, none⟩ = false := HM5.out.free 2 rfl
    have HM5s : Hid (Mem w (w5.setCell ⟨R + 1, 0, none⟩ (Value.int .u8 y1)) [(w.heap.size, .cells ip0 ipT), (R, .cells (rdr b (off + 2) (m - 2) (c - 2)) rdT (0, 0)), (R + 1, .cells (ipA y1 0 0 0 0 0 0 0 (.slice none 0 0) (.slice none 0 0)) ipT (0, 0))]) := (HM5.out.set 2 rfl 0 (Value.int .u8 y1))
    clear HM5
    go_wp2_with fail
    refine (take_at HM5s.out (i := 1) rfl 2 HH.out.2.2.1 (by have := HH.out; omega) HH.out.2.2.2.2.1).mono ?_
    rintro e w6 ⟨⟨v6, rfl⟩, hM⟩
    clear kc kf
    have HM6 : Hid (Mem w w6 [(w.heap.size, .cells ip0 ipT), (R, .cells (rdr b (off + 4) (m - 4) (c - 4)) rdT (0, 0)), (R + 1, .cells (ipA y1 0 0 0 0 0 0 0 (.slice none 0 0) (.slice none 0 0)) ipT (0, 0))]) := hM
    clear hM HM5s
    go_wp2_with fail
    refine (word_at HM6.out (i := 1) rfl HH.out.1 HH.out.2.1 hb HH.out.2.2.1 (by have := HH.out; omega)).mono ?_
    rintro e w7 ⟨rfl, hM⟩
    rw [HY.out.2.2.2.1]
    have HM7 : Hid (Mem w w7 [(w.heap.size, .cells ip0 ipT), (R, .cells (rdr b (off + 6) (m - 6) (c - 6)) rdT (0, 0)), (R + 1, .cells (ipA y1 0 0 0 0 0 0 0 (.slice none 0 0) (.slice none 0 0)) ipT (0, 0))]) := hM
    clear hM HM6
    have kc : ∀ i, w7.cell? ⟨R + 1, i, none⟩ = (ipA y1 0 0 0 0 0 0 0 (.slice none 0 0) (.slice none 0 0))[i]? := HM7.out.cell 2 rfl
    have kf : ∀ i, w7.frozen? ⟨R + 1, i, none⟩ = false := HM7.out.free 2 rfl
    have HM7s : Hid (Mem w (w7.setCell ⟨R + 1, 3, none⟩ (Value.int .u16 ID)) [(w.heap.size, .cells ip0 ipT), (R, .cells (rdr b (off + 6) (m - 6) (c - 6)) rdT (0, 0)), (R + 1, .cells (ipA y1 0 0 ID 0 0 0 0 (.slice none 0 0) (.slice none 0 0)) ipT (0, 0))]) := (HM7.out.set 2 rfl 3 (Value.int .u16 ID))
    clear HM7
    go_wp2_with fail
    refine (word_at HM7s.out (i := 1) rfl HH.out.1 HH.out.2.1 hb HH.out.2.2.1 (by have := HH.out; omega)).mono ?_
    rintro e w8 ⟨rfl, hM⟩
    clear kc kf
    rw [HY.out.2.2.2.2.1]
    have HM8 : Hid (Mem w w8 [(w.heap.size, .cells ip0 ipT), (R, .cells (rdr b (off + 8) (m - 8) (c - 8)) rdT (0, 0)), (R + 1, .cells (ipA y1 0 0 ID 0 0 0 0 (.slice none 0 0) (.slice none 0 0)) ipT (0, 0))]) := hM
    clear hM HM7s
    have kc : ∀ i, w8.cell? ⟨R + 1, i, none⟩ = (ipA y1 0 0 ID 0 0 0 0 (.slice none 0 0) (.slice none 0 0))[i]? := HM8.out.cell 2 rfl
    have kf : ∀ i, w8.frozen? ⟨R + 1, i, none⟩ = false := HM8.out.free 2 rfl
    have HM8s : Hid (Mem w ((w8.setCell ⟨R + 1, 4, none⟩ (Value.int .u8 (FR / 8192))).setCell ⟨R + 1, 5, none⟩ (Value.int .u16 (FR % 8192))) [(w.heap.size, .cells ip0 ipT), (R, .cells (rdr b (off + 8) (m - 8) (c - 8)) rdT (0, 0)), (R + 1, .cells (ipA y1 0 0 ID (FR / 8192) (FR % 8192) 0 0 (.slice none 0 0) (.slice none 0 0)) ipT (0, 0))]) := ((HM8.out.set 2 rfl 4 (Value.int .u8 (FR / 8192))).set 2 rfl 5 (Value.int .u16 (FR % 8192)))
    clear HM8
    go_wp2_with fail
    refine (octet_at HM8s.out (i := 1) rfl HH.out.1 HH.out.2.1 hb HH.out.2.2.1 (by have := HH.out; omega)).mono ?_
    rintro e w9 ⟨rfl, hM⟩
    clear kc kf
    rw [HY.out.2.1]
    have HM9 : Hid (Mem w w9 [(w.heap.size, .cells ip0 ipT), (R, .cells (rdr b (off + 9) (m - 9) (c - 9)) rdT (0, 0)), (R + 1, .cells (ipA y1 0 0 ID (FR / 8192) (FR % 8192) 0 0 (.slice none 0 0) (.slice none 0 0)) ipT (0, 0))]) := hM
    clear hM HM8s
    have kc : ∀ i, w9.cell? ⟨R + 1, i, none⟩ = (ipA y1 0 0 ID (FR / 8192) (FR % 8192) 0 0 (.slice none 0 0) (.slice none 0 0))[i]? := HM9.out.cell 2 rfl
    have kf : ∀ i, w9.frozen? ⟨R + 1, i, none⟩ = false := HM9.out.free 2 rfl
    have HM9s : Hid (Mem w (w9.setCell ⟨R + 1, 1, none⟩ (Value.int .u8 y8)) [(w.heap.size, .cells ip0 ipT), (R, .cells (rdr b (off + 9) (m - 9) (c - 9)) rdT (0, 0)), (R + 1, .cells (ipA y1 y8 0 ID (FR / 8192) (FR % 8192) 0 0 (.slice none 0 0) (.slice none 0 0)) ipT (0, 0))]) := (HM9.out.set 2 rfl 1 (Value.int .u8 y8))
    clear HM9
    go_wp2_with fail
    refine (octet_at HM9s.out (i := 1) rfl HH.out.1 HH.out.2.1 hb HH.out.2.2.1 (by have := HH.out; omega)).mono ?_
    rintro e w10 ⟨rfl, hM⟩
    clear kc kf
    rw [HY.out.2.2.1]
    have HM10 : Hid (Mem w w10 [(w.heap.size, .cells ip0 ipT), (R, .cells (rdr b (off + 10) (m - 10) (c - 10)) rdT (0, 0)), (R + 1, .cells (ipA y1 y8 0 ID (FR / 8192) (FR % 8192) 0 0 (.slice none 0 0) (.slice none 0 0)) ipT (0, 0))]) := hM
    clear hM HM9s
    have kc : ∀ i, w10.cell? ⟨R + 1, i, none⟩ = (ipA y1 y8 0 ID (FR / 8192) (FR % 8192) 0 0 (.slice none 0 0) (.slice none 0 0))[i]? := HM10.out.cell 2 rfl
    have kf : ∀ i, w10.frozen? ⟨R + 1, i, none⟩ = false := HM10.out.free 2 rfl
    have HM10s : Hid (Mem w (w10.setCell ⟨R + 1, 2, none⟩ (Value.int .u8 y9)) [(w.heap.size, .cells ip0 ipT), (R, .cells (rdr b (off + 10) (m - 10) (c - 10)) rdT (0, 0)), (R + 1, .cells (ipA y1 y8 y9 ID (FR / 8192) (FR % 8192) 0 0 (.slice none 0 0) (.slice none 0 0)) ipT (0, 0))]) := (HM10.out.set 2 rfl 2 (Value.int .u8 y9))
    clear HM10
    go_wp2_with fail
    refine (take_at HM10s.out (i := 1) rfl 2 HH.out.2.2.1 (by have := HH.out; omega) HH.out.2.2.2.2.1).mono ?_
    rintro e w11 ⟨⟨v11, rfl⟩, hM⟩
    clear kc kf
    have HM11 : Hid (Mem w w11 [(w.heap.size, .cells ip0 ipT), (R, .cells (rdr b (off + 12) (m - 12) (c - 12)) rdT (0, 0)), (R + 1, .cells (ipA y1 y8 y9 ID (FR / 8192) (FR % 8192) 0 0 (.slice none 0 0) (.slice none 0 0)) ipT (0, 0))]) := hM
    clear hM HM10s
    go_wp2_with fail
    refine (long_at HM11.out (i := 1) rfl HH.out.1 HH.out.2.1 hb HH.out.2.2.1 (by have := HH.out; omega)).mono ?_
    rintro e w12 ⟨rfl, hM⟩
    rw [HY.out.2.2.2.2.2.1]
    have HM12 : Hid (Mem w w12 [(w.heap.size, .cells ip0 ipT), (R, .cells (rdr b (off + 16) (m - 16) (c - 16)) rdT (0, 0)), (R + 1, .cells (ipA y1 y8 y9 ID (FR / 8192) (FR % 8192) 0 0 (.slice none 0 0) (.slice none 0 0)) ipT (0, 0))]) := hM
    clear hM HM11
    have kc : ∀ i, w12.cell? ⟨R + 1, i, none⟩ = (ipA y1 y8 y9 ID (FR / 8192) (FR % 8192) 0 0 (.slice none 0 0) (.slice none 0 0))[i]? := HM12.out.cell 2 rfl
    have kf : ∀ i, w12.frozen? ⟨R + 1, i, none⟩ = false := HM12.out.free 2 rfl
    have HM12s : Hid (Mem w (w12.setCell ⟨R + 1, 6, none⟩ (Value.int .u32 SS)) [(w.heap.size, .cells ip0 ipT), (R, .cells (rdr b (off + 16) (m - 16) (c - 16)) rdT (0, 0)), (R + 1, .cells (ipA y1 y8 y9 ID (FR / 8192) (FR % 8192) SS 0 (.slice none 0 0) (.slice none 0 0)) ipT (0, 0))]) := (HM12.out.set 2 rfl 6 (Value.int .u32 SS))
    clear HM12
    go_wp2_with fail
    refine (long_end HM12s.out (i := 1) rfl HH.out.1 HH.out.2.1 hb HH.out.2.2.1 (by have := HH.out; omega)).mono ?_
    rintro e wa ⟨rfl, oa, hoa, hM⟩
    clear kc kf
    rw [HY.out.2.2.2.2.2.2]
    have HMa : Hid (Mem w wa [(w.heap.size, .cells ip0 ipT), (R, .cells (rdr b oa (m - 20) (c - 20)) rdT (0, 0)), (R + 1, .cells (ipA y1 y8 y9 ID (FR / 8192) (FR % 8192) SS 0 (.slice none 0 0) (.slice none 0 0)) ipT (0, 0))]) := hM
    clear hM HM12s
    have kc : ∀ i, wa.cell? ⟨R + 1, i, none⟩ = (ipA y1 y8 y9 ID (FR / 8192) (FR % 8192) SS 0 (.slice none 0 0) (.slice none 0 0))[i]? := HMa.out.cell 2 rfl
    have kf : ∀ i, wa.frozen? ⟨R + 1, i, none⟩ = false := HMa.out.free 2 rfl
    have kR : wa.cell? ⟨R, 0, none⟩ = some (.slice (some ⟨b, oa, none⟩) (m - 20) (c - 20)) := HMa.out.cell 1 rfl 0
    have HMb : Hid (Mem w (wa.setCell ⟨R + 1, 7, none⟩ (Value.int .u32 DD)) [(w.heap.size, .cells ip0 ipT), (R, .cells (rdr b oa (m - 20) (c - 20)) rdT (0, 0)), (R + 1, .cells (ipA y1 y8 y9 ID (FR / 8192) (FR % 8192) SS DD (.slice none 0 0) (.slice none 0 0)) ipT (0, 0))]) := HMa.out.set 2 rfl 7 _
    have HOp : Hid (Row w (some ⟨b, oa, none⟩) (h.drop 20)) := by
      have q := HH.out
      by_cases e : 16 + 4 < m
      · rw [hoa e]
        have := q.1.part 20 (m - 20) (by omega)
        rwa [List.take_of_length_le (by rw [List.length_drop]; omega)] at this
      · have : h.drop 20 = [] := List.drop_eq_nil_of_le (by omega)
        rw [this]; exact ⟨fun i => by simp, by simp, Or.inl rfl⟩
    have HOl : Hid ((h.drop 20).length = m - 20) := by
      have q := HH.out
      show (h.drop 20).length = m - 20
      rw [List.length_drop]; omega
    clear HMa hoa
    go_wp2_with fail
    refine (fresh_ok (HMb.out.row HOp.out) (m - 20) (c - 20) HOl.out).mono ?_
    rintro e wb ⟨g1, rfl, hM⟩
    clear kc kf kR
    have HMc : Hid (Mem w wb [(w.heap.size, .cells ip0 ipT), (R, .cells (rdr b oa (m - 20) (c - 20)) rdT (0, 0)), (R + 1, .cells (ipA y1 y8 y9 ID (FR / 8192) (FR % 8192) SS DD (.slice none 0 0) (.slice none 0 0)) ipT (0, 0)), (g1, .cells ((h.drop 20).map (Value.int .u8)).toArray 5)]) := HMb.out.join hM
    have kc : ∀ i, wb.cell? ⟨R + 1, i, none⟩ = (ipA y1 y8 y9 ID (FR / 8192) (FR % 8192) SS DD (.slice none 0 0) (.slice none 0 0))[i]? := HMc.out.cell 2 rfl
    have kf : ∀ i, wb.frozen? ⟨R + 1, i, none⟩ = false := HMc.out.free 2 rfl
    have HMd : Hid (Mem w (wb.setCell ⟨R + 1, 8, none⟩ (.slice (some ⟨g1, 0, none⟩) (m - 20) (m - 20))) [(w.heap.size, .cells ip0 ipT), (R, .cells (rdr b oa (m - 20) (c - 20)) rdT (0, 0)), (R + 1, .cells (ipA y1 y8 y9 ID (FR / 8192) (FR % 8192) SS DD (.slice (some ⟨g1, 0, none⟩) (m - 20) (m - 20)) (.slice none 0 0)) ipT (0, 0)), (g1, .cells ((h.drop 20).map (Value.int .u8)).toArray 5)]) := HMc.out.set 2 rfl 8 _
    clear HMb hM HMc
    go_wp2_with fail
    refine (fresh_ok (HMd.out.row HBD.out) nb (c - m) HH.out.2.2.2.2.2).mono ?_
    rintro e wd ⟨g2, rfl, hM⟩
    clear kc kf
    have HMe : Hid (Mem w wd [(w.heap.size, .cells ip0 ipT), (R, .cells (rdr b oa (m - 20) (c - 20)) rdT (0, 0)), (R + 1, .cells (ipA y1 y8 y9 ID (FR / 8192) (FR % 8192) SS DD (.slice (some ⟨g1, 0, none⟩) (m - 20) (m - 20)) (.slice none 0 0)) ipT (0, 0)), (g1, .cells ((h.drop 20).map (Value.int .u8)).toArray 5), (g2, .cells (bd.map (Value.int .u8)).toArray 5)]) := HMd.out.join hM
    have kc : ∀ i, wd.cell? ⟨R + 1, i, none⟩ = (ipA y1 y8 y9 ID (FR / 8192) (FR % 8192) SS DD (.slice (some ⟨g1, 0, none⟩) (m - 20) (m - 20)) (.slice none 0 0))[i]? := HMe.out.cell 2 rfl
    have kf : ∀ i, wd.frozen? ⟨R + 1, i, none⟩ = false := HMe.out.free 2 rfl
    clear HMd hM
    go_upto_region 18 with fail
    refine wp_letter (fun W => Mem w W [(w.heap.size, .cells ip0 ipT), (R, .cells (rdr b oa (m - 20) (c - 20)) rdT (0, 0)), (R + 1, .cells (ipA y1 y8 y9 ID (FR / 8192) (FR % 8192) SS DD (.slice (some ⟨g1, 0, none⟩) (m - 20) (m - 20)) (.slice (some ⟨g2, 0, none⟩) nb nb)) ipT (0, 0)), (g1, .cells ((h.drop 20).map (Value.int .u8)).toArray 5), (g2, .cells (bd.map (Value.int .u8)).toArray 5)]) (HMe.out.set 2 rfl 9 _) ?_
    intro wz hM
    clear kc kf HMe
    have HMz : Hid _ := hM
    have kc : ∀ i, wz.cell? ⟨R + 1, i, none⟩ = (ipA y1 y8 y9 ID (FR / 8192) (FR % 8192) SS DD (.slice (some ⟨g1, 0, none⟩) (m - 20) (m - 20)) (.slice (some ⟨g2, 0, none⟩) nb nb))[i]? := hM.cell 2 rfl
    have kr : ∀ i, wz.cell? ⟨w.heap.size, i, none⟩ = ip0[i]? := hM.cell 0 rfl
    have kf : ∀ i, wz.frozen? ⟨w.heap.size, i, none⟩ = false := hM.free 0 rfl
    clear hM
    go_wp2_with fail
    refine bodyPost_ret (v := .agg (ipA y1 y8 y9 ID (FR / 8192) (FR % 8192) SS DD (.slice (some ⟨g1, 0, none⟩) (m - 20) (m - 20)) (.slice (some ⟨g2, 0, none⟩) nb nb))) (by simp [results, Tryz.results75, go_sem, kr]) rfl ⟨_, rfl, ?_, ?_⟩
    · have q := HH.out
      have hne1 := HMz.out.ne 0 3 rfl rfl (by decide)
      have hne2 := HMz.out.ne 0 4 rfl rfl (by decide)
      have hy := HY.out
      rw [HP.out]
      refine ⟨⟨some ⟨g1, 0, none⟩, m - 20, some ⟨g2, 0, none⟩, nb, ?_, ?_, ?_, (fun e => by cases e), (fun e => by cases e), (fun x hx => by cases hx; exact HMz.out.ge 3 rfl), (fun x hx => by cases hx; exact HMz.out.ge 4 rfl)⟩, ⟨some ⟨g1, 0, none⟩, m - 20, some ⟨g2, 0, none⟩, nb, by simp only [hy.1, hy.2.1, hy.2.2.1, hy.2.2.2.1, hy.2.2.2.2.1, hy.2.2.2.2.2.1, hy.2.2.2.2.2.2, HOl.out, q.2.2.2.2.2], by simp only [q.2.2.2.2.2]; exact Nat.le_refl _⟩⟩
      · simp only [hy.1, hy.2.1, hy.2.2.1, hy.2.2.2.1, hy.2.2.2.2.1, hy.2.2.2.2.2.1, hy.2.2.2.2.2.2, HOl.out, q.2.2.2.2.2]
      · iterate 10 (refine Row.setCell ?_ hne1 _)
        refine HMz.out.own 3 rfl HOp.out.bytes ?_
        rw [HOl.out]; omega
      · iterate 10 (refine Row.setCell ?_ hne2 _)
        exact HMz.out.own 4 rfl HBD.out.bytes HBD.out.len
    · iterate 10 (refine below_set ?_ (Nat.le_refl _))
      exact HMz.out.below
end Go.Proofs.YtjalpbkfpjfigaaGreat

