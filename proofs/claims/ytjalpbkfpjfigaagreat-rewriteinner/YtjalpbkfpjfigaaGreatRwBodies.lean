/-
  The statements' seat: what lychseat.body answers of a datagram and of a segment.
-/
import Derived.Test.YtjalpbkfpjfigaaGreatRwBody
namespace Go.Proofs.YtjalpbkfpjfigaaGreat
open Go.RowKit
open Sm
set_option linter.unusedVariables false
set_option maxRecDepth 20000

set_option maxHeartbeats 2000000 in
theorem body_udp (w : World) (src dst fr tp flags n : Int) (hs : 0 ≤ src ∧ src ≤ 4294967295) (hd : 0 ≤ dst ∧ dst ≤ 4294967295) (hf : 0 ≤ fr ∧ fr ≤ 65535) (ht : 0 ≤ tp ∧ tp ≤ 65535) (hn : 0 ≤ n ∧ n ≤ 255) :
    Calls Tryz.prog 23 #[.int .u8 17, .int .u32 src, .int .u32 dst, .int .u16 fr, .int .u16 tp, .int .u8 flags, .int .u8 n] w fun e w' => ∃ u, e = .returned u ∧ w'.ownsRow w.heap.size 5 1 u (udOut (bdDg src dst fr tp flags n)).length ((udOut (bdDg src dst fr tp flags n)).map (Value.int .u8)) ∧ Below w.heap.size w w' := by
  have k0 : (0 : Int) ≤ n % 16 := by omega
  have k1 : n % 16 ≤ (16 : Int) := by omega
  have HD : Hid ((dat n).length = (n % 16).toNat) := dat_len n hn.1
  have HK : Hid (∀ c, 0 ≤ c → c ≤ 65535 → (Dg.mk fr tp c (dat n)).Ok) := fun c c0 c1 => ⟨hf, ht, ⟨c0, c1⟩, dat_bytes n⟩
  have HM0 : Hid (Mem w (w.alloc abcO) [(w.heap.size, abcO)]) := (Mem.nil w).push1 rfl
  have HR : Hid (∀ (W : World) (L : List (Nat × Obj)) (i : Nat), Mem w W L → L[i]? = some (w.heap.size, abcO) → Row W (some ⟨w.heap.size, 0, none⟩) (dat n)) := fun W L i hM hi => dat_row hM hi n hn.1
  have hbf : bits .and .u8 flags 64 = and8 flags 64 := rfl
  have HB : Hid (bdDg src dst fr tp flags n = if and8 flags 64 = 0 then (Dg.mk fr tp 0 (dat n)).at (usum src dst ⟨fr, tp, 0, dat n⟩) else ⟨fr, tp, 0, dat n⟩) := rfl
  have HSr : Hid (0 ≤ usum src dst ⟨fr, tp, 0, dat n⟩ ∧ usum src dst ⟨fr, tp, 0, dat n⟩ ≤ 65535) := usum_range _ _ _
  have HSD : Hid ((0 ≤ src ∧ src ≤ 4294967295) ∧ (0 ≤ dst ∧ dst ≤ 4294967295)) := ⟨hs, hd⟩
  generalize bdDg src dst fr tp flags n = R at *
  generalize and8 flags 64 = B1 at *
  generalize hk : (n % 16).toNat = k at *
  have n0 := hn.1
  clear hs hd hf ht hn
  have fin : ∀ (c : Int) (W : World), Mem w W [(w.heap.size, abcO)] → UdV W 0 (.agg (udA fr tp c (.slice (some ⟨w.heap.size, 0, none⟩) k 16))) ⟨fr, tp, c, dat n⟩ := fun c W hM =>
    ⟨some ⟨w.heap.size, 0, none⟩, 16, by simp only [HD.out], HR.out W _ 0 hM rfl, fun e => (by cases e), fun x hx => Nat.zero_le _⟩
  have HFin : Hid _ := fin
  clear fin HR
  obtain ⟨S, hS⟩ : ∃ S, usum src dst ⟨fr, tp, 0, dat n⟩ = S := ⟨_, rfl⟩
  have HSu : Hid (usum src dst ⟨fr, tp, 0, dat n⟩ = S) := hS
  rw [hS] at HB HSr
  clear hS
  have hcv := abc_conv w
  simp only [bs, abc, List.map_cons, List.map_nil] at hcv
  go_enter Tryz.func23, Tryz.ntmps23
  go_upto_region 2 with fail
  refine wp_letter (fun W => Mem w W [(w.heap.size, abcO)]) HM0.out ?_
  intro w1 hM1
  have HM1 : Hid _ := hM1
  clear hM1 HM0 hcv
  go_upto_region 5 with fail
  refine wp_letter (fun W => Mem w W [(w.heap.size, abcO), (w1.heap.size, .cells (udA fr tp 0 (.slice (some ⟨w.heap.size, 0, none⟩) k 16)) udT (0, 0))]) (HM1.out.push2 rfl) ?_
  intro w2 hM2
  have HM2 : Hid _ := hM2
  have kc : ∀ i, w2.cell? ⟨w1.heap.size, i, none⟩ = (udA fr tp 0 (.slice (some ⟨w.heap.size, 0, none⟩) k 16))[i]? := hM2.cell 1 rfl
  have hv2 := HFin.out 0 w2 hM2.first'
  clear hM2 HM1
  generalize w1.heap.size = G at *
  by_cases hb : B1 = 0
  · rw [if_pos hb] at HB
    have hS := rusum_any (HK.out 0 (by omega) (by omega)) hv2 src dst HSD.out.1.1 HSD.out.1.2 HSD.out.2.1 HSD.out.2.2
    rw [HSu.out] at hS
    clear hv2
    go_wp2_with fail
    refine hS.mono ?_
    rintro e w3 ⟨rfl, hb3⟩
    have hM3 := HM2.out.after hb3
    have HM3 : Hid _ := hM3
    clear kc hS hb3 HM2
    have kc : ∀ i, w3.cell? ⟨G, i, none⟩ = (udA fr tp 0 (.slice (some ⟨w.heap.size, 0, none⟩) k 16))[i]? := hM3.cell 1 rfl
    have kf : ∀ i, w3.frozen? ⟨G, i, none⟩ = false := hM3.free 1 rfl
    clear hM3
    go_upto_region 7 with fail
    refine wp_letter (fun W => Mem w W [(w.heap.size, abcO), (G, .cells (udA fr tp S (.slice (some ⟨w.heap.size, 0, none⟩) k 16)) udT (0, 0))]) (HM3.out.set 1 rfl 2 _) ?_
    intro w4 hM4
    have HM4 : Hid _ := hM4
    clear kc kf HM3
    have kc : ∀ i, w4.cell? ⟨G, i, none⟩ = (udA fr tp S (.slice (some ⟨w.heap.size, 0, none⟩) k 16))[i]? := hM4.cell 1 rfl
    have hB := rubytes_any (HK.out S HSr.out.1 HSr.out.2) (HFin.out S w4 hM4.first')
    rw [show Dg.mk fr tp S (dat n) = R from HB.out.symm] at hB
    clear hM4
    go_wp2_with fail
    refine hB.mono ?_
    rintro e w5 ⟨x, rfl, hown, hb5⟩
    have HB5 : Hid _ := HM4.out.below.trans (hb5.mono HM4.out.below.size)
    have HU : Hid _ := own_base hown HM4.out.below.size
    clear hown hb5 hB kc
    go_wp2_with fail
    go_ret
    exact ⟨_, rfl, HU.out, HB5.out⟩
  · rw [if_neg hb] at HB
    have hB := rubytes_any (HK.out 0 (by omega) (by omega)) hv2
    rw [show Dg.mk fr tp 0 (dat n) = R from HB.out.symm] at hB
    clear hv2
    go_wp2_with fail
    refine hB.mono ?_
    rintro e w5 ⟨x, rfl, hown, hb5⟩
    have HB5 : Hid _ := HM2.out.below.trans (hb5.mono HM2.out.below.size)
    have HU : Hid _ := own_base hown HM2.out.below.size
    clear hown hb5 hB kc
    go_wp2_with fail
    go_ret
    exact ⟨_, rfl, HU.out, HB5.out⟩

set_option maxHeartbeats 4000000 in
theorem body_tcp (w : World) (src dst fr tp flags n : Int) (hs : 0 ≤ src ∧ src ≤ 4294967295) (hd : 0 ≤ dst ∧ dst ≤ 4294967295) (hf : 0 ≤ fr ∧ fr ≤ 65535) (ht : 0 ≤ tp ∧ tp ≤ 65535) (hfl : 0 ≤ flags ∧ flags ≤ 255) (hn : 0 ≤ n ∧ n ≤ 255) :
    Calls Tryz.prog 23 #[.int .u8 6, .int .u32 src, .int .u32 dst, .int .u16 fr, .int .u16 tp, .int .u8 flags, .int .u8 n] w fun e w' => ∃ u, e = .returned u ∧ w'.ownsRow w.heap.size 5 1 u (tcOut (bdSg src dst fr tp flags n)).length ((tcOut (bdSg src dst fr tp flags n)).map (Value.int .u8)) ∧ Below w.heap.size w w' := by
  have v2 := wrap32_small n hn.1 (by omega)
  have k0 : (0 : Int) ≤ n % 16 := by omega
  have k1 : n % 16 ≤ (16 : Int) := by omega
  have h23 := and23_range hfl.1 hfl.2
  have HD : Hid ((dat n).length = (n % 16).toNat) := dat_len n hn.1
  have HK : Hid (∀ c o, 0 ≤ c → c ≤ 65535 → IsBytes o → (Sg.mk fr tp n 0 (and8 flags 23) 9 c 0 o (dat n)).Ok) := fun c o c0 c1 ho => ⟨hf, ht, ⟨hn.1, by simp only; omega⟩, ⟨by simp only; omega, by simp only; omega⟩, h23, ⟨by simp only; omega, by simp only; omega⟩, ⟨c0, c1⟩, ⟨by simp only; omega, by simp only; omega⟩, ho, dat_bytes n⟩
  have HM0 : Hid (Mem w (w.alloc abcO) [(w.heap.size, abcO)]) := (Mem.nil w).push1 rfl
  have HR : Hid (∀ (W : World) (L : List (Nat × Obj)) (i : Nat), Mem w W L → L[i]? = some (w.heap.size, abcO) → Row W (some ⟨w.heap.size, 0, none⟩) (dat n)) := fun W L i hM hi => dat_row hM hi n hn.1
  have hbf : bits .and .u8 n 32 = and8 n 32 := rfl
  have hbg : bits .and .u8 flags 23 = and8 flags 23 := rfl
  have HSD : Hid ((0 ≤ src ∧ src ≤ 4294967295) ∧ (0 ≤ dst ∧ dst ≤ 4294967295)) := ⟨hs, hd⟩
  have HB : Hid (∀ o, o = (if and8 n 32 ≠ 0 then [1, 1, 1, 0] else []) → bdSg src dst fr tp flags n = ⟨fr, tp, n, 0, and8 flags 23, 9, tsum src dst ⟨fr, tp, n, 0, and8 flags 23, 9, 0, 0, o, dat n⟩, 0, o, dat n⟩) := fun o ho => by rw [ho]; rfl
  generalize bdSg src dst fr tp flags n = R at *
  generalize and8 n 32 = B1 at *
  generalize and8 flags 23 = fl at *
  generalize hk : (n % 16).toNat = k at *
  have n0 := hn.1
  clear hs hd hf ht hn hfl h23
  have fin : ∀ (c : Int) (W : World) (L : List (Nat × Obj)) (ao : Option Addr) (co : Nat) (o : List Int), Mem w W L → L[0]? = some (w.heap.size, abcO) → Row W ao o → (ao = none → co = 0) → TcV W 0 (.agg (tcA fr tp n 0 fl 9 c 0 (.slice ao o.length co) (.slice (some ⟨w.heap.size, 0, none⟩) k 16))) ⟨fr, tp, n, 0, fl, 9, c, 0, o, dat n⟩ := fun c W L ao co o hM h0 ho hnil =>
    ⟨ao, co, some ⟨w.heap.size, 0, none⟩, 16, by simp only [HD.out], ho, HR.out W L 0 hM h0, hnil, fun e => (by cases e), fun x hx => Nat.zero_le _, fun x hx => Nat.zero_le _⟩
  have HFin : Hid _ := fin
  clear fin HR
  have hcv := abc_conv w
  simp only [bs, abc, List.map_cons, List.map_nil] at hcv
  go_enter Tryz.func23, Tryz.ntmps23
  go_upto_region 2 with fail
  refine wp_letter (fun W => Mem w W [(w.heap.size, abcO)]) HM0.out ?_
  intro w1 hM1
  have HM1 : Hid _ := hM1
  clear hM1 HM0 hcv
  go_upto_region 11 with fail
  refine wp_letter (fun W => Mem w W [(w.heap.size, abcO), (w1.heap.size, .cells (tcA fr tp n 0 fl 9 0 0 (.slice none 0 0) (.slice (some ⟨w.heap.size, 0, none⟩) k 16)) tcT (0, 0))]) (HM1.out.push2 rfl) ?_
  intro w2 hM2
  have HM2 : Hid _ := hM2
  clear HM1
  by_cases hb : B1 = 0
  · have hR := HB.out [] (by rw [if_neg (by simp [hb])])
    have HRR : Hid _ := hR
    have HM3 : Hid _ := hM2
    have hv := HFin.out 0 w2 _ none 0 [] hM2 rfl (row_nil w2) (fun _ => rfl)
    have kc : ∀ i, w2.cell? ⟨w1.heap.size, i, none⟩ = (tcA fr tp n 0 fl 9 0 0 (.slice none 0 0) (.slice (some ⟨w.heap.size, 0, none⟩) k 16))[i]? := hM2.cell 1 rfl
    clear hM2 HM2 hR HB
    generalize w1.heap.size = G at *
    have hS := rtsum_any (HK.out 0 [] (by omega) (by omega) bytes_nil) hv src dst HSD.out.1.1 HSD.out.1.2 HSD.out.2.1 HSD.out.2.2
    have hSr := tsum_range src dst ⟨fr, tp, n, 0, fl, 9, 0, 0, [], dat n⟩
    obtain ⟨S, hSe⟩ : ∃ S, tsum src dst ⟨fr, tp, n, 0, fl, 9, 0, 0, [], dat n⟩ = S := ⟨_, rfl⟩
    rw [hSe] at hS hSr HRR
    have HSr : Hid (0 ≤ S ∧ S ≤ 65535) := hSr
    clear hv hSr hSe
    go_wp2_with fail
    refine hS.mono ?_
    rintro e w4 ⟨rfl, hb4⟩
    have hM4 := HM3.out.after hb4
    have HM4 : Hid _ := hM4
    clear kc hS hb4 HM3
    have kc : ∀ i, w4.cell? ⟨G, i, none⟩ = (tcA fr tp n 0 fl 9 0 0 (.slice none 0 0) (.slice (some ⟨w.heap.size, 0, none⟩) k 16))[i]? := hM4.cell 1 rfl
    have kf : ∀ i, w4.frozen? ⟨G, i, none⟩ = false := hM4.free 1 rfl
    clear hM4
    go_upto_region 14 with fail
    refine wp_letter (fun W => Mem w W [(w.heap.size, abcO), (G, .cells (tcA fr tp n 0 fl 9 S 0 (.slice none 0 0) (.slice (some ⟨w.heap.size, 0, none⟩) k 16)) tcT (0, 0))]) (HM4.out.set 1 rfl 6 _) ?_
    intro w5 hM5
    have HM5 : Hid _ := hM5
    clear kc kf HM4
    have kc : ∀ i, w5.cell? ⟨G, i, none⟩ = (tcA fr tp n 0 fl 9 S 0 (.slice none 0 0) (.slice (some ⟨w.heap.size, 0, none⟩) k 16))[i]? := hM5.cell 1 rfl
    have hB := rtbytes_any (HK.out S [] HSr.out.1 HSr.out.2 bytes_nil) (HFin.out S w5 _ none 0 [] hM5 rfl (row_nil w5) (fun _ => rfl))
    rw [← HRR.out] at hB
    clear hM5
    go_wp2_with fail
    refine hB.mono ?_
    rintro e w6 ⟨x, rfl, hown, hb6⟩
    have HB5 : Hid _ := HM5.out.below.trans (hb6.mono HM5.out.below.size)
    have HU : Hid _ := own_base hown HM5.out.below.size
    clear hown hb6 hB kc
    go_wp2_with fail
    go_ret
    exact ⟨_, rfl, HU.out, HB5.out⟩
  · have kc : ∀ i, w2.cell? ⟨w1.heap.size, i, none⟩ = (tcA fr tp n 0 fl 9 0 0 (.slice none 0 0) (.slice (some ⟨w.heap.size, 0, none⟩) k 16))[i]? := hM2.cell 1 rfl
    have kf : ∀ i, w2.frozen? ⟨w1.heap.size, i, none⟩ = false := hM2.free 1 rfl
    have kcA : ∀ (o : Obj) (i : Nat), (w2.alloc o).cell? ⟨w1.heap.size, i, none⟩ = (tcA fr tp n 0 fl 9 0 0 (.slice none 0 0) (.slice (some ⟨w.heap.size, 0, none⟩) k 16))[i]? := fun o => (hM2.push3 (o := o) rfl).cell 1 rfl
    have kfA : ∀ (o : Obj) (i : Nat), (w2.alloc o).frozen? ⟨w1.heap.size, i, none⟩ = false := fun o => (hM2.push3 (o := o) rfl).free 1 rfl
    have hne : w1.heap.size ≠ w2.heap.size := (hM2.push3 (o := abcO) (g := w2.heap.size) rfl).ne 1 2 rfl rfl (by decide)
    have hR := HB.out [1, 1, 1, 0] (by rw [if_pos hb])
    have HRow : Hid (∀ (W : World) (L : List (Nat × Obj)) (g : Nat), Mem w W L → L[2]? = some (g, .cells (bs [1, 1, 1, 0]) 5 (0, 0)) → Row W (some ⟨g, 0, none⟩) [1, 1, 1, 0]) := fun W L g hM h2 => hM.own 2 h2 (by repeat (first | exact bytes_nil | refine bytes_cons ⟨by decide, by decide⟩ ?_)) (by decide)
    have HRR : Hid _ := hR
    clear hM2 hR HB
    go_upto_region 13 with fail
    refine wp_letter (fun W => Mem w W [(w.heap.size, abcO), (w1.heap.size, .cells (tcA fr tp n 0 fl 9 0 0 (.slice (some ⟨w2.heap.size, 0, none⟩) 4 4) (.slice (some ⟨w.heap.size, 0, none⟩) k 16)) tcT (0, 0)), (w2.heap.size, .cells (bs [1, 1, 1, 0]) 5 (0, 0))]) (((HM2.out.push3 (g := w2.heap.size) rfl).set 1 rfl 8 _)) ?_
    intro w3 hM3
    have HM3 : Hid _ := hM3
    have hrow := HRow.out w3 _ w2.heap.size hM3 rfl
    have hv := HFin.out 0 w3 _ (some ⟨w2.heap.size, 0, none⟩) 4 [1, 1, 1, 0] hM3 rfl hrow (fun e => by cases e)
    clear kc kf kcA kfA hne
    have kc : ∀ i, w3.cell? ⟨w1.heap.size, i, none⟩ = (tcA fr tp n 0 fl 9 0 0 (.slice (some ⟨w2.heap.size, 0, none⟩) 4 4) (.slice (some ⟨w.heap.size, 0, none⟩) k 16))[i]? := hM3.cell 1 rfl
    clear hM3 HM2 hrow
    generalize w1.heap.size = G at *
    generalize w2.heap.size = H at *
    have hS := rtsum_any (HK.out 0 [1, 1, 1, 0] (by omega) (by omega) (by repeat (first | exact bytes_nil | refine bytes_cons ⟨by decide, by decide⟩ ?_))) hv src dst HSD.out.1.1 HSD.out.1.2 HSD.out.2.1 HSD.out.2.2
    have hSr := tsum_range src dst ⟨fr, tp, n, 0, fl, 9, 0, 0, [1, 1, 1, 0], dat n⟩
    obtain ⟨S, hSe⟩ : ∃ S, tsum src dst ⟨fr, tp, n, 0, fl, 9, 0, 0, [1, 1, 1, 0], dat n⟩ = S := ⟨_, rfl⟩
    rw [hSe] at hS hSr HRR
    have HSr : Hid (0 ≤ S ∧ S ≤ 65535) := hSr
    clear hv hSr hSe
    go_wp2_with fail
    refine hS.mono ?_
    rintro e w4 ⟨rfl, hb4⟩
    have hM4 := HM3.out.after hb4
    have HM4 : Hid _ := hM4
    clear kc hS hb4 HM3
    have kc : ∀ i, w4.cell? ⟨G, i, none⟩ = (tcA fr tp n 0 fl 9 0 0 (.slice (some ⟨H, 0, none⟩) 4 4) (.slice (some ⟨w.heap.size, 0, none⟩) k 16))[i]? := hM4.cell 1 rfl
    have kf : ∀ i, w4.frozen? ⟨G, i, none⟩ = false := hM4.free 1 rfl
    clear hM4
    go_upto_region 14 with fail
    refine wp_letter (fun W => Mem w W [(w.heap.size, abcO), (G, .cells (tcA fr tp n 0 fl 9 S 0 (.slice (some ⟨H, 0, none⟩) 4 4) (.slice (some ⟨w.heap.size, 0, none⟩) k 16)) tcT (0, 0)), (H, .cells (bs [1, 1, 1, 0]) 5 (0, 0))]) (HM4.out.set 1 rfl 6 _) ?_
    intro w5 hM5
    have HM5 : Hid _ := hM5
    clear kc kf HM4
    have kc : ∀ i, w5.cell? ⟨G, i, none⟩ = (tcA fr tp n 0 fl 9 S 0 (.slice (some ⟨H, 0, none⟩) 4 4) (.slice (some ⟨w.heap.size, 0, none⟩) k 16))[i]? := hM5.cell 1 rfl
    have hB := rtbytes_any (HK.out S [1, 1, 1, 0] HSr.out.1 HSr.out.2 (by repeat (first | exact bytes_nil | refine bytes_cons ⟨by decide, by decide⟩ ?_))) (HFin.out S w5 _ (some ⟨H, 0, none⟩) 4 [1, 1, 1, 0] hM5 rfl (HRow.out w5 _ H hM5 rfl) (fun e => by cases e))
    rw [← HRR.out] at hB
    clear hM5
    go_wp2_with fail
    refine hB.mono ?_
    rintro e w6 ⟨x, rfl, hown, hb6⟩
    have HB5 : Hid _ := HM5.out.below.trans (hb6.mono HM5.out.below.size)
    have HU : Hid _ := own_base hown HM5.out.below.size
    clear hown hb6 hB kc
    go_wp2_with fail
    go_ret
    exact ⟨_, rfl, HU.out, HB5.out⟩
/-- What lychseat.body answers. -/
theorem body_any (w : World) (pr src dst fr tp flags n : Int) (hp : pr = 17 ∨ pr = 6 ∨ pr = 1) (hs : 0 ≤ src ∧ src ≤ 4294967295) (hd : 0 ≤ dst ∧ dst ≤ 4294967295) (hf : 0 ≤ fr ∧ fr ≤ 65535) (ht : 0 ≤ tp ∧ tp ≤ 65535) (hfl : 0 ≤ flags ∧ flags ≤ 255) (hn : 0 ≤ n ∧ n ≤ 255) :
    Calls Tryz.prog 23 #[.int .u8 pr, .int .u32 src, .int .u32 dst, .int .u16 fr, .int .u16 tp, .int .u8 flags, .int .u8 n] w fun e w' => ∃ u, e = .returned u ∧ w'.ownsRow w.heap.size 5 1 u (bodyb pr src dst fr tp flags n).length ((bodyb pr src dst fr tp flags n).map (Value.int .u8)) ∧ Below w.heap.size w w' := by
  rcases hp with rfl | rfl | rfl
  · exact body_udp w src dst fr tp flags n hs hd hf ht hn
  · exact body_tcp w src dst fr tp flags n hs hd hf ht hfl hn
  · exact body_icmp w src dst fr tp flags n hf hn
end Go.Proofs.YtjalpbkfpjfigaaGreat
