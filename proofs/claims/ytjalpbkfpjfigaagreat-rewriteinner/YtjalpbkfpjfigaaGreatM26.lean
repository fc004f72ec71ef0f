/-
  The statements' seat: what lychseat.body answers of a datagram and of a segment.
  What rewrite.read and rewrite.right answer: what a packet carries, and whether its checksum is right.
-/
import Derived.Test.YtjalpbkfpjfigaaGreatM24
import Derived.Test.YtjalpbkfpjfigaaGreatM22
import Derived.Test.YtjalpbkfpjfigaaGreatM09
import Derived.Test.YtjalpbkfpjfigaaGreatM15
import Derived.Test.YtjalpbkfpjfigaaGreatM20
namespace Go.Proofs.YtjalpbkfpjfigaaGreat
open Go.RowKit
open Sm
set_option linter.unusedVariables false
set_option maxRecDepth 20000

set_option maxHeartbeats 2000000 in
theorem body_udp (w : World) (src dst fr tp flags n : Int) (hs : 0 ≤ src ∧ src ≤ 4294967295) (hd : 0 ≤ dst ∧ dst ≤ 4294967295) (hf : 0 ≤ fr ∧ fr ≤ 65535) (ht : 0 ≤ tp ∧ tp ≤ 65535) (hn : 0 ≤ n ∧ n ≤ 255) :
    Calls Tryz.prog 23 #[.int .u8 17, .int .u32 src, .int .u32 dst, .int .u16 fr, .int .u16 tp, .int .u8 flags, .int .u8 n] w fun e w' => ∃ u, e = .returned u ∧ w'.ownsRow w.heap.size 5 1 u (udOut (bdDg src dst fr tp flags n)).length ((udOut (bdDg src dst fr tp flags n)).map (Value.int .u8)) ∧ Below w.heap.size w w' := by
  have k0 : (0 : Int) ≤ n % 16 := by omega
  have k1 : n % 16 ≤ (16 : Int) := by omega
  have HD : Hid ((dat n).length = (n % 16).toNat) := dat_len n hn.1
  have HK : Hid (∀ c, 0 ≤ c → c ≤ 65535 → (Dg.mk fr tp c (dat n)).Ok) := fun c c0 c1 => ⟨hf, ht, ⟨c0, c1⟩, dat_bytes n⟩
  have HM0 : Hid (Mem w (w.alloc abcO) [(w.heap.size, abcO)]) := (Mem.nil w).push1 rfl
  have HR : Hid (∀ (W : World) (L : List (Nat × Obj)) (i : Nat), Mem w W L → L[i]? = some (w.heap.size, abcO) → Row W (some ⟨w.heap.size, 0, none⟩) (dat n)) := fun W L i hM hi => dat_row hM hi n hn.1
  have hbf : bits .and .u8 flags 64 = and8 flags 64 := rfl
  have HB : Hid (bdDg src dst fr tp flags n = if and8 flags 64 = 0 then (Dg.mk fr tp 0 (dat n)).at (usum src dst ⟨fr, tp, 0, dat n⟩) else ⟨fr, tp, 0, dat n⟩) := rfl
  have HSr : Hid (0 ≤ usum src dst ⟨fr, tp, 0, dat n⟩ ∧ usum src dst ⟨fr, tp, 0, dat n⟩ ≤ 65535) := usum_range _ _ _
  have HSD : Hid ((0 ≤ src ∧ src ≤ 4294967295) ∧ (0 ≤ dst ∧ dst ≤ 4294967295)) := ⟨hs, hd⟩
  generalize bdDg src dst fr tp flags n = R at *
  generalize and8 flags 64 = B1 at *
  generalize hk : (n % 16).toNat = k at *
  have n0 := hn.1
  clear hs hd hf ht hn
  have fin : ∀ (c : Int) (W : World), Mem w W [(w.heap.size, abcO)] → UdV W 0 (.agg (udA fr tp c (.slice (some ⟨w.heap.size, 0, none⟩) k 16))) ⟨fr, tp, c, dat n⟩ := fun c W hM =>
    ⟨some ⟨w.heap.size, 0, none⟩, 16, by simp only [HD.out], HR.out W _ 0 hM rfl, fun e => (by cases e), fun x hx => Nat.zero_le _⟩
  have HFin : Hid _ := fin
  clear fin HR
  obtain ⟨S, hS⟩ : ∃ S, usum src dst ⟨fr, tp, 0, dat n⟩ = S := ⟨_, rfl⟩
  have HSu : Hid (usum src dst ⟨fr, tp, 0, dat n⟩ = S) := hS
  rw [hS] at HB HSr
  clear hS
  have hcv := abc_conv w
  simp only [bs, abc, List.map_cons, List.map_nil] at hcv
  go_enter Tryz.func23, Tryz.ntmps23
  go_upto_region 2 with fail
  refine wp_letter (fun W => Mem w W [(w.heap.size, abcO)]) HM0.out ?_
  intro w1 hM1
  have HM1 : Hid _ := hM1
  clear hM1 HM0 hcv
  go_upto_region 5 with fail
  refine wp_letter (fun W => Mem w W [(w.heap.size, abcO), (w1.heap.size, .cells (udA fr tp 0 (.slice (some ⟨w.heap.size, 0, none⟩) k 16)) udT (0, 0))]) (HM1.out.push2 rfl) ?_
  intro w2 hM2
  have HM2 : Hid _ := hM2
  have kc : ∀ i, w2.cell? ⟨w1.heap.size, i, none⟩ = (udA fr tp 0 (.slice (some ⟨w.heap.size, 0, none⟩) k 16))[i]? := hM2.cell 1 rfl
  have hv2 := HFin.out 0 w2 hM2.first'
  clear hM2 HM1
  generalize w1.heap.size = G at *
  by_cases hb : B1 = 0
  · rw [if_pos hb] at HB
    have hS := rusum_any (HK.out 0 (by omega) (by omega)) hv2 src dst HSD.out.1.1 HSD.out.1.2 HSD.out.2.1 HSD.out.2.2
    rw [HSu.out] at hS
    clear hv2
    go_wp2_with fail
    refine hS.mono ?_
    rintro e w3 ⟨rfl, hb3⟩
    have hM3 := HM2.out.after hb3
    have HM3 : Hid _ := hM3
    clear kc hS hb3 HM2
    have kc : ∀ i, w3.cell? ⟨G, i, none⟩ = (udA fr tp 0 (.slice (some ⟨w.heap.size, 0, none⟩) k 16))[i]? := hM3.cell 1 rfl
    have kf : ∀ i, w3.frozen? ⟨G, i, none⟩ = false := hM3.free 1 rfl
    clear hM3
    go_upto_region 7 with fail
    refine wp_letter (fun W => Mem w W [(w.heap.size, abcO), (G, .cells (udA fr tp S (.slice (some ⟨w.heap.size, 0, none⟩) k 16)) udT (0, 0))]) (HM3.out.set 1 rfl 2 _) ?_
    intro w4 hM4
    have HM4 : Hid _ := hM4
    clear kc kf HM3
    have kc : ∀ i, w4.cell? ⟨G, i, none⟩ = (udA fr tp S (.slice (some ⟨w.heap.size, 0, none⟩) k 16))[i]? := hM4.cell 1 rfl
    have hB := rubytes_any (HK.out S HSr.out.1 HSr.out.2) (HFin.out S w4 hM4.first')
    rw [show Dg.mk fr tp S (dat n) = R from HB.out.symm] at hB
    clear hM4
    go_wp2_with fail
    refine hB.mono ?_
    rintro e w5 ⟨x, rfl, hown, hb5⟩
    have HB5 : Hid _ := HM4.out.below.trans (hb5.mono HM4.out.below.size)
    have HU : Hid _ := own_base hown HM4.out.below.size
    clear hown hb5 hB kc
    go_wp2_with fail
    go_ret
    exact ⟨_, rfl, HU.out, HB5.out⟩
  · rw [if_neg hb] at HB
    have hB := rubytes_any (HK.out 0 (by omega) (by omega)) hv2
    rw [show Dg.mk fr tp 0 (dat n) = R from HB.out.symm] at hB
    clear hv2
    go_wp2_with fail
    refine hB.mono ?_
    rintro e w5 ⟨x, rfl, hown, hb5⟩
    have HB5 : Hid _ := HM2.out.below.trans (hb5.mono HM2.out.below.size)
    have HU : Hid _ := own_base hown HM2.out.below.size
    clear hown hb5 hB kc
    go_wp2_with fail
    go_ret
    exact ⟨_, rfl, HU.out, HB5.out⟩

set_option maxHeartbeats 4000000 in
theorem body_tcp (w : World) (src dst fr tp flags n : Int) (hs : 0 ≤ src ∧ src ≤ 4294967295) (hd : 0 ≤ dst ∧ dst ≤ 4294967295) (hf : 0 ≤ fr ∧ fr ≤ 65535) (ht : 0 ≤ tp ∧ tp ≤ 65535) (hfl : 0 ≤ flags ∧ flags ≤ 255) (hn : 0 ≤ n ∧ n ≤ 255) :
    Calls Tryz.prog 23 #[.int .u8 6, .int .u32 src, .int .u32 dst, .int .u16 fr, .int .u16 tp, .int .u8 flags, .int .u8 n] w fun e w' => ∃ u, e = .returned u ∧ w'.ownsRow w.heap.size 5 1 u (tcOut (bdSg src dst fr tp flags n)).length ((tcOut (bdSg src dst fr tp flags n)).map (Value.int .u8)) ∧ Below w.heap.size w w' := by
  have v2 := wrap32_small n hn.1 (by omega)
  have k0 : (0 : Int) ≤ n % 16 := by omega
  have k1 : n % 16 ≤ (16 : Int) := by omega
  have h23 := and23_range hfl.1 hfl.2
  have HD : Hid ((dat n).length = (n % 16).toNat) := dat_len n hn.1
  have HK : Hid (∀ c o, 0 ≤ c → c ≤ 65535 → IsBytes o → (Sg.mk fr tp n 0 (and8 flags 23) 9 c 0 o (dat n)).Ok) := fun c o c0 c1 ho => ⟨hf, ht, ⟨hn.1, by simp only; omega⟩, ⟨by simp only; omega, by simp only; omega⟩, h23, ⟨by simp only; omega, by simp only; omega⟩, ⟨c0, c1⟩, ⟨by simp only; omega, by simp only; omega⟩, ho, dat_bytes n⟩
  have HM0 : Hid (Mem w (w.alloc abcO) [(w.heap.size, abcO)]) := (Mem.nil w).push1 rfl
  have HR : Hid (∀ (W : World) (L : List (Nat × Obj)) (i : Nat), Mem w W L → L[i]? = some (w.heap.size, abcO) → Row W (some ⟨w.heap.size, 0, none⟩) (dat n)) := fun W L i hM hi => dat_row hM hi n hn.1
  have hbf : bits .and .u8 n 32 = and8 n 32 := rfl
  have hbg : bits .and .u8 flags 23 = and8 flags 23 := rfl
  have HSD : Hid ((0 ≤ src ∧ src ≤ 4294967295) ∧ (0 ≤ dst ∧ dst ≤ 4294967295)) := ⟨hs, hd⟩
  have HB : Hid (∀ o, o = (if and8 n 32 ≠ 0 then [1, 1, 1, 0] else []) → bdSg src dst fr tp flags n = ⟨fr, tp, n, 0, and8 flags 23, 9, tsum src dst ⟨fr, tp, n, 0, and8 flags 23, 9, 0, 0, o, dat n⟩, 0, o, dat n⟩) := fun o ho => by rw [ho]; rfl
  generalize bdSg src dst fr tp flags n = R at *
  generalize and8 n 32 = B1 at *
  generalize and8 flags 23 = fl at *
  generalize hk : (n % 16).toNat = k at *
  have n0 := hn.1
  clear hs hd hf ht hn hfl h23
  have fin : ∀ (c : Int) (W : World) (L : List (Nat × Obj)) (ao : Option Addr) (co : Nat) (o : List Int), Mem w W L → L[0]? = some (w.heap.size, abcO) → Row W ao o → (ao = none → co = 0) → TcV W 0 (.agg (tcA fr tp n 0 fl 9 c 0 (.slice ao o.length co) (.slice (some ⟨w.heap.size, 0, none⟩) k 16))) ⟨fr, tp, n, 0, fl, 9, c, 0, o, dat n⟩ := fun c W L ao co o hM h0 ho hnil =>
    ⟨ao, co, some ⟨w.heap.size, 0, none⟩, 16, by simp only [HD.out], ho, HR.out W L 0 hM h0, hnil, fun e => (by cases e), fun x hx => Nat.zero_le _, fun x hx => Nat.zero_le _⟩
  have HFin : Hid _ := fin
  clear fin HR
  have hcv := abc_conv w
  simp only [bs, abc, List.map_cons, List.map_nil] at hcv
  go_enter Tryz.func23, Tryz.ntmps23
  go_upto_region 2 with fail
  refine wp_letter (fun W => Mem w W [(w.heap.size, abcO)]) HM0.out ?_
  intro w1 hM1
  have HM1 : Hid _ := hM1
  clear hM1 HM0 hcv
  go_upto_region 11 with fail
  refine wp_letter (fun W => Mem w W [(w.heap.size, abcO), (w1.heap.size, .cells (tcA fr tp n 0 fl 9 0 0 (.slice none 0 0) (.slice (some ⟨w.heap.size, 0, none⟩) k 16)) tcT (0, 0))]) (HM1.out.push2 rfl) ?_
  intro w2 hM2
  have HM2 : Hid _ := hM2
  clear HM1
  by_cases hb : B1 = 0
  · have hR := HB.out [] (by rw [if_neg (by simp [hb])])
    have HRR : Hid _ := hR
    have HM3 : Hid _ := hM2
    have hv := HFin.out 0 w2 _ none 0 [] hM2 rfl (row_nil w2) (fun _ => rfl)
    have kc : ∀ i, w2.cell? ⟨w1.heap.size, i, none⟩ = (tcA fr tp n 0 fl 9 0 0 (.slice none 0 0) (.slice (some ⟨w.heap.size, 0, none⟩) k 16))[i]? := hM2.cell 1 rfl
    clear hM2 HM2 hR HB
    generalize w1.heap.size = G at *
    have hS := rtsum_any (HK.out 0 [] (by omega) (by omega) bytes_nil) hv src dst HSD.out.1.1 HSD.out.1.2 HSD.out.2.1 HSD.out.2.2
    have hSr := tsum_range src dst ⟨fr, tp, n, 0, fl, 9, 0, 0, [], dat n⟩
    obtain ⟨S, hSe⟩ : ∃ S, tsum src dst ⟨fr, tp, n, 0, fl, 9, 0, 0, [], dat n⟩ = S := ⟨_, rfl⟩
    rw [hSe] at hS hSr HRR
    have HSr : Hid (0 ≤ S ∧ S ≤ 65535) := hSr
    clear hv hSr hSe
    go_wp2_with fail
    refine hS.mono ?_
    rintro e w4 ⟨rfl, hb4⟩
    have hM4 := HM3.out.after hb4
    have HM4 : Hid _ := hM4
    clear kc hS hb4 HM3
    have kc : ∀ i, w4.cell? ⟨G, i, none⟩ = (tcA fr tp n 0 fl 9 0 0 (.slice none 0 0) (.slice (some ⟨w.heap.size, 0, none⟩) k 16))[i]? := hM4.cell 1 rfl
    have kf : ∀ i, w4.frozen? ⟨G, i, none⟩ = false := hM4.free 1 rfl
    clear hM4
    go_upto_region 14 with fail
    refine wp_letter (fun W => Mem w W [(w.heap.size, abcO), (G, .cells (tcA fr tp n 0 fl 9 S 0 (.slice none 0 0) (.slice (some ⟨w.heap.size, 0, none⟩) k 16)) tcT (0, 0))]) (HM4.out.set 1 rfl 6 _) ?_
    intro w5 hM5
    have HM5 : Hid _ := hM5
    clear kc kf HM4
    have kc : ∀ i, w5.cell? ⟨G, i, none⟩ = (tcA fr tp n 0 fl 9 S 0 (.slice none 0 0) (.slice (some ⟨w.heap.size, 0, none⟩) k 16))[i]? := hM5.cell 1 rfl
    have hB := rtbytes_any (HK.out S [] HSr.out.1 HSr.out.2 bytes_nil) (HFin.out S w5 _ none 0 [] hM5 rfl (row_nil w5) (fun _ => rfl))
    rw [← HRR.out] at hB
    clear hM5
    go_wp2_with fail
    refine hB.mono ?_
    rintro e w6 ⟨x, rfl, hown, hb6⟩
    have HB5 : Hid _ := HM5.out.below.trans (hb6.mono HM5.out.below.size)
    have HU : Hid _ := own_base hown HM5.out.below.size
    clear hown hb6 hB kc
    go_wp2_with fail
    go_ret
    exact ⟨_, rfl, HU.out, HB5.out⟩
  · have kc : ∀ i, w2.cell? ⟨w1.heap.size, i, none⟩ = (tcA fr tp n 0 fl 9 0 0 (.slice none 0 0) (.slice (some ⟨w.heap.size, 0, none⟩) k 16))[i]? := hM2.cell 1 rfl
    have kf : ∀ i, w2.frozen? ⟨w1.heap.size, i, none⟩ = false := hM2.free 1 rfl
    have kcA : ∀ (o : Obj) (i : Nat), (w2.alloc o).cell? ⟨w1.heap.size, i, none⟩ = (tcA fr tp n 0 fl 9 0 0 (.slice none 0 0) (.slice (some ⟨w.heap.size, 0, none⟩) k 16))[i]? := fun o => (hM2.push3 (o := o) rfl).cell 1 rfl
    have kfA : ∀ (o : Obj) (i : Nat), (w2.alloc o).frozen? ⟨w1.heap.size, i, none⟩ = false := fun o => (hM2.push3 (o := o) rfl).free 1 rfl
    have hne : w1.heap.size ≠ w2.heap.size := (hM2.push3 (o := abcO) (g := w2.heap.size) rfl).ne 1 2 rfl rfl (by decide)
    have hR := HB.out [1, 1, 1, 0] (by rw [if_pos hb])
    have HRow : Hid (∀ (W : World) (L : List (Nat × Obj)) (g : Nat), Mem w W L → L[2]? = some (g, .cells (bs [1, 1, 1, 0]) 5 (0, 0)) → Row W (some ⟨g, 0, none⟩) [1, 1, 1, 0]) := fun W L g hM h2 => hM.own 2 h2 (by repeat (first | exact bytes_nil | refine bytes_cons ⟨by decide, by decide⟩ ?_)) (by decide)
    have HRR : Hid _ := hR
    clear hM2 hR HB
    go_upto_region 13 with fail
    refine wp_letter (fun W => Mem w W [(w.heap.size, abcO), (w1.heap.size, .cells (tcA fr tp n 0 fl 9 0 0 (.slice (some ⟨w2.heap.size, 0, none⟩) 4 4) (.slice (some ⟨w.heap.size, 0, none⟩) k 16)) tcT (0, 0)), (w2.heap.size, .cells (bs [1, 1, 1, 0]) 5 (0, 0))]) (((HM2.out.push3 (g := w2.heap.size) rfl).set 1 rfl 8 _)) ?_
    intro w3 hM3
    have HM3 : Hid _ := hM3
    have hrow := HRow.out w3 _ w2.heap.size hM3 rfl
    have hv := HFin.out 0 w3 _ (some ⟨w2.heap.size, 0, none⟩) 4 [1, 1, 1, 0] hM3 rfl hrow (fun e => by cases e)
    clear kc kf kcA kfA hne
    have kc : ∀ i, w3.cell? ⟨w1.heap.size, i, none⟩ = (tcA fr tp n 0 fl 9 0 0 (.slice (some ⟨w2.heap.size, 0, none⟩) 4 4) (.slice (some ⟨w.heap.size, 0, none⟩) k 16))[i]? := hM3.cell 1 rfl
    clear hM3 HM2 hrow
    generalize w1.heap.size = G at *
    generalize w2.heap.size = H at *
    have hS := rtsum_any (HK.out 0 [1, 1, 1, 0] (by omega) (by omega) (by repeat (first | exact bytes_nil | refine bytes_cons ⟨by decide, by decide⟩ ?_))) hv src dst HSD.out.1.1 HSD.out.1.2 HSD.out.2.1 HSD.out.2.2
    have hSr := tsum_range src dst ⟨fr, tp, n, 0, fl, 9, 0, 0, [1, 1, 1, 0], dat n⟩
    obtain ⟨S, hSe⟩ : ∃ S, tsum src dst ⟨fr, tp, n, 0, fl, 9, 0, 0, [1, 1, 1, 0], dat n⟩ = S := ⟨_, rfl⟩
    rw [hSe] at hS hSr HRR
    have HSr : Hid (0 ≤ S ∧ S ≤ 65535) := hSr
    clear hv hSr hSe
    go_wp2_with fail
    refine hS.mono ?_
    rintro e w4 ⟨rfl, hb4⟩
    have hM4 := HM3.out.after hb4
    have HM4 : Hid _ := hM4
    clear kc hS hb4 HM3
    have kc : ∀ i, w4.cell? ⟨G, i, none⟩ = (tcA fr tp n 0 fl 9 0 0 (.slice (some ⟨H, 0, none⟩) 4 4) (.slice (some ⟨w.heap.size, 0, none⟩) k 16))[i]? := hM4.cell 1 rfl
    have kf : ∀ i, w4.frozen? ⟨G, i, none⟩ = false := hM4.free 1 rfl
    clear hM4
    go_upto_region 14 with fail
    refine wp_letter (fun W => Mem w W [(w.heap.size, abcO), (G, .cells (tcA fr tp n 0 fl 9 S 0 (.slice (some ⟨H, 0, none⟩) 4 4) (.slice (some ⟨w.heap.size, 0, none⟩) k 16)) tcT (0, 0)), (H, .cells (bs [1, 1, 1, 0]) 5 (0, 0))]) (HM4.out.set 1 rfl 6 _) ?_
    intro w5 hM5
    have HM5 : Hid _ := hM5
    clear kc kf HM4
    have kc : ∀ i, w5.cell? ⟨G, i, none⟩ = (tcA fr tp n 0 fl 9 S 0 (.slice (some ⟨H, 0, none⟩) 4 4) (.slice (some ⟨w.heap.size, 0, none⟩) k 16))[i]? := hM5.cell 1 rfl
    have hB := rtbytes_any (HK.out S [1, 1, 1, 0] HSr.out.1 HSr.out.2 (by repeat (first | exact bytes_nil | refine bytes_cons ⟨by decide, by decide⟩ ?_))) (HFin.out S w5 _ (some ⟨H, 0, none⟩) 4 [1, 1, 1, 0] hM5 rfl (HRow.out w5 _ H hM5 rfl) (fun e => by cases e))
    rw [← HRR.out] at hB
    clear hM5
    go_wp2_with fail
    refine hB.mono ?_
    rintro e w6 ⟨x, rfl, hown, hb6⟩
    have HB5 : Hid _ := HM5.out.below.trans (hb6.mono HM5.out.below.size)
    have HU : Hid _ := own_base hown HM5.out.below.size
    clear hown hb6 hB kc
    go_wp2_with fail
    go_ret
    exact ⟨_, rfl, HU.out, HB5.out⟩
/-- What lychseat.body answers. -/
theorem body_any (w : World) (pr src dst fr tp flags n : Int) (hp : pr = 17 ∨ pr = 6 ∨ pr = 1) (hs : 0 ≤ src ∧ src ≤ 4294967295) (hd : 0 ≤ dst ∧ dst ≤ 4294967295) (hf : 0 ≤ fr ∧ fr ≤ 65535) (ht : 0 ≤ tp ∧ tp ≤ 65535) (hfl : 0 ≤ flags ∧ flags ≤ 255) (hn : 0 ≤ n ∧ n ≤ 255) :
    Calls Tryz.prog 23 #[.int .u8 pr, .int .u32 src, .int .u32 dst, .int .u16 fr, .int .u16 tp, .int .u8 flags, .int .u8 n] w fun e w' => ∃ u, e = .returned u ∧ w'.ownsRow w.heap.size 5 1 u (bodyb pr src dst fr tp flags n).length ((bodyb pr src dst fr tp flags n).map (Value.int .u8)) ∧ Below w.heap.size w w' := by
  rcases hp with rfl | rfl | rfl
  · exact body_udp w src dst fr tp flags n hs hd hf ht hn
  · exact body_tcp w src dst fr tp flags n hs hd hf ht hfl hn
  · exact body_icmp w src dst fr tp flags n hf hn
end Go.Proofs.YtjalpbkfpjfigaaGreat

namespace Go.Proofs.YtjalpbkfpjfigaaGreat
open Go.RowKit
open Sm
set_option linter.unusedVariables false
set_option maxRecDepth 20000

abbrev bdT : TypeId := 64
/-- A value that is what the packet p carries, behind base B. -/
def BdV (w : World) (B : Nat) (v : Value) (p : Pk) : Prop :=
  (p.proto = 17 ∧ ∃ u, v = .iface udT u ∧ UdV w B u (udRes p.body)) ∨ (p.proto = 6 ∧ ∃ u, v = .iface tcT u ∧ TcV w B u (tcRes p.body)) ∨ (p.proto = 1 ∧ ∃ u, v = .iface mgT u ∧ MgO w B u (mgRes p.body))
theorem BdV.below {w w' : World} {C : Nat} {v : Value} {p : Pk} (h : BdV w C v p) {B : Nat} (hb : Below B w w') (hB : w.heap.size ≤ B) : BdV w' C v p := by
  rcases h with ⟨e, u, ev, h⟩ | ⟨e, u, ev, h⟩ | ⟨e, u, ev, h⟩
  · exact Or.inl ⟨e, u, ev, h.below hb hB⟩
  · exact Or.inr (Or.inl ⟨e, u, ev, h.below hb hB⟩)
  · exact Or.inr (Or.inr ⟨e, u, ev, h.below hb hB⟩)
theorem BdV.mono {w : World} {C D : Nat} {v : Value} {p : Pk} (h : BdV w C v p) (hD : D ≤ C) : BdV w D v p := by
  rcases h with ⟨e, u, ev, h⟩ | ⟨e, u, ev, h⟩ | ⟨e, u, ev, h⟩
  · exact Or.inl ⟨e, u, ev, h.mono hD⟩
  · exact Or.inr (Or.inl ⟨e, u, ev, h.mono hD⟩)
  · exact Or.inr (Or.inr ⟨e, u, ev, h.mono hD⟩)

/-- A packet's fields, with its lists. -/
abbrev ipB (p : Pk) (o b : Value) : Array Value := ipA p.tos p.ttl p.proto p.id p.flags p.off p.src p.dst o b

set_option maxHeartbeats 2000000 in
/-- What rewrite.read answers, whatever packet it is handed. -/
theorem bread_any {w : World} {p : Pk} {ao bo : Option Addr} {no co cb : Nat} (hb : Row w bo p.body) (hc : p.body.length ≤ cb) :
    Calls Tryz.prog 55 #[.agg (ipB p (.slice ao no co) (.slice bo p.body.length cb))] w fun e w' => ∃ u, e = .returned (.tuple #[u, .int .i64 (bdErr p)]) ∧ (bdErr p = 0 → BdV w' w.heap.size u p) ∧ Below w.heap.size w w' := by
  have hM : Mem w (w.alloc (.cells (ipB p (.slice ao no co) (.slice bo p.body.length cb)) ipT)) [(w.heap.size, .cells (ipB p (.slice ao no co) (.slice bo p.body.length cb)) ipT)] := (Mem.nil w).push1 rfl
  have hrow := hM.row hb
  have hB0 := hM.below
  have hsz := hB0.size
  by_cases h17 : p.proto = 17
  · have e : bdErr p = udErr p.body := by unfold bdErr; rw [if_pos h17]
    rw [e]
    have hP := uparse_any hrow rfl hc
    have HF : Hid (∀ W v, UdV W w.heap.size v (udRes p.body) → BdV W w.heap.size (.iface udT v) p) := fun W v h => Or.inl ⟨h17, v, rfl, h⟩
    have HB : Hid _ := hB0
    have HZ : Hid _ := hsz
    clear hM hrow hB0 hsz e hb hc
    obtain ⟨tos, ttl, proto, id, flags, off, src, dst, opts, body⟩ := p
    simp only at h17 hP HF HB HZ ⊢
    subst h17
    generalize udErr body = E at *
    generalize body.length = n at *
    go_enter Tryz.func55, Tryz.ntmps55
    go_wp2_with fail
    refine hP.mono ?_
    rintro e w1 ⟨v, rfl, hv, hb1⟩
    have HV : Hid _ := hv
    have HB1 : Hid _ := hb1
    clear hv hb1 hP
    go_wp2_with fail
    go_ret2
    exact ⟨_, rfl, fun _ => HF.out _ _ (UdV.mono HV.out HZ.out), HB.out.trans (HB1.out.mono HZ.out)⟩
  by_cases h6 : p.proto = 6
  · have e : bdErr p = tcErr p.body := by unfold bdErr; rw [if_neg h17, if_pos h6]
    rw [e]
    have hP := tparse_any hrow rfl hc
    have HF : Hid (∀ W v, TcV W w.heap.size v (tcRes p.body) → BdV W w.heap.size (.iface tcT v) p) := fun W v h => Or.inr (Or.inl ⟨h6, v, rfl, h⟩)
    have HB : Hid _ := hB0
    have HZ : Hid _ := hsz
    clear hM hrow hB0 hsz e hb hc h17
    obtain ⟨tos, ttl, proto, id, flags, off, src, dst, opts, body⟩ := p
    simp only at h6 hP HF HB HZ ⊢
    subst h6
    generalize tcErr body = E at *
    generalize body.length = n at *
    go_enter Tryz.func55, Tryz.ntmps55
    go_wp2_with fail
    refine hP.mono ?_
    rintro e w1 ⟨v, rfl, hv, hb1⟩
    have HV : Hid _ := hv
    have HB1 : Hid _ := hb1
    clear hv hb1 hP
    go_wp2_with fail
    go_ret2
    exact ⟨_, rfl, fun _ => HF.out _ _ (TcV.mono HV.out HZ.out), HB.out.trans (HB1.out.mono HZ.out)⟩
  by_cases h1 : p.proto = 1
  · have e : bdErr p = mgErr p.body := by unfold bdErr; rw [if_neg h17, if_neg h6, if_pos h1]
    rw [e]
    have hP := mparse_own hrow rfl hc
    have HF : Hid (∀ W v, MgO W w.heap.size v (mgRes p.body) → BdV W w.heap.size (.iface mgT v) p) := fun W v h => Or.inr (Or.inr ⟨h1, v, rfl, h⟩)
    have HB : Hid _ := hB0
    have HZ : Hid _ := hsz
    clear hM hrow hB0 hsz e hb hc h17 h6
    obtain ⟨tos, ttl, proto, id, flags, off, src, dst, opts, body⟩ := p
    simp only at h1 hP HF HB HZ ⊢
    subst h1
    generalize mgErr body = E at *
    generalize body.length = n at *
    go_enter Tryz.func55, Tryz.ntmps55
    go_wp2_with fail
    refine hP.mono ?_
    rintro e w1 ⟨v, rfl, hv, hb1⟩
    have HV : Hid _ := hv
    have HB1 : Hid _ := hb1
    clear hv hb1 hP
    go_wp2_with fail
    go_ret2
    exact ⟨_, rfl, fun _ => HF.out _ _ (MgO.mono HV.out HZ.out), HB.out.trans (HB1.out.mono HZ.out)⟩
  · have e : bdErr p = 21 := by unfold bdErr; rw [if_neg h17, if_neg h6, if_neg h1]
    rw [e]
    have HB : Hid _ := hB0
    clear hM hrow hB0 hsz e hb hc
    obtain ⟨tos, ttl, proto, id, flags, off, src, dst, opts, body⟩ := p
    simp only at h1 h6 h17 HB ⊢
    generalize body.length = n at *
    go_enter Tryz.func55, Tryz.ntmps55
    go_wp2_with fail
    go_ret2
    exact ⟨_, rfl, fun h => (by omega), HB.out⟩

/-- The assertions. -/
theorem assert_udp (u : Value) (w : World) : (Instr.typeAssert (.iface udT u) bdT udT false).run Tryz.prog w = .ok u w := by kernel_rfl
theorem assert_tcp (u : Value) (w : World) : (Instr.typeAssert (.iface tcT u) bdT tcT false).run Tryz.prog w = .ok u w := by kernel_rfl
theorem assert_icmp (u : Value) (w : World) : (Instr.typeAssert (.iface mgT u) bdT mgT false).run Tryz.prog w = .ok u w := by kernel_rfl

set_option maxHeartbeats 2000000 in
/-- What rewrite.right answers. -/
theorem bright_any {w : World} {B : Nat} {p : Pk} {o b v : Value} (hp : p.Ok) (hv : BdV w B v p) :
    Calls Tryz.prog 56 #[.agg (ipB p o b), v] w fun e w' => e = .returned (.bool (bdRight p)) ∧ Below w.heap.size w w' := by
  have hM : Mem w (w.alloc (.cells (ipB p o b) ipT)) [(w.heap.size, .cells (ipB p o b) ipT)] := (Mem.nil w).push1 rfl
  have s0 := hp.src
  have d0 := hp.dst
  rcases hv with ⟨e, u, rfl, hu⟩ | ⟨e, u, rfl, hu⟩ | ⟨e, u, rfl, hu⟩
  · have HU : Hid (bdRight p = uright p.src p.dst (udRes p.body)) := by show _ = _; unfold bdRight; rw [if_pos e]
    have hta := assert_udp u
    have HC : Hid (∀ W, Below w.heap.size w W → Calls Tryz.prog 79 #[.int .u32 p.src, .int .u32 p.dst, u] W fun r w' => r = .returned (.bool (bdRight p)) ∧ Below W.heap.size W w') := fun W hb => by
      rw [HU.out]
      exact uright_any (udRes_ok hp.body) (hu.below hb (Nat.le_refl _)) p.src p.dst s0.1 s0.2 d0.1 d0.2
    have HM0 : Hid _ := hM
    clear hM HU hu s0 d0 hp
    generalize bdRight p = R at *
    obtain ⟨tos, ttl, proto, id, flags, off, src, dst, opts, body⟩ := p
    simp only at e HC HM0 ⊢
    subst e
    go_enter Tryz.func56, Tryz.ntmps56
    go_upto_region 3 with fail
    refine wp_letter (fun W => Mem w W [(w.heap.size, .cells (ipA tos ttl 17 id flags off src dst o b) ipT)]) HM0.out ?_
    intro w1 hM1
    have HM1 : Hid _ := hM1.drew
    have k6 : w1.cell? ⟨w.heap.size, 6, none⟩ = some (.int .u32 src) := hM1.cell 0 rfl 6
    have k7 : w1.cell? ⟨w.heap.size, 7, none⟩ = some (.int .u32 dst) := hM1.cell 0 rfl 7
    clear hM1 HM0
    go_region_held3 (fun w' => w'.cell? ⟨w.heap.size, 6, none⟩ = some (.int .u32 src) ∧ w'.cell? ⟨w.heap.size, 7, none⟩ = some (.int .u32 dst))
      (first | go_keep | exact ⟨hM2.cell 0 rfl 6, hM2.cell 0 rfl 7⟩)
      (first
        | (go_at_call 79; with_reducible refine (HC.out _ HM1.out.below).mono ?_; rintro e w2 ⟨rfl, hb2⟩; have hM2 := HM1.out.after hb2))
    all_goals
      have HB2 : Hid _ := hM2.below
      clear hM2 hb2
      go_wp2_with fail
      go_ret
      exact ⟨rfl, HB2.out⟩
  · have HU : Hid (bdRight p = tright p.src p.dst (tcRes p.body)) := by show _ = _; unfold bdRight; rw [if_neg (by omega), if_pos e]
    have hta := assert_tcp u
    have HC : Hid (∀ W, Below w.heap.size w W → Calls Tryz.prog 80 #[.int .u32 p.src, .int .u32 p.dst, u] W fun r w' => r = .returned (.bool (bdRight p)) ∧ Below W.heap.size W w') := fun W hb => by
      rw [HU.out]
      exact tright_any (tcRes_ok hp.body) (hu.below hb (Nat.le_refl _)) p.src p.dst s0.1 s0.2 d0.1 d0.2
    have HM0 : Hid _ := hM
    clear hM HU hu s0 d0 hp
    generalize bdRight p = R at *
    obtain ⟨tos, ttl, proto, id, flags, off, src, dst, opts, body⟩ := p
    simp only at e HC HM0 ⊢
    subst e
    go_enter Tryz.func56, Tryz.ntmps56
    go_upto_region 5 with fail
    refine wp_letter (fun W => Mem w W [(w.heap.size, .cells (ipA tos ttl 6 id flags off src dst o b) ipT)]) HM0.out ?_
    intro w1 hM1
    have HM1 : Hid _ := hM1.drew
    have k6 : w1.cell? ⟨w.heap.size, 6, none⟩ = some (.int .u32 src) := hM1.cell 0 rfl 6
    have k7 : w1.cell? ⟨w.heap.size, 7, none⟩ = some (.int .u32 dst) := hM1.cell 0 rfl 7
    clear hM1 HM0
    go_region_held3 (fun w' => w'.cell? ⟨w.heap.size, 6, none⟩ = some (.int .u32 src) ∧ w'.cell? ⟨w.heap.size, 7, none⟩ = some (.int .u32 dst))
      (first | go_keep | exact ⟨hM2.cell 0 rfl 6, hM2.cell 0 rfl 7⟩)
      (first
        | (go_at_call 80; with_reducible refine (HC.out _ HM1.out.below).mono ?_; rintro e w2 ⟨rfl, hb2⟩; have hM2 := HM1.out.after hb2))
    all_goals
      have HB2 : Hid _ := hM2.below
      clear hM2 hb2
      go_wp2_with fail
      go_ret
      exact ⟨rfl, HB2.out⟩
  · have HU : Hid (bdRight p = mright (mgRes p.body)) := by show _ = _; unfold bdRight; rw [if_neg (by omega), if_neg (by omega)]
    have hta := assert_icmp u
    have hC := mright_any (mgRes_ok hp.body) (hu.v.below hM.below (Nat.le_refl _))
    have HB0 : Hid _ := hM.below
    clear hM hu s0 d0 hp
    generalize bdRight p = R at *
    generalize mright (mgRes p.body) = R2 at *
    obtain ⟨tos, ttl, proto, id, flags, off, src, dst, opts, body⟩ := p
    simp only at e hC HB0 ⊢
    subst e
    go_enter Tryz.func56, Tryz.ntmps56
    go_wp2_with fail
    refine hC.mono ?_
    rintro e w2 ⟨rfl, hb2⟩
    have HB2 : Hid (Below w.heap.size w w2) := HB0.out.trans (hb2.mono HB0.out.size)
    clear hb2 HB0 hC
    go_wp2_with fail
    go_ret
    exact ⟨by rw [HU.out] <;> rfl, HB2.out⟩
end Go.Proofs.YtjalpbkfpjfigaaGreat

