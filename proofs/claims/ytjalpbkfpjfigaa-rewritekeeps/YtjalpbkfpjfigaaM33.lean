/-
  The statements' known packet: lychseat.Packet at one value, and lychlaw8.known answers true.
  What Hop and Change hand back are bytes, no more than 65535.
-/
import Derived.Test.YtjalpbkfpjfigaaM24
import Derived.Test.YtjalpbkfpjfigaaM29
import Derived.Test.YtjalpbkfpjfigaaM32
import Derived.Test.YtjalpbkfpjfigaaM28
namespace Go.Proofs.Ytjalpbkfpjfigaa
open Go.RowKit
open Sm
set_option linter.unusedVariables false
set_option maxRecDepth 20000

abbrev paT : TypeId := 24
abbrev paA (pr s d fr tp fl ttl er n sp : Int) : Array Value := #[.int .u8 pr, .int .u8 s, .int .u8 d, .int .u8 fr, .int .u8 tp, .int .u8 fl, .int .u8 ttl, .int .u8 er, .int .u8 n, .int .u8 sp]
abbrev kpA : Array Value := paA 2 0 0 0 0 0 9 0 0 0
theorem kpk_ok : kpk.Ok := ⟨by decide, by decide, by decide, by decide, by decide, by decide, by decide, by decide, bytes_nil, (mgOut_facts (q := bdMg 1000 0 0) ⟨by decide, by decide, by decide +kernel, by decide, dat_bytes 0⟩).1⟩

set_option maxHeartbeats 4000000 in
theorem kpacket (w : World) : Calls Try.prog 9 #[.agg kpA, .int .i64 0, .int .i64 0] w fun e w' => ∃ u, e = .returned u ∧ w'.ownsRow w.heap.size 5 1 u 28 (kl.map (Value.int .u8)) ∧ Below w.heap.size w w' := by
  have HM0 : Hid (Mem w (w.alloc (.cells kpA paT)) [(w.heap.size, .cells kpA paT)]) := (Mem.nil w).push1 rfl
  have i1 : insd 0 = 167772161 := by decide
  have i2 : outsd 0 0 = 134744072 := by decide
  have i3 : prt 2 = 1 := by decide
  have i4 : ports 0 = 1000 := by decide
  have hIn := fun W => inside_any W 0 (by decide) (by decide)
  have hOut := fun W => outside_any W 0 0 (by decide) (by decide) (by decide) (by decide)
  have hPr := fun W => proto_any W 2 (by decide) (by decide)
  have hPo := fun W => port_any W 0 (by decide) (by decide)
  rw [i1] at hIn
  rw [i2] at hOut
  rw [i3] at hPr
  rw [i4] at hPo
  have HI : Hid _ := hIn
  have HOu : Hid _ := hOut
  have HPr : Hid _ := hPr
  have HPo : Hid _ := hPo
  have z8 : IntKind.u8.wrap 0 = 0 := rfl
  have z16 : IntKind.u16.wrap 0 = 0 := rfl
  clear i1 i2 i3 i4 hIn hOut hPr hPo
  go_enter Try.func9, Try.ntmps9
  go_upto_region 1 with fail
  refine wp_letter (fun W => Mem w W [(w.heap.size, .cells kpA paT)]) HM0.out ?_
  intro w1 hM1
  have HM1 : Hid _ := hM1.drew
  have b1 : w1.cell? ⟨w.heap.size, 1, none⟩ = some (.int .u8 0) := hM1.cell 0 rfl 1
  have b2 : w1.cell? ⟨w.heap.size, 2, none⟩ = some (.int .u8 0) := hM1.cell 0 rfl 2
  clear hM1 HM0
  go_region_held3 (fun w' => w'.cell? ⟨w.heap.size, 1, none⟩ = some (.int .u8 0) ∧ w'.cell? ⟨w.heap.size, 2, none⟩ = some (.int .u8 0)) (first | go_keep | assumption)
    (first
      | (go_at_call 20; with_reducible refine (HI.out _).mono ?_; rintro e w2 ⟨rfl, rfl⟩)
      | (go_at_call 21; with_reducible refine (HOu.out _).mono ?_; rintro e w3 ⟨rfl, rfl⟩))
  all_goals
    go_upto_region 2 with fail
    refine wp_letter (fun W => Mem w W [(w.heap.size, .cells kpA paT)]) HM1.out ?_
    intro w4 hM4
    have HM4 : Hid _ := hM4
    have b0 : w4.cell? ⟨w.heap.size, 0, none⟩ = some (.int .u8 2) := hM4.cell 0 rfl 0
    clear hM4 HM1 b1 b2
    go_wp2_with fail
    refine (HPr.out _).mono ?_
    rintro e w5 ⟨rfl, hb5⟩
    have hM5 := HM4.out.after hb5
    have HM5 : Hid _ := hM5.drew
    have b3 : w5.cell? ⟨w.heap.size, 3, none⟩ = some (.int .u8 0) := hM5.cell 0 rfl 3
    have b4 : w5.cell? ⟨w.heap.size, 4, none⟩ = some (.int .u8 0) := hM5.cell 0 rfl 4
    clear b0 hM5 hb5 HM4
    go_upto_region 5 with fail
    go_region_held3 (fun w' => w'.cell? ⟨w.heap.size, 3, none⟩ = some (.int .u8 0) ∧ w'.cell? ⟨w.heap.size, 4, none⟩ = some (.int .u8 0)) (first | go_keep | assumption)
      (first
        | (go_at_call 23; with_reducible refine (HPo.out _).mono ?_; rintro e w6 ⟨rfl, rfl⟩))
    all_goals
      go_upto_region 6 with fail
      refine wp_letter (fun W => Mem w W [(w.heap.size, .cells kpA paT)]) HM5.out ?_
      intro w7 hM7
      have HM7 : Hid _ := hM7
      have b5 : w7.cell? ⟨w.heap.size, 5, none⟩ = some (.int .u8 0) := hM7.cell 0 rfl 5
      have b8 : w7.cell? ⟨w.heap.size, 8, none⟩ = some (.int .u8 0) := hM7.cell 0 rfl 8
      have hBo := body_icmp w7 167772161 134744072 1000 1000 0 0 (by decide) (by decide)
      obtain ⟨N, hN⟩ : ∃ N, (mgOut (bdMg 1000 0 0)).length = N := ⟨_, rfl⟩
      have HN : Hid ((mgOut (bdMg 1000 0 0)).length = N ∧ N = 8) := ⟨hN, by rw [← hN]; decide +kernel⟩
      rw [hN] at hBo
      clear hM7 HM5 b3 b4 hN
      go_wp2_with fail
      refine hBo.mono ?_
      rintro e w8 ⟨x, rfl, hown, hb8⟩
      have hM8 := HM7.out.after hb8
      have HM8 : Hid _ := hM8
      obtain ⟨xa, xc, hx, hrow, hnil, hfar, -⟩ := own_read hown HN.out.1 (mgOut_facts (q := bdMg 1000 0 0) ⟨by decide, by decide, by decide +kernel, by decide, dat_bytes 0⟩).1 (by rw [HN.out.1, HN.out.2]; decide)
      subst hx
      have HV8 : Hid (IpV w8 0 (.agg (ipA 0 64 1 0 2 0 167772161 134744072 (.slice none 0 0) (.slice xa N xc))) kpk) := ⟨none, 0, xa, xc, by simp only [kpk, HN.out.1]; rfl, row_nil w8, hrow, fun _ => rfl, hnil, fun x hx => (by cases hx), fun x hx => Nat.zero_le _⟩
      have c8 : w8.cell? ⟨w.heap.size, 8, none⟩ = some (.int .u8 0) := hM8.cell 0 rfl 8
      clear hM8 hown hrow hnil hfar hb8 hBo b5 b8 HM7
      go_upto_region 8 with fail
      refine wp_letter (fun W => Mem w W [(w.heap.size, .cells kpA paT), (w8.heap.size, .cells (ipA 0 64 1 0 2 0 167772161 134744072 (.slice none 0 0) (.slice xa N xc)) ipT (0, 0))] ∧ IpV W 0 (.agg (ipA 0 64 1 0 2 0 167772161 134744072 (.slice none 0 0) (.slice xa N xc))) kpk) ⟨HM8.out.push2 rfl, HV8.out.below ((Below.refl _ _).alloc (Nat.le_refl _) _) (Nat.le_refl _)⟩ ?_
      intro w9 ⟨hM9, hv9⟩
      have HM9 : Hid _ := hM9
      have d6 : w9.cell? ⟨w.heap.size, 6, none⟩ = some (.int .u8 9) := hM9.cell 0 rfl 6
      have d7 : w9.cell? ⟨w.heap.size, 7, none⟩ = some (.int .u8 0) := hM9.cell 0 rfl 7
      have kc : ∀ i, w9.cell? ⟨w8.heap.size, i, none⟩ = (ipA 0 64 1 0 2 0 167772161 134744072 (.slice none 0 0) (.slice xa N xc))[i]? := hM9.cell 1 rfl
      have hB := rbytes_any kpk_ok hv9
      rw [kl_out, kl_len] at hB
      clear hM9 hv9 HM8 HV8 c8
      generalize w8.heap.size = G at *
      go_wp2_with fail
      refine hB.mono ?_
      rintro e w10 ⟨u, rfl, hown, hb10⟩
      have hM10 := HM9.out.after hb10
      have HU : Hid _ := own_base hown HM9.out.below.size
      have HB10 : Hid _ := hM10.below
      have d9 : w10.cell? ⟨w.heap.size, 9, none⟩ = some (.int .u8 0) := hM10.cell 0 rfl 9
      clear hB hown hb10 hM10 kc d6 d7 HM9
      go_wp2_with fail
      go_ret
      exact ⟨_, rfl, HU.out, HB10.out⟩
end Go.Proofs.Ytjalpbkfpjfigaa

namespace Go.Proofs.Ytjalpbkfpjfigaa
open Go.RowKit
open Sm
set_option linter.unusedVariables false
namespace Sm
theorem ipOut_bytes {p : Pk} (h : p.Ok) : IsBytes (ipOut p) ∧ (ipOut p).length ≤ 65535 := by
  unfold ipOut
  by_cases e : ipbErr p = 0
  · rw [if_pos e]
    have f := (fits_iff p).mp e
    exact ⟨ipb_bytes h f, by rw [ipb_len]; exact f.n⟩
  · rw [if_neg e]; exact ⟨bytes_nil, by simp⟩
theorem ipPk_ok {l : List Int} (h : IsBytes l) (h0 : ipErr l = 0) : (ipPk l).Ok := by
  have := ipRes_ok h
  rwa [show ipRes l = ipPk l from if_pos h0] at this
theorem hop_ok {p : Pk} (h : p.Ok) (ht : p.ttl ≠ 0) : p.hop.Ok := by
  have := h.ttl
  exact ⟨h.tos, ⟨by simp only [Pk.hop]; omega, by simp only [Pk.hop]; omega⟩, h.proto, h.id, h.flags, h.off, h.src, h.dst, h.opts, h.body⟩
theorem hopOut_bytes {l : List Int} (h : IsBytes l) : IsBytes (hopOut l) ∧ (hopOut l).length ≤ 65535 := by
  unfold hopOut
  by_cases e : ipErr l = 0
  · rw [if_neg (by omega)]
    by_cases t : (ipPk l).ttl = 0
    · rw [if_pos t]; exact ⟨bytes_nil, by simp⟩
    · rw [if_neg t]; exact ipOut_bytes (hop_ok (ipPk_ok h e) t)
  · rw [if_pos e]; exact ⟨bytes_nil, by simp⟩
theorem chOut_bytes {l : List Int} (h : IsBytes l) {s d : Pt} (hs : s.Ok) (hd : d.Ok) : IsBytes (chOut l s d) ∧ (chOut l s d).length ≤ 65535 := by
  unfold chOut
  by_cases e : lkErr l = 0
  · rw [if_neg (by omega)]
    split
    · exact ⟨bytes_nil, by simp⟩
    · exact ipOut_bytes (chPk_ok (ipPk_ok h (lk_parts e).1) _ hs hd)
  · rw [if_pos e]; exact ⟨bytes_nil, by simp⟩
end Sm
end Go.Proofs.Ytjalpbkfpjfigaa

