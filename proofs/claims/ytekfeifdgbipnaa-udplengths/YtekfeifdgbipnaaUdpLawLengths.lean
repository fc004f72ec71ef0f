/-
  The walk of lychlaw4.UdpLengths: it answers true.
-/
import Derived.Test.YtekfeifdgbipnaaUdpLaws
namespace Go.Proofs.Ytekfeifdgbipnaa
open Go.RowKit
open Sm
set_option linter.unusedVariables false

set_option maxRecDepth 20000 in
set_option maxHeartbeats 1000000 in
theorem ulengths_long {w : World} (a : Option Addr) (n c : Nat) (t : Int) (h : 500 < n) :
    Calls Try.prog 7 #[.slice a n c, .int .u16 t] w fun e w' => e = .returned (.bool true) ∧ Below w.heap.size w w' := by
  have h' : (500 : Int) < n := by omega
  have hk := uknown_any w
  clear h
  go_enter Try.func7, Try.ntmps7
  go_wp2_with fail
  refine hk.mono ?_
  rintro e w1 ⟨rfl, hb⟩
  go_wp2_with fail
  go_ret
  exact ⟨rfl, hb⟩

theorem Row.take {w : World} {a : Option Addr} {l : List Int} (h : Row w a l) (m : Nat) : Row w a (l.take m) := by
  have hl := h.len
  have hlen : (l.take m).length ≤ l.length := by rw [List.length_take]; omega
  refine ⟨fun i => ?_, by omega, ?_⟩
  · by_cases hi : i < m
    · rw [take_getD _ _ _ hi]; exact h.bytes i
    · have : (l.take m).getD i 0 = 0 := by simp only [List.getD]; rw [List.getElem?_eq_none (by rw [List.length_take]; omega)]; rfl
      rw [this]; omega
  · rcases h.cells with e | ⟨b, off, rfl, hc⟩
    · left; rw [e]; simp
    · right
      refine ⟨b, off, rfl, fun i hi => ?_⟩
      have him : i < m := by rw [List.length_take] at hi; omega
      rw [take_getD _ _ _ him]
      exact hc i (by omega)

/-- The datagram's bytes with K for its length. -/
def ulk (body : List Int) (K : Nat) : List Int := ((udb ⟨1, 2, 3, body⟩).set 4 ((K : Int) / 256)).set 5 ((K : Int) % 256)
theorem ulk_len (body : List Int) (K : Nat) : (ulk body K).length = 8 + body.length := by simp [ulk, udb_len]
theorem ulk_ulen (body : List Int) (K : Nat) (hK : K ≤ 65535) : ulen (ulk body K) = K := by
  unfold ulk ulen w16 udb ud8
  simp only [List.cons_append, List.nil_append, List.set_cons_zero, List.set_cons_succ, List.getD_cons_zero, List.getD_cons_succ]
  omega
theorem ulk_bytes {body : List Int} (h : IsBytes body) (hn : body.length ≤ 500) (K : Nat) (hK : K ≤ 65535) : IsBytes (ulk body K) := by
  unfold ulk udb ud8
  simp only [List.cons_append, List.nil_append, List.set_cons_zero, List.set_cons_succ]
  iterate 8 (refine bytes_cons ⟨by omega, by omega⟩ ?_)
  exact h
theorem ulk_err (body : List Int) (K : Nat) (hK : K ≤ 65535) : udErr (ulk body K) = if K < 8 then 21 else if 8 + body.length < K then 20 else 0 := by
  unfold udErr
  rw [ulk_ulen body K hK, ulk_len, if_neg (by omega)]
theorem ulk_res (body : List Int) (K : Nat) (hK : K ≤ 65535) (h8 : 8 ≤ K) (h : K ≤ 8 + body.length) : (udRes (ulk body K)).body = body.take (K - 8) := by
  unfold udRes
  rw [if_pos (by rw [ulk_err body K hK, if_neg (by omega), if_neg (by omega)])]
  unfold udDg
  rw [ulk_ulen body K hK]
  rfl

set_option maxRecDepth 20000 in
set_option maxHeartbeats 4000000 in
theorem ulengths_core {w : World} {a : Option Addr} {body : List Int} (hr : Row w a body) (n c : Nat) (hn : body.length = n) (hc : n ≤ c) (hnil : a = none → c = 0) (h5 : n ≤ 500) (t : Int) (t0 : 0 ≤ t) (t1 : t ≤ 65535) :
    Calls Try.prog 7 #[.slice a n c, .int .u16 t] w fun e w' => e = .returned (.bool true) ∧ Below w.heap.size w w' := by
  have hk := uknown_any w
  have h5' : (n : Int) ≤ 500 := by omega
  obtain ⟨N, hN⟩ : ∃ N : Nat, N = 8 + n := ⟨_, rfl⟩
  have hNi : 8 + (n : Int) = N := by omega
  have hN4 : IntKind.i64.wrap ((N : Int) + 4) = (N : Int) + 4 := wrap64_small _ (by omega) (by omega)
  have hem0 := Int.emod_nonneg t (show (N : Int) + 4 ≠ 0 by omega)
  have hem1 := Int.emod_lt_of_pos t (show (0 : Int) < (N : Int) + 4 by omega)
  obtain ⟨K, hK⟩ : ∃ K : Nat, t % ((N : Int) + 4) = K := ⟨(t % ((N : Int) + 4)).toNat, by omega⟩
  have hKr : K < N + 4 := by omega
  have HK : Hid (t % ((N : Int) + 4) = K) := hK
  have hne0 : ¬ (N : Int) + 4 = 0 := by omega
  have u1 : IntKind.u8.wrap ((K : Int) / 256) = (K : Int) / 256 := wrap8_small _ (by omega) (by omega)
  have u2 : IntKind.u8.wrap (K : Int) = (K : Int) % 256 := by simp [IntKind.wrap, IntKind.bits, IntKind.signed]
  have hq : (Dg.mk 1 2 3 body).Ok := ⟨by simp, by simp, by simp, hr.bytes⟩
  have hE : udbErr ⟨1, 2, 3, body⟩ = 0 := (udbErr_zero _).mpr (by simp only; omega)
  have hO : udOut ⟨1, 2, 3, body⟩ = udb ⟨1, 2, 3, body⟩ := if_pos hE
  have HR : Hid (Row w a body ∧ body.length = n ∧ n ≤ c ∧ (a = none → c = 0) ∧ n ≤ 500 ∧ N = 8 + n ∧ K < N + 4) := ⟨hr, hn, hc, hnil, h5, hN, hKr⟩
  have HO : Hid ((Dg.mk 1 2 3 body).Ok ∧ udbErr ⟨1, 2, 3, body⟩ = 0 ∧ udOut ⟨1, 2, 3, body⟩ = udb ⟨1, 2, 3, body⟩ ∧ (udb ⟨1, 2, 3, body⟩).length = N) := ⟨hq, hE, hO, by rw [udb_len, hN, ← hn]⟩
  clear hr hn hc h5 hN hK hKr hq hE hO hnil hem0 hem1
  go_enter Try.func7, Try.ntmps7
  go_wp2_with fail
  refine hk.mono ?_
  rintro e w1 ⟨rfl, hb1⟩
  have hv1 : UdV w1 0 (.agg (udA 1 2 3 (.slice a n c))) ⟨1, 2, 3, body⟩ := ⟨a, c, by rw [HR.out.2.1], HR.out.1.below hb1 (Nat.le_refl _), HR.out.2.2.2.1, fun _ _ => Nat.zero_le _⟩
  have hb := ubytes_any HO.out.1 hv1
  rw [HO.out.2.1, HO.out.2.2.1, HO.out.2.2.2] at hb
  have HB1 : Hid _ := hb1
  clear hk hv1 hb1
  go_wp2_with fail
  refine hb.mono ?_
  rintro e w2 ⟨x, rfl, hown, hb2⟩
  obtain ⟨g, cap, rfl, hg, hcap, hob⟩ := own_shape2 hown HO.out.2.2.2 (by have := HR.out; omega)
  have hM2 := (Mem.nil w).after HB1.out
  have HB2 : Hid (Below w.heap.size w w2) := (hM2.after hb2).below
  have HG : Hid (w.heap.size ≤ g ∧ N ≤ cap) := ⟨Nat.le_trans HB1.out.size hg, hcap⟩
  clear hb hown hb2 hM2 HB1 hg hcap
  have k4 : w2.cell? ⟨g, 4, none⟩ = some _ := hob.cell 4 (by rw [HO.out.2.2.2]; have := HR.out; omega)
  have k5 : w2.cell? ⟨g, 5, none⟩ = some _ := hob.cell 5 (by rw [HO.out.2.2.2]; have := HR.out; omega)
  have f4 := hob.free 4
  have f5 := hob.free 5
  have hob2 := (hob.store 4 ((K : Int) / 256)).store 5 ((K : Int) % 256)
  have HOB : Hid (OwnB ((w2.setCell ⟨g, 4, none⟩ (.int .u8 ((K : Int) / 256))).setCell ⟨g, 5, none⟩ (.int .u8 ((K : Int) % 256))) w1.heap.size g cap (ulk body K)) := hob2
  generalize (udb ⟨1, 2, 3, body⟩).getD 4 0 = z4 at k4
  generalize (udb ⟨1, 2, 3, body⟩).getD 5 0 = z5 at k5
  clear hob hob2
  have i4 : (4 : Int) < N := by omega
  have i5 : (5 : Int) < N := by omega
  go_upto_region 9 with fail
  rw [HK.out]
  go_upto_region 10 with fail
  refine wp_letter (fun W => OwnB W w1.heap.size g cap (ulk body K) ∧ Below w.heap.size w W) ⟨HOB.out, below_set (below_set HB2.out HG.out.1) HG.out.1⟩ ?_
  intro w3 ⟨hob3, hb3⟩
  have HB3 : Hid _ := hb3
  have hkb := ulk_bytes HR.out.1.bytes (by have := HR.out; omega) K (by have := HR.out; omega)
  have hkl : (ulk body K).length = N := by rw [ulk_len, HR.out.2.1, HR.out.2.2.2.2.2.1]
  have hke := ulk_err body K (by have := HR.out; omega)
  rw [HR.out.2.1, ← HR.out.2.2.2.2.2.1] at hke
  have hkr := ulk_res body K (by have := HR.out; omega)
  obtain ⟨p, ep⟩ : ∃ p, udRes (ulk body K) = p := ⟨_, rfl⟩
  obtain ⟨nb, enb⟩ : ∃ nb, p.body.length = nb := ⟨_, rfl⟩
  rw [ep] at hkr
  have hp := uparse_out (hob3.row hkb (by rw [hkl]; omega)) hkl HG.out.2 hke ep enb
  have HP : Hid (p.body.length = nb ∧ (8 ≤ K → K ≤ 8 + body.length → p.body = body.take (K - 8))) := ⟨enb, hkr⟩
  clear hob3 hb3 hkb hkl hke hkr ep enb HOB HB2 k4 k5 f4 f5
  by_cases c1 : K < 8
  · rw [if_pos c1] at hp
    have c1' : (K : Int) < 8 := by omega
    go_wp2_with fail
    refine hp.mono ?_
    rintro e w4 ⟨bo, cb, rfl, -, hb4⟩
    have HB4 : Hid (Below w.heap.size w w4) := HB3.out.trans (hb4.mono HB3.out.size)
    clear hp hb4
    go_wp2_with fail
    go_ret
    exact ⟨rfl, HB4.out.alloc HB4.out.size _⟩
  rw [if_neg c1] at hp
  have c1' : (8 : Int) ≤ K := by omega
  by_cases c2 : N < K
  · rw [if_pos c2] at hp
    have c2' : (N : Int) < K := by omega
    go_wp2_with fail
    refine hp.mono ?_
    rintro e w4 ⟨bo, cb, rfl, -, hb4⟩
    have HB4 : Hid (Below w.heap.size w w4) := HB3.out.trans (hb4.mono HB3.out.size)
    clear hp hb4
    go_wp2_with fail
    go_ret
    exact ⟨rfl, HB4.out.alloc HB4.out.size _⟩
  rw [if_neg c2] at hp
  have c2' : (K : Int) ≤ N := by omega
  have hpb := HP.out.2 (by omega) (by have := HR.out; omega)
  obtain ⟨m, hm⟩ : ∃ m : Nat, m = K - 8 := ⟨_, rfl⟩
  have hnb : nb = m := by
    have h1 := HP.out.1
    rw [hpb, List.length_take] at h1
    have := HR.out
    omega
  subst hnb
  have HPB : Hid (p.body = body.take nb ∧ p.body.length = nb ∧ nb + 8 = K) := ⟨by rw [hm]; exact hpb, HP.out.1, by omega⟩
  have hKm : (K : Int) - 8 = nb := by omega
  have hKw : IntKind.i64.wrap ((K : Int) - 8) = (K : Int) - 8 := by exact wrap64_small _ (by omega) (by have := HR.out; omega)
  have hmc : (K : Int) - 8 ≤ c := by have := HR.out; omega
  have hm0 : (0 : Int) ≤ (K : Int) - 8 := by omega
  have hmt : ((K : Int) - 8).toNat = nb := by omega
  have hmn : (nb : Int) ≤ n := by have := HR.out; omega
  clear hKm
  clear hpb hm HP
  go_wp2_with fail
  refine hp.mono ?_
  rintro e w4 ⟨bo, cb, rfl, hv4, hb4⟩
  clear hp
  have hrb : Row w4 a (body.take nb) := (HR.out.1.take nb).below (HB3.out.trans (hb4.mono HB3.out.size)) (Nat.le_refl _)
  go_upto_region 15 with fail
  refine wp_letter (fun W => Mem w W [(w4.heap.size, .cells (dgA p (.slice bo nb cb)) udT)] ∧ UdV W 0 (.agg (dgA p (.slice bo nb cb))) p) ⟨(((Mem.nil w).after HB3.out).after hb4).push w4.heap.size _ rfl, udv_box (hv4.mono (Nat.zero_le _)) _⟩ ?_
  intro w5 ⟨hM5, hv5⟩
  generalize w4.heap.size = P at *
  have HM5 : Hid _ := hM5
  have k3 : w5.cell? ⟨P, 3, none⟩ = some (.slice bo nb cb) := hM5.cell 0 rfl 3
  have hpr : Row w5 bo (body.take nb) := by
    obtain ⟨bo', cb', e, h, -⟩ := hv5
    simp only [udA, dgA, Value.agg.injEq, Array.mk.injEq, List.cons.injEq, true_and, and_true, Value.slice.injEq] at e
    obtain ⟨rfl, -, rfl⟩ := e
    rw [HPB.out.1] at h
    exact h
  have hlt : (body.take nb).length = nb := by rw [← HPB.out.1]; exact HPB.out.2.1
  have hh := hbytes_yes (row_drew hpr) (row_drew (hM5.row (HR.out.1.take nb))) nb nb hlt hlt cb c
  clear hrb hv4 hb4 hM5 hv5 hpr hlt
  have HB5 : Hid (Below w.heap.size w w5) := HM5.out.below
  have hRc := HR.out.2.2.2.1
  clear HM5
  cases a with
  | none =>
    have hc0 := hRc rfl
    have hnb0 : nb = 0 := by omega
    have hK8 : K = 8 := by have := HPB.out; omega
    subst hc0 hnb0 hK8
    clear hRc
    have hz : IntKind.i64.wrap 0 = 0 := by decide
    go_region_held3 (fun w' => w'.cell? ⟨P, 3, none⟩ = some (.slice bo 0 cb)) (go_keep)
      (first | (go_at_call 15; refine hh.mono ?_; rintro e w6 ⟨rfl, rfl⟩))
    go_wp2_with fail
    go_ret
    exact ⟨rfl, HB5.out.drew⟩
  | some x =>
    clear hRc
    go_region_held3 (fun w' => w'.cell? ⟨P, 3, none⟩ = some (.slice bo nb cb)) (go_keep)
      (first | (go_at_call 15; refine hh.mono ?_; rintro e w6 ⟨rfl, rfl⟩))
    go_wp2_with fail
    go_ret
    exact ⟨rfl, HB5.out.drew⟩
end Go.Proofs.Ytekfeifdgbipnaa
