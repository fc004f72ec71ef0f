/-
  The walk of lychlaw2.EthBack where the body is at most 2000: it answers true.
-/
import Derived.Test.YtkkpjpelcnebeaaReads
import Derived.Test.YtkkpjpelcnebeaaBytes
import Derived.Test.YtkkpjpelcnebeaaRefBytes
namespace Go.Proofs.Ytkkpjpelcnebeaa
open Go.RowKit
open Sm
set_option linter.unusedVariables false

theorem eth_set (x0 x1 x2 x3 x4 x5 x6 x7 x8 x9 x10 x11 t : Int) (v v' : Value) : (ethA x0 x1 x2 x3 x4 x5 x6 x7 x8 x9 x10 x11 t v).setIfInBounds 13 v' = ethA x0 x1 x2 x3 x4 x5 x6 x7 x8 x9 x10 x11 t v' := by
  simp only [ethA, List.setIfInBounds_toArray, List.set_cons_zero, List.set_cons_succ]
theorem both_bytes {x0 x1 x2 x3 x4 x5 x6 x7 x8 x9 x10 x11 : Int} (hx : IsBytes [x0, x1, x2, x3, x4, x5]) (hy : IsBytes [x6, x7, x8, x9, x10, x11]) : IsBytes [x0, x1, x2, x3, x4, x5, x6, x7, x8, x9, x10, x11] := bytes_append (a := [x0, x1, x2, x3, x4, x5]) hx hy

set_option maxRecDepth 20000 in
set_option maxHeartbeats 1000000 in
theorem back_core {w : World} {a : Option Addr} {l : List Int} (h : Row w a l) (n cap : Nat) (hn : l.length = n) (hnil : a = none → cap = 0) (h2 : n ≤ 2000) (x : Int) (r0 : 0 ≤ x) (r1 : x ≤ 65535)
    (x0 x1 x2 x3 x4 x5 x6 x7 x8 x9 x10 x11 t : Int) (hx : IsBytes [x0, x1, x2, x3, x4, x5]) (hy : IsBytes [x6, x7, x8, x9, x10, x11]) (q0 : 0 ≤ t) (q1 : t ≤ 65535) :
    Calls Try.prog 4 #[.agg (ethA x0 x1 x2 x3 x4 x5 x6 x7 x8 x9 x10 x11 t (.slice a n cap)), .int .u16 x] w fun e w' => e = .returned (.bool true) ∧ Below w.heap.size w w' := by
  have hk := known_any (w.alloc (.cells (ethA x0 x1 x2 x3 x4 x5 x6 x7 x8 x9 x10 x11 t (.slice a n cap)) 28))
  obtain ⟨m, hm⟩ : ∃ m : Nat, (m : Int) = x % 1700 := ⟨(x % 1700).toNat, by omega⟩
  have hm2 : m < 1700 := by omega
  have HM : Hid ((m : Int) = x % 1700) := hm
  have HR : Hid (Row w a l) := h
  have HN : Hid (l.length = n) := hn
  have HC : Hid (a = none → cap = 0) := hnil
  have HX : Hid (IsBytes [x0, x1, x2, x3, x4, x5]) := hx
  have HY : Hid (IsBytes [x6, x7, x8, x9, x10, x11]) := hy
  clear h hn hnil hm hx hy
  have hni : (n : Int) ≤ 2000 := by omega
  go_enter Try.func4, Try.ntmps4
  go_wp2_with fail
  refine hk.mono ?_
  rintro e w1 ⟨rfl, hbel1⟩
  have hM1 := ((Mem.nil w).push w.heap.size (.cells (ethA x0 x1 x2 x3 x4 x5 x6 x7 x8 x9 x10 x11 t (.slice a n cap)) 28) rfl).after hbel1
  have HM1 : Hid (Mem w w1 [(w.heap.size, .cells (ethA x0 x1 x2 x3 x4 x5 x6 x7 x8 x9 x10 x11 t (.slice a n cap)) 28)]) := hM1
  have k13 : w1.cell? ⟨w.heap.size, 13, none⟩ = some (.slice a n cap) := hM1.cell 0 rfl 13
  have HL1 : Hid (w.heap.size < w1.heap.size) := hM1.lt (p := (w.heap.size, _)) (List.mem_cons_self ..)
  clear hk hbel1 hM1
  go_upto_region 6 with (first
    | (at_builtin; refine wpList_append_more _ rfl _ (.tmp 18) rfl w1.heap.size _ 0 [] rfl (World.ownsRow_nil _ _ _ _) a cap n l rfl HN.out HC.out (HM1.out.row HR.out) (by omega) (Nat.le_refl _) ?_; intro v2 w2 hown2 hbel2)
    | (at_builtin; refine wpList_append_zeros (tn := 23) (kn := .u16) Try.underlying23 _ rfl (.tmp 19) (.tmp 21) rfl w1.heap.size v2 (0 + n) _ rfl hown2 _ m rfl HM.out.symm (by omega) hbel2.size ?_; intro v3 w3 hown3 hgrow3; have hb3 : Below w1.heap.size w1 w3 := hbel2.trans (own_grown hown2 hgrow3 hbel2.size); rw [List.nil_append, map_noughts, Nat.zero_add] at hown3; obtain ⟨ao, c3, rfl, hrow3, hcn3, hfar3, hc3⟩ := own_read hown3 (by simp [HN.out]) (bytes_append HR.out.bytes (bytes_noughts m)) (by simp [HN.out]; omega); have f13 : w3.cell? ⟨w.heap.size, 13, none⟩ = some (.slice a n cap) := (HM1.out.after hb3).cell 0 rfl 13; have g13 : w3.frozen? ⟨w.heap.size, 13, none⟩ = false := (HM1.out.after hb3).free 0 rfl 13))
  refine wp_letter (fun W => Mem w W [(w.heap.size, .cells (ethA x0 x1 x2 x3 x4 x5 x6 x7 x8 x9 x10 x11 t (.slice ao (n + m) c3)) 28)] ∧ Row W ao (l ++ List.replicate m 0))
    ⟨by have := (HM1.out.after hb3).set 0 rfl 13 (.slice ao (n + m) c3); simp only [List.set_cons_zero, eth_set] at this; exact this,
     hrow3.far (fun x hx => by have h1 := hfar3 x hx; have h2 := HL1.out; omega)⟩ ?_
  rintro w4 ⟨hM4, hR4⟩
  obtain ⟨L, hL⟩ : ∃ L, L = l ++ List.replicate m 0 := ⟨_, rfl⟩
  obtain ⟨M, hM⟩ : ∃ M, M = n + m := ⟨_, rfl⟩
  have HLM : Hid (L.length = M) := by show _ = _; rw [hL, hM]; simp [HN.out]
  rw [← hL] at hR4
  rw [← hM] at hM4 hc3 ⊢
  have HM4 : Hid (Mem w w4 [(w.heap.size, .cells (ethA x0 x1 x2 x3 x4 x5 x6 x7 x8 x9 x10 x11 t (.slice ao M c3)) 28)]) := hM4
  have HR4 : Hid (Row w4 ao L) := hR4
  have HCN : Hid (ao = none → c3 = 0) := hcn3
  have kc4 : ∀ i, w4.cell? ⟨w.heap.size, i, none⟩ = (ethA x0 x1 x2 x3 x4 x5 x6 x7 x8 x9 x10 x11 t (.slice ao M c3))[i]? := hM4.cell 0 rfl
  clear hM4 hR4 hown3 hgrow3 hb3 hrow3 hcn3 hfar3 f13 g13 hbel2 hown2 HM1 k13 HL1 HM HR HC HN hL hM hni hm2 r0 r1
  by_cases hbig : 1586 < M
  · have hbi : (1586 : Int) < M := by omega
    go_wp2_with fail
    refine (bytes_big _ ao M c3 hbig x0 x1 x2 x3 x4 x5 x6 x7 x8 x9 x10 x11 t).mono ?_
    rintro e w5 ⟨rfl, hb5⟩
    have hM5 := HM4.out.after hb5
    have HM5 : Hid _ := hM5
    have kc5 : ∀ i, w5.cell? ⟨w.heap.size, i, none⟩ = (ethA x0 x1 x2 x3 x4 x5 x6 x7 x8 x9 x10 x11 t (.slice ao M c3))[i]? := hM5.cell 0 rfl
    clear hb5 hM5 HM4
    go_wp2_with fail
    refine (rbytes_big _ ao M c3 hbig x0 x1 x2 x3 x4 x5 x6 x7 x8 x9 x10 x11 t).mono ?_
    rintro e w6 ⟨rfl, hb6⟩
    have hM6 := HM5.out.after hb6
    have HM6 : Hid _ := hM6
    have kc6 : ∀ i, w6.cell? ⟨w.heap.size, i, none⟩ = (ethA x0 x1 x2 x3 x4 x5 x6 x7 x8 x9 x10 x11 t (.slice ao M c3))[i]? := hM6.cell 0 rfl
    clear hb6 hM6 HM5
    go_wp2_with fail
    refine (hbytes_yes (row_nil w6) (row_nil w6) 0 0 rfl rfl 0 0).mono ?_
    rintro e w7 ⟨rfl, rfl⟩
    go_wp2_with fail
    go_ret
    exact ⟨by simp, HM6.out.below⟩
  · have hbi : (M : Int) ≤ 1586 := by omega
    have hMM : M ≤ 1586 := by omega
    obtain ⟨T, hT⟩ : ∃ T, T = M + 14 := ⟨_, rfl⟩
    have HT : Hid (T = M + 14) := hT
    have hFl : (x0 :: x1 :: x2 :: x3 :: x4 :: x5 :: x6 :: x7 :: x8 :: x9 :: x10 :: x11 :: t / 256 :: t % 256 :: L).length = T := by simp only [List.length_cons, HLM.out]; omega
    have HFl : Hid _ := hFl
    clear hT hFl
    go_wp2_with fail
    refine (bytes_ok HR4.out M c3 HLM.out hMM x0 x1 x2 x3 x4 x5 x6 x7 x8 x9 x10 x11 t q0 q1 T HT.out (both_bytes HX.out HY.out)).mono ?_
    rintro e w5 ⟨g, rfl, hr5, hb5⟩
    have hM5 := HM4.out.after hb5
    have HM5 : Hid _ := hM5
    have HR5 : Hid (Row w5 ao L) := HR4.out.below hb5 (Nat.le_refl _)
    have HF5 : Hid _ := hr5
    have kc5 : ∀ i, w5.cell? ⟨w.heap.size, i, none⟩ = (ethA x0 x1 x2 x3 x4 x5 x6 x7 x8 x9 x10 x11 t (.slice ao M c3))[i]? := hM5.cell 0 rfl
    clear hb5 hM5 hr5 HM4 HR4
    go_wp2_with fail
    refine (rbytes_ok HR5.out M c3 HLM.out hMM HCN.out x0 x1 x2 x3 x4 x5 x6 x7 x8 x9 x10 x11 t q0 q1 HX.out HY.out).mono ?_
    rintro e w6 ⟨v6, rfl, hown6, hb6⟩
    obtain ⟨a6, c6, rfl, hrow6, -, -, -⟩ := own_read hown6 (by simp only [List.length_cons, HLM.out]; omega) HF5.out.bytes HF5.out.len
    have hM6 := HM5.out.after hb6
    have HM6 : Hid _ := hM6
    have HR6 : Hid (Row w6 ao L) := HR5.out.below hb6 (Nat.le_refl _)
    have HF6 : Hid _ := HF5.out.below hb6 (Nat.le_refl _)
    have HG6 : Hid _ := hrow6
    have kc6 : ∀ i, w6.cell? ⟨w.heap.size, i, none⟩ = (ethA x0 x1 x2 x3 x4 x5 x6 x7 x8 x9 x10 x11 t (.slice ao M c3))[i]? := hM6.cell 0 rfl
    clear hb6 hM6 hown6 hrow6 HM5 HR5 HF5
    go_wp2_with fail
    refine (hbytes_yes HF6.out HG6.out T (6 + 6 + 2 + M) HFl.out (by rw [HFl.out, HT.out]; omega) T c6).mono ?_
    rintro e w7 ⟨rfl, rfl⟩
    have hp := parse_ok g 0 T w6 x0 x1 x2 x3 x4 x5 x6 x7 x8 x9 x10 x11 (t / 256) (t % 256) L HF6.out T M HLM.out HT.out hMM (Nat.le_refl _)
    rw [show t / 256 * 256 + t % 256 = t by omega] at hp
    go_wp2_with fail
    refine hp.mono ?_
    rintro e w8 ⟨a8, c8, rfl, hr8, -, hb8⟩
    have hM8 := HM6.out.after hb8
    have HM8 : Hid _ := hM8
    have HR8 : Hid (Row w8 ao L) := HR6.out.below hb8 (Nat.le_refl _)
    have HQ8 : Hid (Row w8 a8 L) := hr8
    have kc8 : ∀ i, w8.cell? ⟨w.heap.size, i, none⟩ = (ethA x0 x1 x2 x3 x4 x5 x6 x7 x8 x9 x10 x11 t (.slice ao M c3))[i]? := hM8.cell 0 rfl
    have hlt8 : w.heap.size < w8.heap.size := hM8.lt (p := (w.heap.size, _)) (List.mem_cons_self ..)
    clear hb8 hM8 hr8 HM6 HR6 HF6 HG6 hp
    go_wp2_with fail
    refine (heth_yes (l := L) (HQ8.out.below ((Below.refl _ _).alloc (Nat.le_refl _) _) (Nat.le_refl _)) (HR8.out.below ((Below.refl _ _).alloc (Nat.le_refl _) _) (Nat.le_refl _)) M M HLM.out HLM.out c8 c3 x0 x1 x2 x3 x4 x5 x6 x7 x8 x9 x10 x11 t).mono ?_
    rintro e w9 ⟨rfl, hb9⟩
    go_wp2_with fail
    go_ret
    exact ⟨rfl, (HM8.out.below.alloc HM8.out.below.size _).trans (hb9.mono (by simp; omega))⟩
end Go.Proofs.Ytkkpjpelcnebeaa
