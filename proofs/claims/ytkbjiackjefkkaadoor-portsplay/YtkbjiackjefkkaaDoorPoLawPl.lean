/-
  P17.1: any script of taking, holding, freeing gives out just the document's points, and tells what is held.
-/
import Derived.Test.YtkbjiackjefkkaaDoorPoPl1
import Derived.Deep.MidRow
namespace Go.Proofs.YtkbjiackjefkkaaDoor
open Go.RowKit
open Sm
open Po
set_option linter.unusedVariables false
set_option linter.unusedSimpArgs false
set_option maxRecDepth 20000

namespace Po
section
variable {PS : List Mk → Nat → List (Nat × Obj) → Prop}
abbrev z9 : Array Value := #[.int .i64 0, .int .u8 0, .slice none 0 0, .int .u16 0, .int .u16 0, .int .u16 0, .int .u32 0, .int .u16 0, .int .i64 0]
theorem quiet_eq17 {P : Program} {f : FuncId} {args : Array Value} {w : World} {n : Nat} {v : Value} (h : Calls P f args (w.drewN n) fun e w' => e = .returned v ∧ w.drewN n = w') : Calls P f args (w.drewN n) fun e w'' => e = .returned v ∧ ∃ m, w'' = w.drewN m :=
  h.mono fun _ _ ⟨he, hm⟩ => ⟨he, n, hm.symm⟩
set_option maxHeartbeats 8000000 in
theorem plays17_law (W : World) (hc : PC W PS) (a : Option Addr) (n cap : Nat) (X : Nat → A17) (hX : ActsV W a n X) :
    Calls Tryd.prog 3 #[.slice a n cap] W fun e W' => e = .returned (.bool true) ∧ Below W.heap.size W W' := by
  have K1 := known17_any W hc
  have HC : Hid (PC W PS) := hc
  have HX : Hid (ActsV W a n X) := hX
  clear hc hX
  go_enter Tryd.func3, Tryd.ntmps3
  go_wp2_with fail
  refine K1.mono ?_
  rintro e W1 ⟨rfl, hb0⟩
  have C1 := light17_any (W := W1) (cap := cap) (HX.out.at_ hb0)
  have HB0 : Hid (Below W.heap.size W W1) := hb0
  clear K1 hb0
  go_wp2_with fail
  refine C1.mono ?_
  rintro e W2 ⟨b, rfl, rfl, hb⟩
  have HL : Hid (b = true → n ≤ 60 ∧ ∀ i, i < n → (X i).pool.length ≤ 10) := hb
  clear C1 hb
  cases b with
  | false =>
    clear HL
    go_wp2_with fail
    go_ret
    exact ⟨rfl, HB0.out⟩
  | true =>
    obtain ⟨hn, hpl⟩ := HL.out rfl
    have C2 := HC.out.new W1
    clear HL
    go_wp2_with fail
    refine C2.mono ?_
    rintro e W3 ⟨pp, B, rfl, h1, m1⟩
    have m2 : Mem W W3 B := by
      have := ((Mem.nil W).after HB0.out).join m1
      simpa using this
    obtain ⟨pm, hpm⟩ : ∃ g, W3.heap.size = g := ⟨_, rfl⟩
    have HT : Hid (Two PS W pp pm [] [] (W3.alloc (.cells #[.slice none 0 0] 30)) []) := by
      refine ⟨B, [(pm, .cells #[.slice none 0 0] 30 (0, 0))], h1, ⟨.slice none 0 0, [], SlB.nil _ _, rfl⟩, ?_⟩
      have := m2.push pm (.cells #[.slice none 0 0] 30) hpm.symm
      simpa using this
    clear C2 h1 m1 m2 HB0
    go_upto_region 6 with fail
    refine wp_letter (fun V => Two PS W pp pm [] [] V []) (by exact HT.out) ?_
    intro W4 hT4
    try simp only [hpm]
    have H0 : Hid (∃ xs : List Mk, xs.length ≤ 0 ∧ (∀ m ∈ xs, MOk m) ∧ Two PS W pp pm xs xs W4 []) := ⟨[], by simp, by simp, hT4⟩
    clear HT hpm hT4
    go_wp2_with fail
    go_loopw [5] (fun u5 w' => ∃ i : Nat, i ≤ n ∧ u5 = .int .i64 i ∧ Hid (∃ xs : List Mk, xs.length ≤ i ∧ (∀ m ∈ xs, MOk m) ∧ Two PS W pp pm xs xs w' [])) (fun u5 w' => n - (intOf u5).toNat)
    case atStart => exact ⟨0, Nat.zero_le _, rfl, H0.out⟩
    case round =>
      obtain ⟨i, hi, rfl, HR⟩ := hrel
      clear H0
      by_cases hlt : i < n
      · have hlt' : (i : Int) < n := by omega
        obtain ⟨xs, hxl, hxo, hT⟩ := HR.out
        have HOK : Hid (∀ m ∈ xs, MOk m) := hxo
        clear hxo
        obtain ⟨hA, mb, off, rfl, hcl⟩ := HX.out i hlt
        have hbw := hT.mem.below
        have hra : wr.rangeAt mb (off + i * 9) (ac (X i)) := fun j u hj => by
          have := hcl j u hj
          rw [hbw.cell (p := ⟨mb, off + i * 9 + j, none⟩) (cell_lt this)]
          exact this
        have hrow : Hid (∀ V, Below W.heap.size W V → Rw V 1 (X i).pv (ux (X i).pool)) := fun V hV => hA.row.below (fun x hx => by simp only [ux, List.mem_map] at hx; obtain ⟨y, -, rfl⟩ := hx; simp) hV (Nat.le_refl _)
        have hp10 := hpl i hlt
        obtain ⟨pa, pc, epv⟩ := hA.slice
        clear HR hcl
        generalize X i = x at *
        obtain ⟨what, pr, pool, pv, lo, hi', want, ip, port, kk⟩ := x
        simp only at epv hp10 hrow
        subst epv
        have hi9 : (Tryd.prog.info? 37).map (·.size) = some (ac ⟨what, pr, pool, .slice pa pool.length pc, lo, hi', want, ip, port, kk⟩).length := by kernel_rfl
        have hj9 : (Tryd.prog.info? 37).map (·.size) = some (ac ⟨what, pr, pool, .slice pa pool.length pc, lo, hi', want, ip, port, kk⟩).toArray.size := by kernel_rfl
        have hs9 : z9.size = (ac ⟨what, pr, pool, .slice pa pool.length pc, lo, hi', want, ip, port, kk⟩).toArray.size := rfl
        have ho : (ac ⟨what, pr, pool, .slice pa pool.length pc, lo, hi', want, ip, port, kk⟩).toArray.all (·.oneCell') = true := by simp [ac, Value.oneCell']
        obtain ⟨g6, hg6⟩ : ∃ g, wr.heap.size = g := ⟨_, rfl⟩
        have hk1 : (wr.alloc (.cells z9 37)).heap[g6]? = some (.cells z9 37 (0, 0)) := by rw [← hg6]; exact heap_alloc_new _ _
        have HT6 : Hid (Two PS W pp pm xs xs ((wr.alloc (.cells z9 37)).setRow g6 (ac ⟨what, pr, pool, .slice pa pool.length pc, lo, hi', want, ip, port, kk⟩).toArray) [(g6, .cells (ac ⟨what, pr, pool, .slice pa pool.length pc, lo, hi', want, ip, port, kk⟩).toArray 37 (0, 0))]) := (hT.push g6 _ hg6.symm).wrote
        clear hT hbw
        go_upto_region 10 with (first | (refine wpList_load_mid rfl 37 (.tmp 29) (by with_reducible rfl) mb (off + i * 9) (by simp [Act.eval]) (ac ⟨what, pr, pool, .slice pa pool.length pc, lo, hi', want, ip, port, kk⟩) _ hra Tryd.underlying37 rfl hi9 ?_) | (refine wpList_store_row rfl 37 (.tmp 6) (.tmp 30) (by with_reducible rfl) g6 (ac ⟨what, pr, pool, .slice pa pool.length pc, lo, hi', want, ip, port, kk⟩).toArray (by simp [Act.eval]; try exact hg6) (by first | rfl | simp [Act.eval]) 37 z9 hk1 hj9 hs9 ho ?_) | fail)
        refine wp_letter (fun V => Two PS W pp pm xs xs V [(g6, .cells #[.int .i64 what, .int .u8 pr, .slice pa pool.length pc, .int .u16 lo, .int .u16 hi', .int .u16 want, .int .u32 ip, .int .u16 port, .int .i64 kk] 37 (0, 0))]) (by exact HT6.out) ?_
        intro V6 hT6
        try simp only [hg6]
        have x6 : V6.cell? ⟨g6, 6, none⟩ = some (.int .u32 ip) := hT6.mem.cell 0 rfl 6
        have x7 : V6.cell? ⟨g6, 7, none⟩ = some (.int .u16 port) := hT6.mem.cell 0 rfl 7
        obtain ⟨g7, hg7⟩ : ∃ g, V6.heap.size = g := ⟨_, rfl⟩
        have HT7 : Hid (Two PS W pp pm xs xs (V6.alloc (.cells #[.int .u32 ip, .int .u16 port] 35)) [(g7, .cells #[.int .u32 ip, .int .u16 port] 35 (0, 0)), (g6, .cells #[.int .i64 what, .int .u8 pr, .slice pa pool.length pc, .int .u16 lo, .int .u16 hi', .int .u16 want, .int .u32 ip, .int .u16 port, .int .i64 kk] 37 (0, 0))]) := hT6.push g7 _ hg7.symm
        clear HT6 hk1 hra hi9 hj9 hs9 ho hg6 hT6
        go_upto_region 11 with fail
        refine wp_letter (fun V => Two PS W pp pm xs xs V [(g7, .cells #[.int .u32 ip, .int .u16 port] 35 (0, 0)), (g6, .cells #[.int .i64 what, .int .u8 pr, .slice pa pool.length pc, .int .u16 lo, .int .u16 hi', .int .u16 want, .int .u32 ip, .int .u16 port, .int .i64 kk] 37 (0, 0))]) (by exact HT7.out) ?_
        intro V7 hT7
        try simp only [hg7]
        clear HT7 hg7 x6 x7
        have HA : Hid (A17W W ⟨what, pr, pool, .slice pa pool.length pc, lo, hi', want, ip, port, kk⟩) := hA
        obtain ⟨hpr, hlo, hhi, hwt, hip, hpo, hkk, -, hfew⟩ := hA
        simp only at hpr hlo hhi hwt hip hpo hkk hfew
        have x0 : V7.cell? ⟨g6, 0, none⟩ = some (.int .i64 what) := hT7.mem.cell 1 rfl 0
        have x8 : V7.cell? ⟨g6, 8, none⟩ = some (.int .i64 kk) := hT7.mem.cell 1 rfl 8
        obtain ⟨v, cpm, hrw⟩ := hT7.row
        obtain ⟨av, cv, rfl, hlc, hcb, hmk⟩ := mark_at hrw
        have HT : Hid (Two PS W pp pm xs xs V7 [(g7, .cells #[.int .u32 ip, .int .u16 port] 35 (0, 0)), (g6, .cells #[.int .i64 what, .int .u8 pr, .slice pa pool.length pc, .int .u16 lo, .int .u16 hi', .int .u16 want, .int .u32 ip, .int .u16 port, .int .i64 kk] 37 (0, 0))]) := hT7
        clear hT7 hrw
        have r3 : Int.tmod kk 3 = Int.tmod kk 3 := rfl
        clear r3
        by_cases hz : xs.length = 0
        · have hz1 : ¬ ((0 : Int) < (xs.length : Int)) := by omega
          go_upto_if 44 with fail
          go_cut [8] from 44 (fun s8 wx => ∃ q ip2 po2 : Int, MOk (q, ip2, po2) ∧ Two PS W pp pm xs xs (wx) [(g7, .cells #[.int .u32 ip2, .int .u16 po2] 35 (0, 0)), (g6, .cells #[.int .i64 what, .int .u8 q, .slice pa pool.length pc, .int .u16 lo, .int .u16 hi', .int .u16 want, .int .u32 ip, .int .u16 port, .int .i64 kk] 37 (0, 0))])
          case first => as_aux_lemma =>
            have HQ : Hid (∃ q ip2 po2 : Int, MOk (q, ip2, po2) ∧ Two PS W pp pm xs xs (V7) [(g7, .cells #[.int .u32 ip2, .int .u16 po2] 35 (0, 0)), (g6, .cells #[.int .i64 what, .int .u8 q, .slice pa pool.length pc, .int .u16 lo, .int .u16 hi', .int .u16 want, .int .u32 ip, .int .u16 port, .int .i64 kk] 37 (0, 0))]) := ⟨pr, ip, port, ⟨hpr, hip, hpo⟩, HT.out⟩
            clear hmk
            go_wp2_with fail
            go_meet
            case rel => exact HQ.out
          case rest => as_aux_lemma =>
            obtain ⟨q, ip2, po2, hok2, hT9⟩ := hcut
            have HT9 : Hid (Two PS W pp pm xs xs (wc) [(g7, .cells #[.int .u32 ip2, .int .u16 po2] 35 (0, 0)), (g6, .cells #[.int .i64 what, .int .u8 q, .slice pa pool.length pc, .int .u16 lo, .int .u16 hi', .int .u16 want, .int .u32 ip, .int .u16 port, .int .i64 kk] 37 (0, 0))]) := hT9
            have x0' : wc.cell? ⟨g6, 0, none⟩ = some (.int .i64 what) := hT9.mem.cell 1 rfl 0
            clear hT9
            go_upto_block 2 with fail
            go_cut [9, 10, 11, 12] from 75 (fun s9 s10 s11 s12 wx => ∃ zs : List Mk, zs.length ≤ i + 1 ∧ (∀ m ∈ zs, MOk m) ∧ Two PS W pp pm zs zs (wx) [(g7, .cells #[.int .u32 ip2, .int .u16 po2] 35 (0, 0)), (g6, .cells #[.int .i64 what, .int .u8 q, .slice pa pool.length pc, .int .u16 lo, .int .u16 hi', .int .u16 want, .int .u32 ip, .int .u16 port, .int .i64 kk] 37 (0, 0))])
            case first => as_aux_lemma =>
              by_cases h0 : what = 0
              · have m0 : (what == 0) = true := by simpa using h0
                clear h0
                have hT9 := HT9.out
                have x1 : wc.cell? ⟨g6, 1, none⟩ = some (.int .u8 q) := hT9.mem.cell 1 rfl 1
                have x2 : wc.cell? ⟨g6, 2, none⟩ = some (.slice pa pool.length pc) := hT9.mem.cell 1 rfl 2
                have x3 : wc.cell? ⟨g6, 3, none⟩ = some (.int .u16 lo) := hT9.mem.cell 1 rfl 3
                have x4 : wc.cell? ⟨g6, 4, none⟩ = some (.int .u16 hi') := hT9.mem.cell 1 rfl 4
                have x5 : wc.cell? ⟨g6, 5, none⟩ = some (.int .u16 want) := hT9.mem.cell 1 rfl 5
                have C1 := hT9.ptake HC.out (by omega) (hrow.out wc hT9.mem.below) (by omega) hfew q lo hi' want hok2.1 hlo hhi hwt
                have C2 : Hid (∀ (V : World) (zs : List Mk) (L : List (Nat × Obj)), Two PS W pp pm zs xs V L → Calls Tryd.prog 12 #[.pointer (some ⟨pm, 0, none⟩), .int .u8 q, .slice pa pool.length pc, .int .u16 lo, .int .u16 hi', .int .u16 want] V fun e Y => e = .returned (tko (tk xs q (frm lo want) (upt hi' want) pool)) ∧ Two PS W pp pm zs (aft xs q (tk xs q (frm lo want) (upt hi' want) pool)) Y L) := fun V zs L hV => hV.rtake (by omega) (hrow.out V hV.mem.below) (by omega) q lo hi' want hlo hhi hwt
                have haf := aft_ok (want := want) (l := pool) HOK.out hok2.1 hfew hlo.1 hhi.2
                have HAF : Hid ((aft xs q (tk xs q (frm lo want) (upt hi' want) pool)).length ≤ i + 1 ∧ ∀ m ∈ aft xs q (tk xs q (frm lo want) (upt hi' want) pool), MOk m) := ⟨Nat.le_trans aft_len (by omega), haf⟩
                clear haf hT9
                generalize tk xs q (frm lo want) (upt hi' want) pool = R at *
                cases R with
                | none =>
                  simp only [tko] at C1 C2
                  go_wp2_with fail
                  refine C1.mono ?_
                  rintro e Y1 ⟨rfl, hY1⟩
                  clear C1
                  obtain ⟨g9, hg9⟩ : ∃ g, Y1.heap.size = g := ⟨_, rfl⟩
                  have HY1 : Hid (Two PS W pp pm (aft xs q (none)) xs (Y1.alloc (.cells #[.int .u32 0, .int .u16 0] 35)) ((g9, .cells #[.int .u32 0, .int .u16 0] 35 (0, 0)) :: [(g7, .cells #[.int .u32 ip2, .int .u16 po2] 35 (0, 0)), (g6, .cells #[.int .i64 what, .int .u8 q, .slice pa pool.length pc, .int .u16 lo, .int .u16 hi', .int .u16 want, .int .u32 ip, .int .u16 port, .int .i64 kk] 37 (0, 0))])) := hY1.push g9 _ hg9.symm
                  clear hY1
                  go_upto_region 23 with fail
                  refine wp_letter (fun V => Two PS W pp pm (aft xs q (none)) xs (V) ((g9, .cells #[.int .u32 0, .int .u16 0] 35 (0, 0)) :: [(g7, .cells #[.int .u32 ip2, .int .u16 po2] 35 (0, 0)), (g6, .cells #[.int .i64 what, .int .u8 q, .slice pa pool.length pc, .int .u16 lo, .int .u16 hi', .int .u16 want, .int .u32 ip, .int .u16 port, .int .i64 kk] 37 (0, 0))])) (by exact HY1.out) ?_
                  intro Y2 hY2
                  try simp only [hg9]
                  clear HY1 hg9
                  have e1 : Y2.cell? ⟨g6, 1, none⟩ = some (.int .u8 q) := hY2.mem.cell 2 rfl 1
                  have e2 : Y2.cell? ⟨g6, 2, none⟩ = some (.slice pa pool.length pc) := hY2.mem.cell 2 rfl 2
                  have e3 : Y2.cell? ⟨g6, 3, none⟩ = some (.int .u16 lo) := hY2.mem.cell 2 rfl 3
                  have e4 : Y2.cell? ⟨g6, 4, none⟩ = some (.int .u16 hi') := hY2.mem.cell 2 rfl 4
                  have e5 : Y2.cell? ⟨g6, 5, none⟩ = some (.int .u16 want) := hY2.mem.cell 2 rfl 5
                  have D2 := C2.out Y2 _ _ hY2
                  clear C2 x1 x2 x3 x4 x5
                  go_wp2_with fail
                  refine D2.mono ?_
                  rintro e Y3 ⟨rfl, hY3⟩
                  clear D2 hY2
                  obtain ⟨g10, hg10⟩ : ∃ g, Y3.heap.size = g := ⟨_, rfl⟩
                  have HY3 : Hid (Two PS W pp pm (aft xs q (none)) (aft xs q (none)) (Y3.alloc (.cells #[.int .u32 0, .int .u16 0] 35)) ((g10, .cells #[.int .u32 0, .int .u16 0] 35 (0, 0)) :: (g9, .cells #[.int .u32 0, .int .u16 0] 35 (0, 0)) :: [(g7, .cells #[.int .u32 ip2, .int .u16 po2] 35 (0, 0)), (g6, .cells #[.int .i64 what, .int .u8 q, .slice pa pool.length pc, .int .u16 lo, .int .u16 hi', .int .u16 want, .int .u32 ip, .int .u16 port, .int .i64 kk] 37 (0, 0))])) := hY3.push g10 _ hg10.symm
                  clear hY3
                  go_upto_region 24 with fail
                  refine wp_letter (fun V => Two PS W pp pm (aft xs q (none)) (aft xs q (none)) V ((g10, .cells #[.int .u32 0, .int .u16 0] 35 (0, 0)) :: (g9, .cells #[.int .u32 0, .int .u16 0] 35 (0, 0)) :: [(g7, .cells #[.int .u32 ip2, .int .u16 po2] 35 (0, 0)), (g6, .cells #[.int .i64 what, .int .u8 q, .slice pa pool.length pc, .int .u16 lo, .int .u16 hi', .int .u16 want, .int .u32 ip, .int .u16 port, .int .i64 kk] 37 (0, 0))])) (by exact HY3.out) ?_
                  intro Y4 hY4
                  try simp only [hg10]
                  clear HY3 hg10 e1 e2 e3 e4 e5
                  have a0 : Y4.cell? ⟨g10, 0, none⟩ = some (.int .u32 0) := hY4.mem.cell 0 rfl 0
                  have a1 : Y4.cell? ⟨g10, 1, none⟩ = some (.int .u16 0) := hY4.mem.cell 0 rfl 1
                  have b0 : Y4.cell? ⟨g9, 0, none⟩ = some (.int .u32 0) := hY4.mem.cell 1 rfl 0
                  have b1 : Y4.cell? ⟨g9, 1, none⟩ = some (.int .u16 0) := hY4.mem.cell 1 rfl 1
                  have p1 := pt_eq 0 0 0 0
                  simp only [BEq.rfl, Bool.and_self] at p1
                  have HZ : Hid (∃ zs : List Mk, zs.length ≤ i + 1 ∧ (∀ m ∈ zs, MOk m) ∧ Two PS W pp pm zs zs (Y4) [(g7, .cells #[.int .u32 ip2, .int .u16 po2] 35 (0, 0)), (g6, .cells #[.int .i64 what, .int .u8 q, .slice pa pool.length pc, .int .u16 lo, .int .u16 hi', .int .u16 want, .int .u32 ip, .int .u16 port, .int .i64 kk] 37 (0, 0))]) := ⟨_, HAF.out.1, HAF.out.2, hY4.sub.sub⟩
                  clear hY4 HAF
                  go_wp2_with fail
                  go_meet
                  case rel => exact HZ.out
                | some x4 =>
                  obtain ⟨ip4, k4⟩ := x4
                  simp only [tko] at C1 C2
                  go_wp2_with fail
                  refine C1.mono ?_
                  rintro e Y1 ⟨rfl, hY1⟩
                  clear C1
                  obtain ⟨g9, hg9⟩ : ∃ g, Y1.heap.size = g := ⟨_, rfl⟩
                  have HY1 : Hid (Two PS W pp pm (aft xs q (some (ip4, k4))) xs (Y1.alloc (.cells #[.int .u32 ip4, .int .u16 k4] 35)) ((g9, .cells #[.int .u32 ip4, .int .u16 k4] 35 (0, 0)) :: [(g7, .cells #[.int .u32 ip2, .int .u16 po2] 35 (0, 0)), (g6, .cells #[.int .i64 what, .int .u8 q, .slice pa pool.length pc, .int .u16 lo, .int .u16 hi', .int .u16 want, .int .u32 ip, .int .u16 port, .int .i64 kk] 37 (0, 0))])) := hY1.push g9 _ hg9.symm
                  clear hY1
                  go_upto_region 23 with fail
                  refine wp_letter (fun V => Two PS W pp pm (aft xs q (some (ip4, k4))) xs (V) ((g9, .cells #[.int .u32 ip4, .int .u16 k4] 35 (0, 0)) :: [(g7, .cells #[.int .u32 ip2, .int .u16 po2] 35 (0, 0)), (g6, .cells #[.int .i64 what, .int .u8 q, .slice pa pool.length pc, .int .u16 lo, .int .u16 hi', .int .u16 want, .int .u32 ip, .int .u16 port, .int .i64 kk] 37 (0, 0))])) (by exact HY1.out) ?_
                  intro Y2 hY2
                  try simp only [hg9]
                  clear HY1 hg9
                  have e1 : Y2.cell? ⟨g6, 1, none⟩ = some (.int .u8 q) := hY2.mem.cell 2 rfl 1
                  have e2 : Y2.cell? ⟨g6, 2, none⟩ = some (.slice pa pool.length pc) := hY2.mem.cell 2 rfl 2
                  have e3 : Y2.cell? ⟨g6, 3, none⟩ = some (.int .u16 lo) := hY2.mem.cell 2 rfl 3
                  have e4 : Y2.cell? ⟨g6, 4, none⟩ = some (.int .u16 hi') := hY2.mem.cell 2 rfl 4
                  have e5 : Y2.cell? ⟨g6, 5, none⟩ = some (.int .u16 want) := hY2.mem.cell 2 rfl 5
                  have D2 := C2.out Y2 _ _ hY2
                  clear C2 x1 x2 x3 x4 x5
                  go_wp2_with fail
                  refine D2.mono ?_
                  rintro e Y3 ⟨rfl, hY3⟩
                  clear D2 hY2
                  obtain ⟨g10, hg10⟩ : ∃ g, Y3.heap.size = g := ⟨_, rfl⟩
                  have HY3 : Hid (Two PS W pp pm (aft xs q (some (ip4, k4))) (aft xs q (some (ip4, k4))) (Y3.alloc (.cells #[.int .u32 ip4, .int .u16 k4] 35)) ((g10, .cells #[.int .u32 ip4, .int .u16 k4] 35 (0, 0)) :: (g9, .cells #[.int .u32 ip4, .int .u16 k4] 35 (0, 0)) :: [(g7, .cells #[.int .u32 ip2, .int .u16 po2] 35 (0, 0)), (g6, .cells #[.int .i64 what, .int .u8 q, .slice pa pool.length pc, .int .u16 lo, .int .u16 hi', .int .u16 want, .int .u32 ip, .int .u16 port, .int .i64 kk] 37 (0, 0))])) := hY3.push g10 _ hg10.symm
                  clear hY3
                  go_upto_region 24 with fail
                  refine wp_letter (fun V => Two PS W pp pm (aft xs q (some (ip4, k4))) (aft xs q (some (ip4, k4))) V ((g10, .cells #[.int .u32 ip4, .int .u16 k4] 35 (0, 0)) :: (g9, .cells #[.int .u32 ip4, .int .u16 k4] 35 (0, 0)) :: [(g7, .cells #[.int .u32 ip2, .int .u16 po2] 35 (0, 0)), (g6, .cells #[.int .i64 what, .int .u8 q, .slice pa pool.length pc, .int .u16 lo, .int .u16 hi', .int .u16 want, .int .u32 ip, .int .u16 port, .int .i64 kk] 37 (0, 0))])) (by exact HY3.out) ?_
                  intro Y4 hY4
                  try simp only [hg10]
                  clear HY3 hg10 e1 e2 e3 e4 e5
                  have a0 : Y4.cell? ⟨g10, 0, none⟩ = some (.int .u32 ip4) := hY4.mem.cell 0 rfl 0
                  have a1 : Y4.cell? ⟨g10, 1, none⟩ = some (.int .u16 k4) := hY4.mem.cell 0 rfl 1
                  have b0 : Y4.cell? ⟨g9, 0, none⟩ = some (.int .u32 ip4) := hY4.mem.cell 1 rfl 0
                  have b1 : Y4.cell? ⟨g9, 1, none⟩ = some (.int .u16 k4) := hY4.mem.cell 1 rfl 1
                  have p1 := pt_eq ip4 k4 ip4 k4
                  simp only [BEq.rfl, Bool.and_self] at p1
                  have HZ : Hid (∃ zs : List Mk, zs.length ≤ i + 1 ∧ (∀ m ∈ zs, MOk m) ∧ Two PS W pp pm zs zs (Y4) [(g7, .cells #[.int .u32 ip2, .int .u16 po2] 35 (0, 0)), (g6, .cells #[.int .i64 what, .int .u8 q, .slice pa pool.length pc, .int .u16 lo, .int .u16 hi', .int .u16 want, .int .u32 ip, .int .u16 port, .int .i64 kk] 37 (0, 0))]) := ⟨_, HAF.out.1, HAF.out.2, hY4.sub.sub⟩
                  clear hY4 HAF
                  go_wp2_with fail
                  go_meet
                  case rel => exact HZ.out
              · have m0 : (what == 0) = false := by simpa using h0
                by_cases h1 : what = 1
                · have m1 : (what == 1) = true := by simpa using h1
                  clear h0 h1
                  have hT9 := HT9.out
                  have x1 : wc.cell? ⟨g6, 1, none⟩ = some (.int .u8 q) := hT9.mem.cell 1 rfl 1
                  have x2 : wc.cell? ⟨g6, 2, none⟩ = some (.slice pa pool.length pc) := hT9.mem.cell 1 rfl 2
                  have x3 : wc.cell? ⟨g6, 3, none⟩ = some (.int .u16 lo) := hT9.mem.cell 1 rfl 3
                  have x4 : wc.cell? ⟨g6, 4, none⟩ = some (.int .u16 hi') := hT9.mem.cell 1 rfl 4
                  have x5 : wc.cell? ⟨g6, 5, none⟩ = some (.int .u16 want) := hT9.mem.cell 1 rfl 5
                  have C1 := hT9.ptake HC.out (by omega) (hrow.out wc hT9.mem.below) (by omega) hfew q lo hi' want hok2.1 hlo hhi hwt
                  have C2 : Hid (∀ (V : World) (zs : List Mk) (L : List (Nat × Obj)), Two PS W pp pm zs xs V L → Calls Tryd.prog 12 #[.pointer (some ⟨pm, 0, none⟩), .int .u8 q, .slice pa pool.length pc, .int .u16 lo, .int .u16 hi', .int .u16 want] V fun e Y => e = .returned (tko (tk xs q (frm lo want) (upt hi' want) pool)) ∧ Two PS W pp pm zs (aft xs q (tk xs q (frm lo want) (upt hi' want) pool)) Y L) := fun V zs L hV => hV.rtake (by omega) (hrow.out V hV.mem.below) (by omega) q lo hi' want hlo hhi hwt
                  have haf := aft_ok (want := want) (l := pool) HOK.out hok2.1 hfew hlo.1 hhi.2
                  have HAF : Hid ((aft xs q (tk xs q (frm lo want) (upt hi' want) pool)).length ≤ i + 1 ∧ ∀ m ∈ aft xs q (tk xs q (frm lo want) (upt hi' want) pool), MOk m) := ⟨Nat.le_trans aft_len (by omega), haf⟩
                  clear haf hT9
                  generalize tk xs q (frm lo want) (upt hi' want) pool = R at *
                  cases R with
                  | none =>
                    simp only [tko] at C1 C2
                    go_wp2_with fail
                    refine C1.mono ?_
                    rintro e Y1 ⟨rfl, hY1⟩
                    clear C1
                    obtain ⟨g9, hg9⟩ : ∃ g, Y1.heap.size = g := ⟨_, rfl⟩
                    have HY1 : Hid (Two PS W pp pm (aft xs q (none)) xs (Y1.alloc (.cells #[.int .u32 0, .int .u16 0] 35)) ((g9, .cells #[.int .u32 0, .int .u16 0] 35 (0, 0)) :: [(g7, .cells #[.int .u32 ip2, .int .u16 po2] 35 (0, 0)), (g6, .cells #[.int .i64 what, .int .u8 q, .slice pa pool.length pc, .int .u16 lo, .int .u16 hi', .int .u16 want, .int .u32 ip, .int .u16 port, .int .i64 kk] 37 (0, 0))])) := hY1.push g9 _ hg9.symm
                    clear hY1
                    go_upto_region 23 with fail
                    refine wp_letter (fun V => Two PS W pp pm (aft xs q (none)) xs (V) ((g9, .cells #[.int .u32 0, .int .u16 0] 35 (0, 0)) :: [(g7, .cells #[.int .u32 ip2, .int .u16 po2] 35 (0, 0)), (g6, .cells #[.int .i64 what, .int .u8 q, .slice pa pool.length pc, .int .u16 lo, .int .u16 hi', .int .u16 want, .int .u32 ip, .int .u16 port, .int .i64 kk] 37 (0, 0))])) (by exact HY1.out) ?_
                    intro Y2 hY2
                    try simp only [hg9]
                    clear HY1 hg9
                    have e1 : Y2.cell? ⟨g6, 1, none⟩ = some (.int .u8 q) := hY2.mem.cell 2 rfl 1
                    have e2 : Y2.cell? ⟨g6, 2, none⟩ = some (.slice pa pool.length pc) := hY2.mem.cell 2 rfl 2
                    have e3 : Y2.cell? ⟨g6, 3, none⟩ = some (.int .u16 lo) := hY2.mem.cell 2 rfl 3
                    have e4 : Y2.cell? ⟨g6, 4, none⟩ = some (.int .u16 hi') := hY2.mem.cell 2 rfl 4
                    have e5 : Y2.cell? ⟨g6, 5, none⟩ = some (.int .u16 want) := hY2.mem.cell 2 rfl 5
                    have D2 := C2.out Y2 _ _ hY2
                    clear C2 x1 x2 x3 x4 x5
                    go_wp2_with fail
                    refine D2.mono ?_
                    rintro e Y3 ⟨rfl, hY3⟩
                    clear D2 hY2
                    obtain ⟨g10, hg10⟩ : ∃ g, Y3.heap.size = g := ⟨_, rfl⟩
                    have HY3 : Hid (Two PS W pp pm (aft xs q (none)) (aft xs q (none)) (Y3.alloc (.cells #[.int .u32 0, .int .u16 0] 35)) ((g10, .cells #[.int .u32 0, .int .u16 0] 35 (0, 0)) :: (g9, .cells #[.int .u32 0, .int .u16 0] 35 (0, 0)) :: [(g7, .cells #[.int .u32 ip2, .int .u16 po2] 35 (0, 0)), (g6, .cells #[.int .i64 what, .int .u8 q, .slice pa pool.length pc, .int .u16 lo, .int .u16 hi', .int .u16 want, .int .u32 ip, .int .u16 port, .int .i64 kk] 37 (0, 0))])) := hY3.push g10 _ hg10.symm
                    clear hY3
                    go_upto_region 24 with fail
                    refine wp_letter (fun V => Two PS W pp pm (aft xs q (none)) (aft xs q (none)) V ((g10, .cells #[.int .u32 0, .int .u16 0] 35 (0, 0)) :: (g9, .cells #[.int .u32 0, .int .u16 0] 35 (0, 0)) :: [(g7, .cells #[.int .u32 ip2, .int .u16 po2] 35 (0, 0)), (g6, .cells #[.int .i64 what, .int .u8 q, .slice pa pool.length pc, .int .u16 lo, .int .u16 hi', .int .u16 want, .int .u32 ip, .int .u16 port, .int .i64 kk] 37 (0, 0))])) (by exact HY3.out) ?_
                    intro Y4 hY4
                    try simp only [hg10]
                    clear HY3 hg10 e1 e2 e3 e4 e5
                    have a0 : Y4.cell? ⟨g10, 0, none⟩ = some (.int .u32 0) := hY4.mem.cell 0 rfl 0
                    have a1 : Y4.cell? ⟨g10, 1, none⟩ = some (.int .u16 0) := hY4.mem.cell 0 rfl 1
                    have b0 : Y4.cell? ⟨g9, 0, none⟩ = some (.int .u32 0) := hY4.mem.cell 1 rfl 0
                    have b1 : Y4.cell? ⟨g9, 1, none⟩ = some (.int .u16 0) := hY4.mem.cell 1 rfl 1
                    have p1 := pt_eq 0 0 0 0
                    simp only [BEq.rfl, Bool.and_self] at p1
                    have HZ : Hid (∃ zs : List Mk, zs.length ≤ i + 1 ∧ (∀ m ∈ zs, MOk m) ∧ Two PS W pp pm zs zs (Y4) [(g7, .cells #[.int .u32 ip2, .int .u16 po2] 35 (0, 0)), (g6, .cells #[.int .i64 what, .int .u8 q, .slice pa pool.length pc, .int .u16 lo, .int .u16 hi', .int .u16 want, .int .u32 ip, .int .u16 port, .int .i64 kk] 37 (0, 0))]) := ⟨_, HAF.out.1, HAF.out.2, hY4.sub.sub⟩
                    clear hY4 HAF
                    go_wp2_with fail
                    go_meet
                    case rel => exact HZ.out
                  | some x4 =>
                    obtain ⟨ip4, k4⟩ := x4
                    simp only [tko] at C1 C2
                    go_wp2_with fail
                    refine C1.mono ?_
                    rintro e Y1 ⟨rfl, hY1⟩
                    clear C1
                    obtain ⟨g9, hg9⟩ : ∃ g, Y1.heap.size = g := ⟨_, rfl⟩
                    have HY1 : Hid (Two PS W pp pm (aft xs q (some (ip4, k4))) xs (Y1.alloc (.cells #[.int .u32 ip4, .int .u16 k4] 35)) ((g9, .cells #[.int .u32 ip4, .int .u16 k4] 35 (0, 0)) :: [(g7, .cells #[.int .u32 ip2, .int .u16 po2] 35 (0, 0)), (g6, .cells #[.int .i64 what, .int .u8 q, .slice pa pool.length pc, .int .u16 lo, .int .u16 hi', .int .u16 want, .int .u32 ip, .int .u16 port, .int .i64 kk] 37 (0, 0))])) := hY1.push g9 _ hg9.symm
                    clear hY1
                    go_upto_region 23 with fail
                    refine wp_letter (fun V => Two PS W pp pm (aft xs q (some (ip4, k4))) xs (V) ((g9, .cells #[.int .u32 ip4, .int .u16 k4] 35 (0, 0)) :: [(g7, .cells #[.int .u32 ip2, .int .u16 po2] 35 (0, 0)), (g6, .cells #[.int .i64 what, .int .u8 q, .slice pa pool.length pc, .int .u16 lo, .int .u16 hi', .int .u16 want, .int .u32 ip, .int .u16 port, .int .i64 kk] 37 (0, 0))])) (by exact HY1.out) ?_
                    intro Y2 hY2
                    try simp only [hg9]
                    clear HY1 hg9
                    have e1 : Y2.cell? ⟨g6, 1, none⟩ = some (.int .u8 q) := hY2.mem.cell 2 rfl 1
                    have e2 : Y2.cell? ⟨g6, 2, none⟩ = some (.slice pa pool.length pc) := hY2.mem.cell 2 rfl 2
                    have e3 : Y2.cell? ⟨g6, 3, none⟩ = some (.int .u16 lo) := hY2.mem.cell 2 rfl 3
                    have e4 : Y2.cell? ⟨g6, 4, none⟩ = some (.int .u16 hi') := hY2.mem.cell 2 rfl 4
                    have e5 : Y2.cell? ⟨g6, 5, none⟩ = some (.int .u16 want) := hY2.mem.cell 2 rfl 5
                    have D2 := C2.out Y2 _ _ hY2
                    clear C2 x1 x2 x3 x4 x5
                    go_wp2_with fail
                    refine D2.mono ?_
                    rintro e Y3 ⟨rfl, hY3⟩
                    clear D2 hY2
                    obtain ⟨g10, hg10⟩ : ∃ g, Y3.heap.size = g := ⟨_, rfl⟩
                    have HY3 : Hid (Two PS W pp pm (aft xs q (some (ip4, k4))) (aft xs q (some (ip4, k4))) (Y3.alloc (.cells #[.int .u32 ip4, .int .u16 k4] 35)) ((g10, .cells #[.int .u32 ip4, .int .u16 k4] 35 (0, 0)) :: (g9, .cells #[.int .u32 ip4, .int .u16 k4] 35 (0, 0)) :: [(g7, .cells #[.int .u32 ip2, .int .u16 po2] 35 (0, 0)), (g6, .cells #[.int .i64 what, .int .u8 q, .slice pa pool.length pc, .int .u16 lo, .int .u16 hi', .int .u16 want, .int .u32 ip, .int .u16 port, .int .i64 kk] 37 (0, 0))])) := hY3.push g10 _ hg10.symm
                    clear hY3
                    go_upto_region 24 with fail
                    refine wp_letter (fun V => Two PS W pp pm (aft xs q (some (ip4, k4))) (aft xs q (some (ip4, k4))) V ((g10, .cells #[.int .u32 ip4, .int .u16 k4] 35 (0, 0)) :: (g9, .cells #[.int .u32 ip4, .int .u16 k4] 35 (0, 0)) :: [(g7, .cells #[.int .u32 ip2, .int .u16 po2] 35 (0, 0)), (g6, .cells #[.int .i64 what, .int .u8 q, .slice pa pool.length pc, .int .u16 lo, .int .u16 hi', .int .u16 want, .int .u32 ip, .int .u16 port, .int .i64 kk] 37 (0, 0))])) (by exact HY3.out) ?_
                    intro Y4 hY4
                    try simp only [hg10]
                    clear HY3 hg10 e1 e2 e3 e4 e5
                    have a0 : Y4.cell? ⟨g10, 0, none⟩ = some (.int .u32 ip4) := hY4.mem.cell 0 rfl 0
                    have a1 : Y4.cell? ⟨g10, 1, none⟩ = some (.int .u16 k4) := hY4.mem.cell 0 rfl 1
                    have b0 : Y4.cell? ⟨g9, 0, none⟩ = some (.int .u32 ip4) := hY4.mem.cell 1 rfl 0
                    have b1 : Y4.cell? ⟨g9, 1, none⟩ = some (.int .u16 k4) := hY4.mem.cell 1 rfl 1
                    have p1 := pt_eq ip4 k4 ip4 k4
                    simp only [BEq.rfl, Bool.and_self] at p1
                    have HZ : Hid (∃ zs : List Mk, zs.length ≤ i + 1 ∧ (∀ m ∈ zs, MOk m) ∧ Two PS W pp pm zs zs (Y4) [(g7, .cells #[.int .u32 ip2, .int .u16 po2] 35 (0, 0)), (g6, .cells #[.int .i64 what, .int .u8 q, .slice pa pool.length pc, .int .u16 lo, .int .u16 hi', .int .u16 want, .int .u32 ip, .int .u16 port, .int .i64 kk] 37 (0, 0))]) := ⟨_, HAF.out.1, HAF.out.2, hY4.sub.sub⟩
                    clear hY4 HAF
                    go_wp2_with fail
                    go_meet
                    case rel => exact HZ.out
                · have m1 : (what == 1) = false := by simpa using h1
                  by_cases h2 : what = 2
                  · have m2 : (what == 2) = true := by simpa using h2
                    clear h0 h1 h2
                    have hT9 := HT9.out
                    have x1 : wc.cell? ⟨g6, 1, none⟩ = some (.int .u8 q) := hT9.mem.cell 1 rfl 1
                    have x2 : wc.cell? ⟨g6, 2, none⟩ = some (.slice pa pool.length pc) := hT9.mem.cell 1 rfl 2
                    have x3 : wc.cell? ⟨g6, 3, none⟩ = some (.int .u16 lo) := hT9.mem.cell 1 rfl 3
                    have x4 : wc.cell? ⟨g6, 4, none⟩ = some (.int .u16 hi') := hT9.mem.cell 1 rfl 4
                    have x5 : wc.cell? ⟨g6, 5, none⟩ = some (.int .u16 want) := hT9.mem.cell 1 rfl 5
                    have C1 := hT9.ptake HC.out (by omega) (hrow.out wc hT9.mem.below) (by omega) hfew q lo hi' want hok2.1 hlo hhi hwt
                    have C2 : Hid (∀ (V : World) (zs : List Mk) (L : List (Nat × Obj)), Two PS W pp pm zs xs V L → Calls Tryd.prog 12 #[.pointer (some ⟨pm, 0, none⟩), .int .u8 q, .slice pa pool.length pc, .int .u16 lo, .int .u16 hi', .int .u16 want] V fun e Y => e = .returned (tko (tk xs q (frm lo want) (upt hi' want) pool)) ∧ Two PS W pp pm zs (aft xs q (tk xs q (frm lo want) (upt hi' want) pool)) Y L) := fun V zs L hV => hV.rtake (by omega) (hrow.out V hV.mem.below) (by omega) q lo hi' want hlo hhi hwt
                    have haf := aft_ok (want := want) (l := pool) HOK.out hok2.1 hfew hlo.1 hhi.2
                    have HAF : Hid ((aft xs q (tk xs q (frm lo want) (upt hi' want) pool)).length ≤ i + 1 ∧ ∀ m ∈ aft xs q (tk xs q (frm lo want) (upt hi' want) pool), MOk m) := ⟨Nat.le_trans aft_len (by omega), haf⟩
                    clear haf hT9
                    generalize tk xs q (frm lo want) (upt hi' want) pool = R at *
                    cases R with
                    | none =>
                      simp only [tko] at C1 C2
                      go_wp2_with fail
                      refine C1.mono ?_
                      rintro e Y1 ⟨rfl, hY1⟩
                      clear C1
                      obtain ⟨g9, hg9⟩ : ∃ g, Y1.heap.size = g := ⟨_, rfl⟩
                      have HY1 : Hid (Two PS W pp pm (aft xs q (none)) xs (Y1.alloc (.cells #[.int .u32 0, .int .u16 0] 35)) ((g9, .cells #[.int .u32 0, .int .u16 0] 35 (0, 0)) :: [(g7, .cells #[.int .u32 ip2, .int .u16 po2] 35 (0, 0)), (g6, .cells #[.int .i64 what, .int .u8 q, .slice pa pool.length pc, .int .u16 lo, .int .u16 hi', .int .u16 want, .int .u32 ip, .int .u16 port, .int .i64 kk] 37 (0, 0))])) := hY1.push g9 _ hg9.symm
                      clear hY1
                      go_upto_region 23 with fail
                      refine wp_letter (fun V => Two PS W pp pm (aft xs q (none)) xs (V) ((g9, .cells #[.int .u32 0, .int .u16 0] 35 (0, 0)) :: [(g7, .cells #[.int .u32 ip2, .int .u16 po2] 35 (0, 0)), (g6, .cells #[.int .i64 what, .int .u8 q, .slice pa pool.length pc, .int .u16 lo, .int .u16 hi', .int .u16 want, .int .u32 ip, .int .u16 port, .int .i64 kk] 37 (0, 0))])) (by exact HY1.out) ?_
                      intro Y2 hY2
                      try simp only [hg9]
                      clear HY1 hg9
                      have e1 : Y2.cell? ⟨g6, 1, none⟩ = some (.int .u8 q) := hY2.mem.cell 2 rfl 1
                      have e2 : Y2.cell? ⟨g6, 2, none⟩ = some (.slice pa pool.length pc) := hY2.mem.cell 2 rfl 2
                      have e3 : Y2.cell? ⟨g6, 3, none⟩ = some (.int .u16 lo) := hY2.mem.cell 2 rfl 3
                      have e4 : Y2.cell? ⟨g6, 4, none⟩ = some (.int .u16 hi') := hY2.mem.cell 2 rfl 4
                      have e5 : Y2.cell? ⟨g6, 5, none⟩ = some (.int .u16 want) := hY2.mem.cell 2 rfl 5
                      have D2 := C2.out Y2 _ _ hY2
                      clear C2 x1 x2 x3 x4 x5
                      go_wp2_with fail
                      refine D2.mono ?_
                      rintro e Y3 ⟨rfl, hY3⟩
                      clear D2 hY2
                      obtain ⟨g10, hg10⟩ : ∃ g, Y3.heap.size = g := ⟨_, rfl⟩
                      have HY3 : Hid (Two PS W pp pm (aft xs q (none)) (aft xs q (none)) (Y3.alloc (.cells #[.int .u32 0, .int .u16 0] 35)) ((g10, .cells #[.int .u32 0, .int .u16 0] 35 (0, 0)) :: (g9, .cells #[.int .u32 0, .int .u16 0] 35 (0, 0)) :: [(g7, .cells #[.int .u32 ip2, .int .u16 po2] 35 (0, 0)), (g6, .cells #[.int .i64 what, .int .u8 q, .slice pa pool.length pc, .int .u16 lo, .int .u16 hi', .int .u16 want, .int .u32 ip, .int .u16 port, .int .i64 kk] 37 (0, 0))])) := hY3.push g10 _ hg10.symm
                      clear hY3
                      go_upto_region 24 with fail
                      refine wp_letter (fun V => Two PS W pp pm (aft xs q (none)) (aft xs q (none)) V ((g10, .cells #[.int .u32 0, .int .u16 0] 35 (0, 0)) :: (g9, .cells #[.int .u32 0, .int .u16 0] 35 (0, 0)) :: [(g7, .cells #[.int .u32 ip2, .int .u16 po2] 35 (0, 0)), (g6, .cells #[.int .i64 what, .int .u8 q, .slice pa pool.length pc, .int .u16 lo, .int .u16 hi', .int .u16 want, .int .u32 ip, .int .u16 port, .int .i64 kk] 37 (0, 0))])) (by exact HY3.out) ?_
                      intro Y4 hY4
                      try simp only [hg10]
                      clear HY3 hg10 e1 e2 e3 e4 e5
                      have a0 : Y4.cell? ⟨g10, 0, none⟩ = some (.int .u32 0) := hY4.mem.cell 0 rfl 0
                      have a1 : Y4.cell? ⟨g10, 1, none⟩ = some (.int .u16 0) := hY4.mem.cell 0 rfl 1
                      have b0 : Y4.cell? ⟨g9, 0, none⟩ = some (.int .u32 0) := hY4.mem.cell 1 rfl 0
                      have b1 : Y4.cell? ⟨g9, 1, none⟩ = some (.int .u16 0) := hY4.mem.cell 1 rfl 1
                      have p1 := pt_eq 0 0 0 0
                      simp only [BEq.rfl, Bool.and_self] at p1
                      have HZ : Hid (∃ zs : List Mk, zs.length ≤ i + 1 ∧ (∀ m ∈ zs, MOk m) ∧ Two PS W pp pm zs zs (Y4) [(g7, .cells #[.int .u32 ip2, .int .u16 po2] 35 (0, 0)), (g6, .cells #[.int .i64 what, .int .u8 q, .slice pa pool.length pc, .int .u16 lo, .int .u16 hi', .int .u16 want, .int .u32 ip, .int .u16 port, .int .i64 kk] 37 (0, 0))]) := ⟨_, HAF.out.1, HAF.out.2, hY4.sub.sub⟩
                      clear hY4 HAF
                      go_wp2_with fail
                      go_meet
                      case rel => exact HZ.out
                    | some x4 =>
                      obtain ⟨ip4, k4⟩ := x4
                      simp only [tko] at C1 C2
                      go_wp2_with fail
                      refine C1.mono ?_
                      rintro e Y1 ⟨rfl, hY1⟩
                      clear C1
                      obtain ⟨g9, hg9⟩ : ∃ g, Y1.heap.size = g := ⟨_, rfl⟩
                      have HY1 : Hid (Two PS W pp pm (aft xs q (some (ip4, k4))) xs (Y1.alloc (.cells #[.int .u32 ip4, .int .u16 k4] 35)) ((g9, .cells #[.int .u32 ip4, .int .u16 k4] 35 (0, 0)) :: [(g7, .cells #[.int .u32 ip2, .int .u16 po2] 35 (0, 0)), (g6, .cells #[.int .i64 what, .int .u8 q, .slice pa pool.length pc, .int .u16 lo, .int .u16 hi', .int .u16 want, .int .u32 ip, .int .u16 port, .int .i64 kk] 37 (0, 0))])) := hY1.push g9 _ hg9.symm
                      clear hY1
                      go_upto_region 23 with fail
                      refine wp_letter (fun V => Two PS W pp pm (aft xs q (some (ip4, k4))) xs (V) ((g9, .cells #[.int .u32 ip4, .int .u16 k4] 35 (0, 0)) :: [(g7, .cells #[.int .u32 ip2, .int .u16 po2] 35 (0, 0)), (g6, .cells #[.int .i64 what, .int .u8 q, .slice pa pool.length pc, .int .u16 lo, .int .u16 hi', .int .u16 want, .int .u32 ip, .int .u16 port, .int .i64 kk] 37 (0, 0))])) (by exact HY1.out) ?_
                      intro Y2 hY2
                      try simp only [hg9]
                      clear HY1 hg9
                      have e1 : Y2.cell? ⟨g6, 1, none⟩ = some (.int .u8 q) := hY2.mem.cell 2 rfl 1
                      have e2 : Y2.cell? ⟨g6, 2, none⟩ = some (.slice pa pool.length pc) := hY2.mem.cell 2 rfl 2
                      have e3 : Y2.cell? ⟨g6, 3, none⟩ = some (.int .u16 lo) := hY2.mem.cell 2 rfl 3
                      have e4 : Y2.cell? ⟨g6, 4, none⟩ = some (.int .u16 hi') := hY2.mem.cell 2 rfl 4
                      have e5 : Y2.cell? ⟨g6, 5, none⟩ = some (.int .u16 want) := hY2.mem.cell 2 rfl 5
                      have D2 := C2.out Y2 _ _ hY2
                      clear C2 x1 x2 x3 x4 x5
                      go_wp2_with fail
                      refine D2.mono ?_
                      rintro e Y3 ⟨rfl, hY3⟩
                      clear D2 hY2
                      obtain ⟨g10, hg10⟩ : ∃ g, Y3.heap.size = g := ⟨_, rfl⟩
                      have HY3 : Hid (Two PS W pp pm (aft xs q (some (ip4, k4))) (aft xs q (some (ip4, k4))) (Y3.alloc (.cells #[.int .u32 ip4, .int .u16 k4] 35)) ((g10, .cells #[.int .u32 ip4, .int .u16 k4] 35 (0, 0)) :: (g9, .cells #[.int .u32 ip4, .int .u16 k4] 35 (0, 0)) :: [(g7, .cells #[.int .u32 ip2, .int .u16 po2] 35 (0, 0)), (g6, .cells #[.int .i64 what, .int .u8 q, .slice pa pool.length pc, .int .u16 lo, .int .u16 hi', .int .u16 want, .int .u32 ip, .int .u16 port, .int .i64 kk] 37 (0, 0))])) := hY3.push g10 _ hg10.symm
                      clear hY3
                      go_upto_region 24 with fail
                      refine wp_letter (fun V => Two PS W pp pm (aft xs q (some (ip4, k4))) (aft xs q (some (ip4, k4))) V ((g10, .cells #[.int .u32 ip4, .int .u16 k4] 35 (0, 0)) :: (g9, .cells #[.int .u32 ip4, .int .u16 k4] 35 (0, 0)) :: [(g7, .cells #[.int .u32 ip2, .int .u16 po2] 35 (0, 0)), (g6, .cells #[.int .i64 what, .int .u8 q, .slice pa pool.length pc, .int .u16 lo, .int .u16 hi', .int .u16 want, .int .u32 ip, .int .u16 port, .int .i64 kk] 37 (0, 0))])) (by exact HY3.out) ?_
                      intro Y4 hY4
                      try simp only [hg10]
                      clear HY3 hg10 e1 e2 e3 e4 e5
                      have a0 : Y4.cell? ⟨g10, 0, none⟩ = some (.int .u32 ip4) := hY4.mem.cell 0 rfl 0
                      have a1 : Y4.cell? ⟨g10, 1, none⟩ = some (.int .u16 k4) := hY4.mem.cell 0 rfl 1
                      have b0 : Y4.cell? ⟨g9, 0, none⟩ = some (.int .u32 ip4) := hY4.mem.cell 1 rfl 0
                      have b1 : Y4.cell? ⟨g9, 1, none⟩ = some (.int .u16 k4) := hY4.mem.cell 1 rfl 1
                      have p1 := pt_eq ip4 k4 ip4 k4
                      simp only [BEq.rfl, Bool.and_self] at p1
                      have HZ : Hid (∃ zs : List Mk, zs.length ≤ i + 1 ∧ (∀ m ∈ zs, MOk m) ∧ Two PS W pp pm zs zs (Y4) [(g7, .cells #[.int .u32 ip2, .int .u16 po2] 35 (0, 0)), (g6, .cells #[.int .i64 what, .int .u8 q, .slice pa pool.length pc, .int .u16 lo, .int .u16 hi', .int .u16 want, .int .u32 ip, .int .u16 port, .int .i64 kk] 37 (0, 0))]) := ⟨_, HAF.out.1, HAF.out.2, hY4.sub.sub⟩
                      clear hY4 HAF
                      go_wp2_with fail
                      go_meet
                      case rel => exact HZ.out
                  · have m2 : (what == 2) = false := by simpa using h2
                    by_cases h3 : what = 3
                    · have m3 : (what == 3) = true := by simpa using h3
                      clear h0 h1 h2 h3
                      have HQ : Hid ((if (q, ip2, po2) ∈ xs then xs else xs ++ [(q, ip2, po2)]).length ≤ i + 1 ∧ ∀ m ∈ (if (q, ip2, po2) ∈ xs then xs else xs ++ [(q, ip2, po2)]), MOk m) := ⟨Nat.le_trans hold_len (by omega), hold_ok HOK.out hok2⟩
                      have P1 : Hid (∀ V, Two PS W pp pm xs xs (V) [(g7, .cells #[.int .u32 ip2, .int .u16 po2] 35 (0, 0)), (g6, .cells #[.int .i64 what, .int .u8 q, .slice pa pool.length pc, .int .u16 lo, .int .u16 hi', .int .u16 want, .int .u32 ip, .int .u16 port, .int .i64 kk] 37 (0, 0))] → Calls Tryd.prog 13 #[.pointer (some ⟨pp, 0, none⟩), .int .u8 q, .agg #[.int .u32 ip2, .int .u16 po2]] V fun e Y => e = .returned (.int .i64 (if (q, ip2, po2) ∈ xs then 121 else 0)) ∧ Two PS W pp pm (if (q, ip2, po2) ∈ xs then xs else xs ++ [(q, ip2, po2)]) xs (Y) [(g7, .cells #[.int .u32 ip2, .int .u16 po2] 35 (0, 0)), (g6, .cells #[.int .i64 what, .int .u8 q, .slice pa pool.length pc, .int .u16 lo, .int .u16 hi', .int .u16 want, .int .u32 ip, .int .u16 port, .int .i64 kk] 37 (0, 0))]) := fun V hV => hV.phold HC.out (by omega) q ip2 po2 hok2
                      have P2 : Hid (∀ V, Two PS W pp pm xs (if (q, ip2, po2) ∈ xs then xs else xs ++ [(q, ip2, po2)]) (V) [(g7, .cells #[.int .u32 ip2, .int .u16 po2] 35 (0, 0)), (g6, .cells #[.int .i64 what, .int .u8 q, .slice pa pool.length pc, .int .u16 lo, .int .u16 hi', .int .u16 want, .int .u32 ip, .int .u16 port, .int .i64 kk] 37 (0, 0))] → Calls Tryd.prog 13 #[.pointer (some ⟨pp, 0, none⟩), .int .u8 q, .agg #[.int .u32 ip2, .int .u16 po2]] V fun e Y => e = .returned (.int .i64 (if (q, ip2, po2) ∈ xs then 121 else 0)) ∧ Two PS W pp pm (if (q, ip2, po2) ∈ xs then xs else xs ++ [(q, ip2, po2)]) (if (q, ip2, po2) ∈ xs then xs else xs ++ [(q, ip2, po2)]) (Y) [(g7, .cells #[.int .u32 ip2, .int .u16 po2] 35 (0, 0)), (g6, .cells #[.int .i64 what, .int .u8 q, .slice pa pool.length pc, .int .u16 lo, .int .u16 hi', .int .u16 want, .int .u32 ip, .int .u16 port, .int .i64 kk] 37 (0, 0))]) := fun V hV => hV.phold HC.out (by omega) q ip2 po2 hok2
                      have R1 : Hid (∀ V, Two PS W pp pm xs xs (V) [(g7, .cells #[.int .u32 ip2, .int .u16 po2] 35 (0, 0)), (g6, .cells #[.int .i64 what, .int .u8 q, .slice pa pool.length pc, .int .u16 lo, .int .u16 hi', .int .u16 want, .int .u32 ip, .int .u16 port, .int .i64 kk] 37 (0, 0))] → Calls Tryd.prog 14 #[.pointer (some ⟨pm, 0, none⟩), .int .u8 q, .agg #[.int .u32 ip2, .int .u16 po2]] V fun e Y => e = .returned (.int .i64 (if (q, ip2, po2) ∈ xs then 121 else 0)) ∧ Two PS W pp pm xs (if (q, ip2, po2) ∈ xs then xs else xs ++ [(q, ip2, po2)]) (Y) [(g7, .cells #[.int .u32 ip2, .int .u16 po2] 35 (0, 0)), (g6, .cells #[.int .i64 what, .int .u8 q, .slice pa pool.length pc, .int .u16 lo, .int .u16 hi', .int .u16 want, .int .u32 ip, .int .u16 port, .int .i64 kk] 37 (0, 0))]) := fun V hV => hV.rhold (by omega) q ip2 po2
                      have R2 : Hid (∀ V, Two PS W pp pm (if (q, ip2, po2) ∈ xs then xs else xs ++ [(q, ip2, po2)]) xs (V) [(g7, .cells #[.int .u32 ip2, .int .u16 po2] 35 (0, 0)), (g6, .cells #[.int .i64 what, .int .u8 q, .slice pa pool.length pc, .int .u16 lo, .int .u16 hi', .int .u16 want, .int .u32 ip, .int .u16 port, .int .i64 kk] 37 (0, 0))] → Calls Tryd.prog 14 #[.pointer (some ⟨pm, 0, none⟩), .int .u8 q, .agg #[.int .u32 ip2, .int .u16 po2]] V fun e Y => e = .returned (.int .i64 (if (q, ip2, po2) ∈ xs then 121 else 0)) ∧ Two PS W pp pm (if (q, ip2, po2) ∈ xs then xs else xs ++ [(q, ip2, po2)]) (if (q, ip2, po2) ∈ xs then xs else xs ++ [(q, ip2, po2)]) (Y) [(g7, .cells #[.int .u32 ip2, .int .u16 po2] 35 (0, 0)), (g6, .cells #[.int .i64 what, .int .u8 q, .slice pa pool.length pc, .int .u16 lo, .int .u16 hi', .int .u16 want, .int .u32 ip, .int .u16 port, .int .i64 kk] 37 (0, 0))]) := fun V hV => hV.rhold (by omega) q ip2 po2
                      generalize (if (q, ip2, po2) ∈ xs then xs else xs ++ [(q, ip2, po2)]) = zs at *
                      obtain ⟨rv, hrv⟩ : ∃ rv : Int, (if (q, ip2, po2) ∈ xs then 121 else 0) = rv := ⟨_, rfl⟩
                      simp only [hrv] at P1 P2 R1 R2
                      have n0 : (rv != rv) = false := by simp
                      clear hrv
                      go_upto_region 27 with fail
                      refine wp_region_held_drew (S := fun V => V.cell? ⟨g6, 1, none⟩ = some (.int .u8 q) ∧ V.cell? ⟨g7, 0, none⟩ = some (.int .u32 ip2) ∧ V.cell? ⟨g7, 1, none⟩ = some (.int .u16 po2)) (by kernel_rfl) (⟨HT9.out.mem.cell 1 rfl 1, HT9.out.mem.cell 0 rfl 0, HT9.out.mem.cell 0 rfl 1⟩) (fun hHeld => ?_)
                      have hT0 := HT9.out.after ((Below.refl wc.heap.size wc).drew)
                      refine wpAnyH_take (i := 0) (v := ?_) rfl (by kernel_rfl) (by kernel_rfl) (by kernel_rfl) (fun _ _ _ h => h) (Or.inl ⟨by rfl, ?haqy0⟩) (by assumption) ?haqr0
                      case haqy0 =>
                        intro w hSw
                        (try dsimp only at hSw)
                        go_simp
                        all_goals with_reducible rfl
                      try simp only [List.getElem_toArray, List.getElem_cons_zero, List.getElem_cons_succ, Act.put, List.setIfInBounds_toArray, List.set_cons_zero, List.set_cons_succ]
                      refine wpAnyH_take (i := 1) (v := ?_) rfl (by kernel_rfl) (by kernel_rfl) (by kernel_rfl) (fun _ _ _ h => h) (Or.inl ⟨by rfl, ?haqy1⟩) (by assumption) ?haqr1
                      case haqy1 =>
                        intro w hSw
                        (try dsimp only at hSw)
                        go_simp
                        all_goals with_reducible rfl
                      try simp only [List.getElem_toArray, List.getElem_cons_zero, List.getElem_cons_succ, Act.put, List.setIfInBounds_toArray, List.set_cons_zero, List.set_cons_succ]
                      refine wpAnyH_take (i := 2) (v := ?_) rfl (by kernel_rfl) (by kernel_rfl) (by kernel_rfl) (fun _ _ _ h => h) (Or.inl ⟨by rfl, ?haqy2⟩) (by assumption) ?haqr2
                      case haqy2 =>
                        intro w hSw
                        (try dsimp only at hSw)
                        go_simp
                        all_goals with_reducible rfl
                      try simp only [List.getElem_toArray, List.getElem_cons_zero, List.getElem_cons_succ, Act.put, List.setIfInBounds_toArray, List.set_cons_zero, List.set_cons_succ]
                      refine wpAnyH_take (i := 3) (v := ?_) rfl (by kernel_rfl) (by kernel_rfl) (by kernel_rfl) (fun _ _ _ h => h) (Or.inl ⟨by rfl, ?haqy3⟩) (by assumption) ?haqr3
                      case haqy3 =>
                        intro w hSw
                        (try dsimp only at hSw)
                        go_simp
                        all_goals with_reducible rfl
                      try simp only [List.getElem_toArray, List.getElem_cons_zero, List.getElem_cons_succ, Act.put, List.setIfInBounds_toArray, List.set_cons_zero, List.set_cons_succ]
                      refine wpAnyH_take (i := 5) (v := ?_) rfl (by kernel_rfl) (by kernel_rfl) (by kernel_rfl) (fun _ _ _ h => h) (Or.inl ⟨by rfl, ?haqy5⟩) (by assumption) ?haqr5
                      case haqy5 =>
                        intro w hSw
                        (try dsimp only at hSw)
                        go_simp
                        all_goals with_reducible rfl
                      try simp only [List.getElem_toArray, List.getElem_cons_zero, List.getElem_cons_succ, Act.put, List.setIfInBounds_toArray, List.set_cons_zero, List.set_cons_succ]
                      refine wpAnyH_take (i := 6) (v := ?_) rfl (by kernel_rfl) (by kernel_rfl) (by kernel_rfl) (fun _ _ _ h => h) (Or.inl ⟨by rfl, ?haqy6⟩) (by assumption) ?haqr6
                      case haqy6 =>
                        intro w hSw
                        (try dsimp only at hSw)
                        go_simp
                        all_goals with_reducible rfl
                      try simp only [List.getElem_toArray, List.getElem_cons_zero, List.getElem_cons_succ, Act.put, List.setIfInBounds_toArray, List.set_cons_zero, List.set_cons_succ]
                      refine wpAnyH_take (i := 7) (v := ?_) rfl (by kernel_rfl) (by kernel_rfl) (by kernel_rfl) (fun _ _ _ h => h) (Or.inl ⟨by rfl, ?haqy7⟩) (by assumption) ?haqr7
                      case haqy7 =>
                        intro w hSw
                        (try dsimp only at hSw)
                        go_simp
                        all_goals with_reducible rfl
                      try simp only [List.getElem_toArray, List.getElem_cons_zero, List.getElem_cons_succ, Act.put, List.setIfInBounds_toArray, List.set_cons_zero, List.set_cons_succ]
                      refine wpAnyH_take (i := 8) (v := ?_) rfl (by kernel_rfl) (by kernel_rfl) (by kernel_rfl) (fun _ _ _ h => h) (Or.inl ⟨by rfl, ?haqy8⟩) (by assumption) ?haqr8
                      case haqy8 =>
                        intro w hSw
                        (try dsimp only at hSw)
                        go_simp
                        all_goals with_reducible rfl
                      try simp only [List.getElem_toArray, List.getElem_cons_zero, List.getElem_cons_succ, Act.put, List.setIfInBounds_toArray, List.set_cons_zero, List.set_cons_succ]
                      refine wpAnyH_ready (rs := [4]) (by kernel_rfl) (by simp) ?_
                      refine AllReadyH.cons rfl (fun KK hK => ?_) AllReadyH.nil
                      go_simp
                      with_reducible refine (P1.out _ hT0).mono ?_
                      rintro e Y1 ⟨rfl, hT1⟩
                      try go_wp2_with fail
                      refine hK.out _ _ (⟨hT1.mem.cell 1 rfl 1, hT1.mem.cell 0 rfl 0, hT1.mem.cell 0 rfl 1⟩) (fun hHeld => ?_)
                      clear hK KK
                      try simp only [List.getElem_toArray, List.getElem_cons_zero, List.getElem_cons_succ, Act.put, List.setIfInBounds_toArray, List.set_cons_zero, List.set_cons_succ]
                      refine wpAnyH_ready (rs := [9]) (by kernel_rfl) (by simp) ?_
                      refine AllReadyH.cons rfl (fun KK hK => ?_) AllReadyH.nil
                      go_simp
                      with_reducible refine (R2.out _ hT1).mono ?_
                      rintro e Y2 ⟨rfl, hT2⟩
                      try go_wp2_with fail
                      refine hK.out _ _ (⟨hT2.mem.cell 1 rfl 1, hT2.mem.cell 0 rfl 0, hT2.mem.cell 0 rfl 1⟩) (fun hHeld => ?_)
                      clear hK KK
                      try simp only [List.getElem_toArray, List.getElem_cons_zero, List.getElem_cons_succ, Act.put, List.setIfInBounds_toArray, List.set_cons_zero, List.set_cons_succ]
                      refine wpAnyH_ready (rs := [10]) (by kernel_rfl) (by simp) ?_
                      refine AllReadyH.cons rfl (fun KK hK => ?_) AllReadyH.nil
                      go_simp
                      refine hK.out _ _ (⟨hT2.mem.cell 1 rfl 1, hT2.mem.cell 0 rfl 0, hT2.mem.cell 0 rfl 1⟩) (fun hHeld => ?_)
                      clear hK KK
                      try simp only [List.getElem_toArray, List.getElem_cons_zero, List.getElem_cons_succ, Act.put, List.setIfInBounds_toArray, List.set_cons_zero, List.set_cons_succ]
                      refine wpAnyH_done (by kernel_rfl) ?_ _
                      have HZ : Hid (∃ zs : List Mk, zs.length ≤ i + 1 ∧ (∀ m ∈ zs, MOk m) ∧ Two PS W pp pm zs zs (Y2) [(g7, .cells #[.int .u32 ip2, .int .u16 po2] 35 (0, 0)), (g6, .cells #[.int .i64 what, .int .u8 q, .slice pa pool.length pc, .int .u16 lo, .int .u16 hi', .int .u16 want, .int .u32 ip, .int .u16 port, .int .i64 kk] 37 (0, 0))]) := ⟨zs, HQ.out.1, HQ.out.2, hT2⟩
                      clear hT0 hT1 hT2 P1 P2 R1 R2
                      go_wp2_with fail
                      go_meet
                      case rel => exact HZ.out
                    · have m3 : (what == 3) = false := by simpa using h3
                      clear h0 h1 h2 h3
                      have HQ : Hid ((xs.erase (q, ip2, po2)).length ≤ i + 1 ∧ ∀ m ∈ (xs.erase (q, ip2, po2)), MOk m) := ⟨Nat.le_trans List.length_erase_le (by omega), (fun m hm => HOK.out m (List.mem_of_mem_erase hm))⟩
                      have P1 : Hid (∀ V, Two PS W pp pm xs xs (V) [(g7, .cells #[.int .u32 ip2, .int .u16 po2] 35 (0, 0)), (g6, .cells #[.int .i64 what, .int .u8 q, .slice pa pool.length pc, .int .u16 lo, .int .u16 hi', .int .u16 want, .int .u32 ip, .int .u16 port, .int .i64 kk] 37 (0, 0))] → Calls Tryd.prog 15 #[.pointer (some ⟨pp, 0, none⟩), .int .u8 q, .agg #[.int .u32 ip2, .int .u16 po2]] V fun e Y => e = .returned (.int .i64 (if (q, ip2, po2) ∈ xs then 0 else 121)) ∧ Two PS W pp pm (xs.erase (q, ip2, po2)) xs (Y) [(g7, .cells #[.int .u32 ip2, .int .u16 po2] 35 (0, 0)), (g6, .cells #[.int .i64 what, .int .u8 q, .slice pa pool.length pc, .int .u16 lo, .int .u16 hi', .int .u16 want, .int .u32 ip, .int .u16 port, .int .i64 kk] 37 (0, 0))]) := fun V hV => hV.pfree HC.out (by omega) q ip2 po2 hok2
                      have P2 : Hid (∀ V, Two PS W pp pm xs (xs.erase (q, ip2, po2)) (V) [(g7, .cells #[.int .u32 ip2, .int .u16 po2] 35 (0, 0)), (g6, .cells #[.int .i64 what, .int .u8 q, .slice pa pool.length pc, .int .u16 lo, .int .u16 hi', .int .u16 want, .int .u32 ip, .int .u16 port, .int .i64 kk] 37 (0, 0))] → Calls Tryd.prog 15 #[.pointer (some ⟨pp, 0, none⟩), .int .u8 q, .agg #[.int .u32 ip2, .int .u16 po2]] V fun e Y => e = .returned (.int .i64 (if (q, ip2, po2) ∈ xs then 0 else 121)) ∧ Two PS W pp pm (xs.erase (q, ip2, po2)) (xs.erase (q, ip2, po2)) (Y) [(g7, .cells #[.int .u32 ip2, .int .u16 po2] 35 (0, 0)), (g6, .cells #[.int .i64 what, .int .u8 q, .slice pa pool.length pc, .int .u16 lo, .int .u16 hi', .int .u16 want, .int .u32 ip, .int .u16 port, .int .i64 kk] 37 (0, 0))]) := fun V hV => hV.pfree HC.out (by omega) q ip2 po2 hok2
                      have R1 : Hid (∀ V, Two PS W pp pm xs xs (V) [(g7, .cells #[.int .u32 ip2, .int .u16 po2] 35 (0, 0)), (g6, .cells #[.int .i64 what, .int .u8 q, .slice pa pool.length pc, .int .u16 lo, .int .u16 hi', .int .u16 want, .int .u32 ip, .int .u16 port, .int .i64 kk] 37 (0, 0))] → Calls Tryd.prog 16 #[.pointer (some ⟨pm, 0, none⟩), .int .u8 q, .agg #[.int .u32 ip2, .int .u16 po2]] V fun e Y => e = .returned (.int .i64 (if (q, ip2, po2) ∈ xs then 0 else 121)) ∧ Two PS W pp pm xs (xs.erase (q, ip2, po2)) (Y) [(g7, .cells #[.int .u32 ip2, .int .u16 po2] 35 (0, 0)), (g6, .cells #[.int .i64 what, .int .u8 q, .slice pa pool.length pc, .int .u16 lo, .int .u16 hi', .int .u16 want, .int .u32 ip, .int .u16 port, .int .i64 kk] 37 (0, 0))]) := fun V hV => hV.rfree (by omega) q ip2 po2
                      have R2 : Hid (∀ V, Two PS W pp pm (xs.erase (q, ip2, po2)) xs (V) [(g7, .cells #[.int .u32 ip2, .int .u16 po2] 35 (0, 0)), (g6, .cells #[.int .i64 what, .int .u8 q, .slice pa pool.length pc, .int .u16 lo, .int .u16 hi', .int .u16 want, .int .u32 ip, .int .u16 port, .int .i64 kk] 37 (0, 0))] → Calls Tryd.prog 16 #[.pointer (some ⟨pm, 0, none⟩), .int .u8 q, .agg #[.int .u32 ip2, .int .u16 po2]] V fun e Y => e = .returned (.int .i64 (if (q, ip2, po2) ∈ xs then 0 else 121)) ∧ Two PS W pp pm (xs.erase (q, ip2, po2)) (xs.erase (q, ip2, po2)) (Y) [(g7, .cells #[.int .u32 ip2, .int .u16 po2] 35 (0, 0)), (g6, .cells #[.int .i64 what, .int .u8 q, .slice pa pool.length pc, .int .u16 lo, .int .u16 hi', .int .u16 want, .int .u32 ip, .int .u16 port, .int .i64 kk] 37 (0, 0))]) := fun V hV => hV.rfree (by omega) q ip2 po2
                      generalize (xs.erase (q, ip2, po2)) = zs at *
                      obtain ⟨rv, hrv⟩ : ∃ rv : Int, (if (q, ip2, po2) ∈ xs then 0 else 121) = rv := ⟨_, rfl⟩
                      simp only [hrv] at P1 P2 R1 R2
                      have n0 : (rv != rv) = false := by simp
                      clear hrv
                      go_upto_region 17 with fail
                      refine wp_region_held_drew (S := fun V => V.cell? ⟨g6, 1, none⟩ = some (.int .u8 q) ∧ V.cell? ⟨g7, 0, none⟩ = some (.int .u32 ip2) ∧ V.cell? ⟨g7, 1, none⟩ = some (.int .u16 po2)) (by kernel_rfl) (⟨HT9.out.mem.cell 1 rfl 1, HT9.out.mem.cell 0 rfl 0, HT9.out.mem.cell 0 rfl 1⟩) (fun hHeld => ?_)
                      have hT0 := HT9.out.after ((Below.refl wc.heap.size wc).drew)
                      refine wpAnyH_take (i := 0) (v := ?_) rfl (by kernel_rfl) (by kernel_rfl) (by kernel_rfl) (fun _ _ _ h => h) (Or.inl ⟨by rfl, ?faqy0⟩) (by assumption) ?faqr0
                      case faqy0 =>
                        intro w hSw
                        (try dsimp only at hSw)
                        go_simp
                        all_goals with_reducible rfl
                      try simp only [List.getElem_toArray, List.getElem_cons_zero, List.getElem_cons_succ, Act.put, List.setIfInBounds_toArray, List.set_cons_zero, List.set_cons_succ]
                      refine wpAnyH_take (i := 1) (v := ?_) rfl (by kernel_rfl) (by kernel_rfl) (by kernel_rfl) (fun _ _ _ h => h) (Or.inl ⟨by rfl, ?faqy1⟩) (by assumption) ?faqr1
                      case faqy1 =>
                        intro w hSw
                        (try dsimp only at hSw)
                        go_simp
                        all_goals with_reducible rfl
                      try simp only [List.getElem_toArray, List.getElem_cons_zero, List.getElem_cons_succ, Act.put, List.setIfInBounds_toArray, List.set_cons_zero, List.set_cons_succ]
                      refine wpAnyH_take (i := 2) (v := ?_) rfl (by kernel_rfl) (by kernel_rfl) (by kernel_rfl) (fun _ _ _ h => h) (Or.inl ⟨by rfl, ?faqy2⟩) (by assumption) ?faqr2
                      case faqy2 =>
                        intro w hSw
                        (try dsimp only at hSw)
                        go_simp
                        all_goals with_reducible rfl
                      try simp only [List.getElem_toArray, List.getElem_cons_zero, List.getElem_cons_succ, Act.put, List.setIfInBounds_toArray, List.set_cons_zero, List.set_cons_succ]
                      refine wpAnyH_take (i := 3) (v := ?_) rfl (by kernel_rfl) (by kernel_rfl) (by kernel_rfl) (fun _ _ _ h => h) (Or.inl ⟨by rfl, ?faqy3⟩) (by assumption) ?faqr3
                      case faqy3 =>
                        intro w hSw
                        (try dsimp only at hSw)
                        go_simp
                        all_goals with_reducible rfl
                      try simp only [List.getElem_toArray, List.getElem_cons_zero, List.getElem_cons_succ, Act.put, List.setIfInBounds_toArray, List.set_cons_zero, List.set_cons_succ]
                      refine wpAnyH_take (i := 5) (v := ?_) rfl (by kernel_rfl) (by kernel_rfl) (by kernel_rfl) (fun _ _ _ h => h) (Or.inl ⟨by rfl, ?faqy5⟩) (by assumption) ?faqr5
                      case faqy5 =>
                        intro w hSw
                        (try dsimp only at hSw)
                        go_simp
                        all_goals with_reducible rfl
                      try simp only [List.getElem_toArray, List.getElem_cons_zero, List.getElem_cons_succ, Act.put, List.setIfInBounds_toArray, List.set_cons_zero, List.set_cons_succ]
                      refine wpAnyH_take (i := 6) (v := ?_) rfl (by kernel_rfl) (by kernel_rfl) (by kernel_rfl) (fun _ _ _ h => h) (Or.inl ⟨by rfl, ?faqy6⟩) (by assumption) ?faqr6
                      case faqy6 =>
                        intro w hSw
                        (try dsimp only at hSw)
                        go_simp
                        all_goals with_reducible rfl
                      try simp only [List.getElem_toArray, List.getElem_cons_zero, List.getElem_cons_succ, Act.put, List.setIfInBounds_toArray, List.set_cons_zero, List.set_cons_succ]
                      refine wpAnyH_take (i := 7) (v := ?_) rfl (by kernel_rfl) (by kernel_rfl) (by kernel_rfl) (fun _ _ _ h => h) (Or.inl ⟨by rfl, ?faqy7⟩) (by assumption) ?faqr7
                      case faqy7 =>
                        intro w hSw
                        (try dsimp only at hSw)
                        go_simp
                        all_goals with_reducible rfl
                      try simp only [List.getElem_toArray, List.getElem_cons_zero, List.getElem_cons_succ, Act.put, List.setIfInBounds_toArray, List.set_cons_zero, List.set_cons_succ]
                      refine wpAnyH_take (i := 8) (v := ?_) rfl (by kernel_rfl) (by kernel_rfl) (by kernel_rfl) (fun _ _ _ h => h) (Or.inl ⟨by rfl, ?faqy8⟩) (by assumption) ?faqr8
                      case faqy8 =>
                        intro w hSw
                        (try dsimp only at hSw)
                        go_simp
                        all_goals with_reducible rfl
                      try simp only [List.getElem_toArray, List.getElem_cons_zero, List.getElem_cons_succ, Act.put, List.setIfInBounds_toArray, List.set_cons_zero, List.set_cons_succ]
                      refine wpAnyH_ready (rs := [4]) (by kernel_rfl) (by simp) ?_
                      refine AllReadyH.cons rfl (fun KK hK => ?_) AllReadyH.nil
                      go_simp
                      with_reducible refine (P1.out _ hT0).mono ?_
                      rintro e Y1 ⟨rfl, hT1⟩
                      try go_wp2_with fail
                      refine hK.out _ _ (⟨hT1.mem.cell 1 rfl 1, hT1.mem.cell 0 rfl 0, hT1.mem.cell 0 rfl 1⟩) (fun hHeld => ?_)
                      clear hK KK
                      try simp only [List.getElem_toArray, List.getElem_cons_zero, List.getElem_cons_succ, Act.put, List.setIfInBounds_toArray, List.set_cons_zero, List.set_cons_succ]
                      refine wpAnyH_ready (rs := [9]) (by kernel_rfl) (by simp) ?_
                      refine AllReadyH.cons rfl (fun KK hK => ?_) AllReadyH.nil
                      go_simp
                      with_reducible refine (R2.out _ hT1).mono ?_
                      rintro e Y2 ⟨rfl, hT2⟩
                      try go_wp2_with fail
                      refine hK.out _ _ (⟨hT2.mem.cell 1 rfl 1, hT2.mem.cell 0 rfl 0, hT2.mem.cell 0 rfl 1⟩) (fun hHeld => ?_)
                      clear hK KK
                      try simp only [List.getElem_toArray, List.getElem_cons_zero, List.getElem_cons_succ, Act.put, List.setIfInBounds_toArray, List.set_cons_zero, List.set_cons_succ]
                      refine wpAnyH_ready (rs := [10]) (by kernel_rfl) (by simp) ?_
                      refine AllReadyH.cons rfl (fun KK hK => ?_) AllReadyH.nil
                      go_simp
                      refine hK.out _ _ (⟨hT2.mem.cell 1 rfl 1, hT2.mem.cell 0 rfl 0, hT2.mem.cell 0 rfl 1⟩) (fun hHeld => ?_)
                      clear hK KK
                      try simp only [List.getElem_toArray, List.getElem_cons_zero, List.getElem_cons_succ, Act.put, List.setIfInBounds_toArray, List.set_cons_zero, List.set_cons_succ]
                      refine wpAnyH_done (by kernel_rfl) ?_ _
                      have HZ : Hid (∃ zs : List Mk, zs.length ≤ i + 1 ∧ (∀ m ∈ zs, MOk m) ∧ Two PS W pp pm zs zs (Y2) [(g7, .cells #[.int .u32 ip2, .int .u16 po2] 35 (0, 0)), (g6, .cells #[.int .i64 what, .int .u8 q, .slice pa pool.length pc, .int .u16 lo, .int .u16 hi', .int .u16 want, .int .u32 ip, .int .u16 port, .int .i64 kk] 37 (0, 0))]) := ⟨zs, HQ.out.1, HQ.out.2, hT2⟩
                      clear hT0 hT1 hT2 P1 P2 R1 R2
                      go_wp2_with fail
                      go_meet
                      case rel => exact HZ.out
            case rest => as_aux_lemma =>
              obtain ⟨zs, hzl, hzo, hTz⟩ := hcut
              obtain ⟨ve, cpe, hre⟩ := hTz.row
              obtain ⟨ae, ce, rfl, -, -, -⟩ := mark_at hre
              have HQ : Hid (zs.length ≤ i + 1 ∧ ∀ m ∈ zs, MOk m) := ⟨hzl, hzo⟩
              have hT0 := hTz.after ((Below.refl wc.heap.size wc).drew)
              have cp0 : wc.drew.cell? ⟨pm, 0, none⟩ = some (.slice ae zs.length ce) := cpe
              have n1 : ((zs.length : Int) != (zs.length : Int)) = false := by simp
              have PC1 : Hid (∀ V, Two PS W pp pm zs zs (V) [(g7, .cells #[.int .u32 ip2, .int .u16 po2] 35 (0, 0)), (g6, .cells #[.int .i64 what, .int .u8 q, .slice pa pool.length pc, .int .u16 lo, .int .u16 hi', .int .u16 want, .int .u32 ip, .int .u16 port, .int .i64 kk] 37 (0, 0))] → Calls Tryd.prog 17 #[.pointer (some ⟨pp, 0, none⟩)] V fun e Y => e = .returned (.int .i64 zs.length) ∧ Two PS W pp pm zs zs (Y) [(g7, .cells #[.int .u32 ip2, .int .u16 po2] 35 (0, 0)), (g6, .cells #[.int .i64 what, .int .u8 q, .slice pa pool.length pc, .int .u16 lo, .int .u16 hi', .int .u16 want, .int .u32 ip, .int .u16 port, .int .i64 kk] 37 (0, 0))] ∧ Y.cell? ⟨pm, 0, none⟩ = V.cell? ⟨pm, 0, none⟩) := fun V hV => hV.pcount HC.out (by omega)
              have PC2 : Hid (∀ V, Two PS W pp pm zs zs (V) [(g7, .cells #[.int .u32 ip2, .int .u16 po2] 35 (0, 0)), (g6, .cells #[.int .i64 what, .int .u8 q, .slice pa pool.length pc, .int .u16 lo, .int .u16 hi', .int .u16 want, .int .u32 ip, .int .u16 port, .int .i64 kk] 37 (0, 0))] → Calls Tryd.prog 18 #[.pointer (some ⟨pp, 0, none⟩), .int .u8 q, .agg #[.int .u32 ip2, .int .u16 po2]] V fun e Y => e = .returned (.bool (decide ((q, ip2, po2) ∈ zs))) ∧ Two PS W pp pm zs zs (Y) [(g7, .cells #[.int .u32 ip2, .int .u16 po2] 35 (0, 0)), (g6, .cells #[.int .i64 what, .int .u8 q, .slice pa pool.length pc, .int .u16 lo, .int .u16 hi', .int .u16 want, .int .u32 ip, .int .u16 port, .int .i64 kk] 37 (0, 0))] ∧ Y.cell? ⟨pm, 0, none⟩ = V.cell? ⟨pm, 0, none⟩) := fun V hV => hV.pheld HC.out (by omega) q ip2 po2 hok2
              have PC3 : Hid (∀ V, Two PS W pp pm zs zs (V) [(g7, .cells #[.int .u32 ip2, .int .u16 po2] 35 (0, 0)), (g6, .cells #[.int .i64 what, .int .u8 q, .slice pa pool.length pc, .int .u16 lo, .int .u16 hi', .int .u16 want, .int .u32 ip, .int .u16 port, .int .i64 kk] 37 (0, 0))] → Calls Tryd.prog 19 #[.pointer (some ⟨pm, 0, none⟩), .int .u8 q, .agg #[.int .u32 ip2, .int .u16 po2]] V fun e Y => e = .returned (.bool (decide ((q, ip2, po2) ∈ zs))) ∧ Two PS W pp pm zs zs (Y) [(g7, .cells #[.int .u32 ip2, .int .u16 po2] 35 (0, 0)), (g6, .cells #[.int .i64 what, .int .u8 q, .slice pa pool.length pc, .int .u16 lo, .int .u16 hi', .int .u16 want, .int .u32 ip, .int .u16 port, .int .i64 kk] 37 (0, 0))] ∧ Y.cell? ⟨pm, 0, none⟩ = V.cell? ⟨pm, 0, none⟩) := fun V hV => hV.rhas q ip2 po2
              obtain ⟨hb, hhb⟩ : ∃ b : Bool, decide ((q, ip2, po2) ∈ zs) = b := ⟨_, rfl⟩
              rw [hhb] at PC2 PC3
              have n2 : (hb != hb) = false := by simp
              clear hTz hre hhb hzl hzo
              go_upto_region 29 with fail
              refine wp_region_held_drew (S := fun V => V.cell? ⟨g6, 1, none⟩ = some (.int .u8 q) ∧ V.cell? ⟨g7, 0, none⟩ = some (.int .u32 ip2) ∧ V.cell? ⟨g7, 1, none⟩ = some (.int .u16 po2) ∧ V.cell? ⟨pm, 0, none⟩ = some (.slice ae zs.length ce)) (by kernel_rfl) (⟨hT0.mem.cell 1 rfl 1, hT0.mem.cell 0 rfl 0, hT0.mem.cell 0 rfl 1, cp0⟩) (fun hHeld => ?_)
              refine wpAnyH_take (i := 0) (v := ?_) rfl (by kernel_rfl) (by kernel_rfl) (by kernel_rfl) (fun _ _ _ h => h) (Or.inl ⟨by rfl, ?zaqy0⟩) (by assumption) ?zaqr0
              case zaqy0 =>
                intro w hSw
                (try dsimp only at hSw)
                go_simp
                all_goals with_reducible rfl
              try simp only [List.getElem_toArray, List.getElem_cons_zero, List.getElem_cons_succ, Act.put, List.setIfInBounds_toArray, List.set_cons_zero, List.set_cons_succ]
              refine wpAnyH_take (i := 2) (v := ?_) rfl (by kernel_rfl) (by kernel_rfl) (by kernel_rfl) (fun _ _ _ h => h) (Or.inl ⟨by rfl, ?zaqy2⟩) (by assumption) ?zaqr2
              case zaqy2 =>
                intro w hSw
                (try dsimp only at hSw)
                go_simp
                all_goals with_reducible rfl
              try simp only [List.getElem_toArray, List.getElem_cons_zero, List.getElem_cons_succ, Act.put, List.setIfInBounds_toArray, List.set_cons_zero, List.set_cons_succ]
              refine wpAnyH_take (i := 3) (v := ?_) rfl (by kernel_rfl) (by kernel_rfl) (by kernel_rfl) (fun _ _ _ h => h) (Or.inl ⟨by rfl, ?zaqy3⟩) (by assumption) ?zaqr3
              case zaqy3 =>
                intro w hSw
                (try dsimp only at hSw)
                go_simp
                all_goals with_reducible rfl
              try simp only [List.getElem_toArray, List.getElem_cons_zero, List.getElem_cons_succ, Act.put, List.setIfInBounds_toArray, List.set_cons_zero, List.set_cons_succ]
              refine wpAnyH_take (i := 4) (v := ?_) rfl (by kernel_rfl) (by kernel_rfl) (by kernel_rfl) (fun _ _ _ h => h) (Or.inl ⟨by rfl, ?zaqy4⟩) (by assumption) ?zaqr4
              case zaqy4 =>
                intro w hSw
                (try dsimp only at hSw)
                go_simp
                all_goals with_reducible rfl
              try simp only [List.getElem_toArray, List.getElem_cons_zero, List.getElem_cons_succ, Act.put, List.setIfInBounds_toArray, List.set_cons_zero, List.set_cons_succ]
              refine wpAnyH_take (i := 5) (v := ?_) rfl (by kernel_rfl) (by kernel_rfl) (by kernel_rfl) (fun _ _ _ h => h) (Or.inl ⟨by rfl, ?zaqy5⟩) (by assumption) ?zaqr5
              case zaqy5 =>
                intro w hSw
                (try dsimp only at hSw)
                go_simp
                all_goals with_reducible rfl
              try simp only [List.getElem_toArray, List.getElem_cons_zero, List.getElem_cons_succ, Act.put, List.setIfInBounds_toArray, List.set_cons_zero, List.set_cons_succ]
              refine wpAnyH_take (i := 6) (v := ?_) rfl (by kernel_rfl) (by kernel_rfl) (by kernel_rfl) (fun _ _ _ h => h) (Or.inl ⟨by rfl, ?zaqy6⟩) (by assumption) ?zaqr6
              case zaqy6 =>
                intro w hSw
                (try dsimp only at hSw)
                go_simp
                all_goals with_reducible rfl
              try simp only [List.getElem_toArray, List.getElem_cons_zero, List.getElem_cons_succ, Act.put, List.setIfInBounds_toArray, List.set_cons_zero, List.set_cons_succ]
              refine wpAnyH_ready (rs := [1]) (by kernel_rfl) (by simp) ?_
              refine AllReadyH.cons rfl (fun KK hK => ?_) AllReadyH.nil
              go_simp
              with_reducible refine (PC1.out _ hT0).mono ?_
              rintro e Y1 ⟨rfl, hT1, hs1⟩
              try go_wp2_with fail
              have cp1 := hs1.trans cp0
              refine hK.out _ _ (⟨hT1.mem.cell 1 rfl 1, hT1.mem.cell 0 rfl 0, hT1.mem.cell 0 rfl 1, cp1⟩) (fun hHeld => ?_)
              clear hK KK
              try simp only [List.getElem_toArray, List.getElem_cons_zero, List.getElem_cons_succ, Act.put, List.setIfInBounds_toArray, List.set_cons_zero, List.set_cons_succ]
              refine wpAnyH_take (i := 7) (v := ?_) rfl (by kernel_rfl) (by kernel_rfl) (by kernel_rfl) (fun _ _ _ h => h) (Or.inl ⟨by rfl, ?zaqy7⟩) (by assumption) ?zaqr7
              case zaqy7 =>
                intro w hSw
                (try dsimp only at hSw)
                go_simp
                all_goals with_reducible rfl
              try simp only [List.getElem_toArray, List.getElem_cons_zero, List.getElem_cons_succ, Act.put, List.setIfInBounds_toArray, List.set_cons_zero, List.set_cons_succ]
              refine wpAnyH_take (i := 8) (v := ?_) rfl (by kernel_rfl) (by kernel_rfl) (by kernel_rfl) (fun _ _ _ h => h) (Or.inl ⟨by rfl, ?zaqy8⟩) (by assumption) ?zaqr8
              case zaqy8 =>
                intro w hSw
                (try dsimp only at hSw)
                go_simp
                all_goals with_reducible rfl
              try simp only [List.getElem_toArray, List.getElem_cons_zero, List.getElem_cons_succ, Act.put, List.setIfInBounds_toArray, List.set_cons_zero, List.set_cons_succ]
              refine wpAnyH_take (i := 9) (v := ?_) rfl (by kernel_rfl) (by kernel_rfl) (by kernel_rfl) (fun _ _ _ h => h) (Or.inl ⟨by rfl, ?zaqy9⟩) (by assumption) ?zaqr9
              case zaqy9 =>
                intro w hSw
                (try dsimp only at hSw)
                go_simp
                all_goals with_reducible rfl
              try simp only [List.getElem_toArray, List.getElem_cons_zero, List.getElem_cons_succ, Act.put, List.setIfInBounds_toArray, List.set_cons_zero, List.set_cons_succ]
              refine wpAnyH_take (i := 10) (v := ?_) rfl (by kernel_rfl) (by kernel_rfl) (by kernel_rfl) (fun _ _ _ h => h) (Or.inl ⟨by rfl, ?zaqy10⟩) (by assumption) ?zaqr10
              case zaqy10 =>
                intro w hSw
                (try dsimp only at hSw)
                go_simp
                all_goals with_reducible rfl
              try simp only [List.getElem_toArray, List.getElem_cons_zero, List.getElem_cons_succ, Act.put, List.setIfInBounds_toArray, List.set_cons_zero, List.set_cons_succ]
              refine wpAnyH_take (i := 11) (v := ?_) rfl (by kernel_rfl) (by kernel_rfl) (by kernel_rfl) (fun _ _ _ h => h) (Or.inl ⟨by rfl, ?zaqy11⟩) (by assumption) ?zaqr11
              case zaqy11 =>
                intro w hSw
                (try dsimp only at hSw)
                go_simp
                all_goals with_reducible rfl
              try simp only [List.getElem_toArray, List.getElem_cons_zero, List.getElem_cons_succ, Act.put, List.setIfInBounds_toArray, List.set_cons_zero, List.set_cons_succ]
              refine wpAnyH_take (i := 12) (v := ?_) rfl (by kernel_rfl) (by kernel_rfl) (by kernel_rfl) (fun _ _ _ h => h) (Or.inl ⟨by rfl, ?zaqy12⟩) (by assumption) ?zaqr12
              case zaqy12 =>
                intro w hSw
                (try dsimp only at hSw)
                go_simp
                all_goals with_reducible rfl
              try simp only [List.getElem_toArray, List.getElem_cons_zero, List.getElem_cons_succ, Act.put, List.setIfInBounds_toArray, List.set_cons_zero, List.set_cons_succ]
              refine wpAnyH_take (i := 14) (v := ?_) rfl (by kernel_rfl) (by kernel_rfl) (by kernel_rfl) (fun _ _ _ h => h) (Or.inl ⟨by rfl, ?zaqy14⟩) (by assumption) ?zaqr14
              case zaqy14 =>
                intro w hSw
                (try dsimp only at hSw)
                go_simp
                all_goals with_reducible rfl
              try simp only [List.getElem_toArray, List.getElem_cons_zero, List.getElem_cons_succ, Act.put, List.setIfInBounds_toArray, List.set_cons_zero, List.set_cons_succ]
              refine wpAnyH_take (i := 15) (v := ?_) rfl (by kernel_rfl) (by kernel_rfl) (by kernel_rfl) (fun _ _ _ h => h) (Or.inl ⟨by rfl, ?zaqy15⟩) (by assumption) ?zaqr15
              case zaqy15 =>
                intro w hSw
                (try dsimp only at hSw)
                go_simp
                all_goals with_reducible rfl
              try simp only [List.getElem_toArray, List.getElem_cons_zero, List.getElem_cons_succ, Act.put, List.setIfInBounds_toArray, List.set_cons_zero, List.set_cons_succ]
              refine wpAnyH_take (i := 16) (v := ?_) rfl (by kernel_rfl) (by kernel_rfl) (by kernel_rfl) (fun _ _ _ h => h) (Or.inl ⟨by rfl, ?zaqy16⟩) (by assumption) ?zaqr16
              case zaqy16 =>
                intro w hSw
                (try dsimp only at hSw)
                go_simp
                all_goals with_reducible rfl
              try simp only [List.getElem_toArray, List.getElem_cons_zero, List.getElem_cons_succ, Act.put, List.setIfInBounds_toArray, List.set_cons_zero, List.set_cons_succ]
              refine wpAnyH_take (i := 17) (v := ?_) rfl (by kernel_rfl) (by kernel_rfl) (by kernel_rfl) (fun _ _ _ h => h) (Or.inl ⟨by rfl, ?zaqy17⟩) (by assumption) ?zaqr17
              case zaqy17 =>
                intro w hSw
                (try dsimp only at hSw)
                go_simp
                all_goals with_reducible rfl
              try simp only [List.getElem_toArray, List.getElem_cons_zero, List.getElem_cons_succ, Act.put, List.setIfInBounds_toArray, List.set_cons_zero, List.set_cons_succ]
              refine wpAnyH_ready (rs := [13]) (by kernel_rfl) (by simp) ?_
              refine AllReadyH.cons rfl (fun KK hK => ?_) AllReadyH.nil
              go_simp
              with_reducible refine (PC2.out _ hT1).mono ?_
              rintro e Y2 ⟨rfl, hT2, hs2⟩
              try go_wp2_with fail
              have cp2 := hs2.trans cp1
              refine hK.out _ _ (⟨hT2.mem.cell 1 rfl 1, hT2.mem.cell 0 rfl 0, hT2.mem.cell 0 rfl 1, cp2⟩) (fun hHeld => ?_)
              clear hK KK
              try simp only [List.getElem_toArray, List.getElem_cons_zero, List.getElem_cons_succ, Act.put, List.setIfInBounds_toArray, List.set_cons_zero, List.set_cons_succ]
              refine wpAnyH_ready (rs := [18]) (by kernel_rfl) (by simp) ?_
              refine AllReadyH.cons rfl (fun KK hK => ?_) AllReadyH.nil
              go_simp
              with_reducible refine (PC3.out _ hT2).mono ?_
              rintro e Y3 ⟨rfl, hT3, hs3⟩
              try go_wp2_with fail
              have cp3 := hs3.trans cp2
              refine hK.out _ _ (⟨hT3.mem.cell 1 rfl 1, hT3.mem.cell 0 rfl 0, hT3.mem.cell 0 rfl 1, cp3⟩) (fun hHeld => ?_)
              clear hK KK
              try simp only [List.getElem_toArray, List.getElem_cons_zero, List.getElem_cons_succ, Act.put, List.setIfInBounds_toArray, List.set_cons_zero, List.set_cons_succ]
              refine wpAnyH_take (i := 19) (v := ?_) rfl (by kernel_rfl) (by kernel_rfl) (by kernel_rfl) (fun _ _ _ h => h) (Or.inl ⟨by rfl, ?zaqy19⟩) (by assumption) ?zaqr19
              case zaqy19 =>
                intro w hSw
                (try dsimp only at hSw)
                go_simp
                all_goals with_reducible rfl
              try simp only [List.getElem_toArray, List.getElem_cons_zero, List.getElem_cons_succ, Act.put, List.setIfInBounds_toArray, List.set_cons_zero, List.set_cons_succ]
              refine wpAnyH_take (i := 20) (v := ?_) rfl (by kernel_rfl) (by kernel_rfl) (by kernel_rfl) (fun _ _ _ h => h) (Or.inl ⟨by rfl, ?zaqy20⟩) (by assumption) ?zaqr20
              case zaqy20 =>
                intro w hSw
                (try dsimp only at hSw)
                go_simp
                all_goals with_reducible rfl
              try simp only [List.getElem_toArray, List.getElem_cons_zero, List.getElem_cons_succ, Act.put, List.setIfInBounds_toArray, List.set_cons_zero, List.set_cons_succ]
              refine wpAnyH_done (by kernel_rfl) ?_ _
              have HZ : Hid (∃ xs : List Mk, xs.length ≤ i + 1 ∧ (∀ m ∈ xs, MOk m) ∧ Two PS W pp pm xs xs Y3 []) := ⟨zs, HQ.out.1, HQ.out.2, hT3.sub.sub⟩
              clear hT0 hT1 hT2 hT3 PC1 PC2 PC3 HQ
              go_wp2_with fail
              go_roundw
              case rel => exact ⟨i + 1, by omega, by go_num, HZ.out⟩
              case measure => simp [intOf]; omega
        · have hz1 : (0 : Int) < (xs.length : Int) := by omega
          by_cases hz2 : Int.tmod kk 3 = 0
          · have hz3 : (Int.tmod kk 3 != 0) = false := by simpa using hz2
            go_upto_if 44 with fail
            go_cut [8] from 44 (fun s8 wx => ∃ q ip2 po2 : Int, MOk (q, ip2, po2) ∧ Two PS W pp pm xs xs (wx) [(g7, .cells #[.int .u32 ip2, .int .u16 po2] 35 (0, 0)), (g6, .cells #[.int .i64 what, .int .u8 q, .slice pa pool.length pc, .int .u16 lo, .int .u16 hi', .int .u16 want, .int .u32 ip, .int .u16 port, .int .i64 kk] 37 (0, 0))])
            case first => as_aux_lemma =>
              have HQ : Hid (∃ q ip2 po2 : Int, MOk (q, ip2, po2) ∧ Two PS W pp pm xs xs (V7) [(g7, .cells #[.int .u32 ip2, .int .u16 po2] 35 (0, 0)), (g6, .cells #[.int .i64 what, .int .u8 q, .slice pa pool.length pc, .int .u16 lo, .int .u16 hi', .int .u16 want, .int .u32 ip, .int .u16 port, .int .i64 kk] 37 (0, 0))]) := ⟨pr, ip, port, ⟨hpr, hip, hpo⟩, HT.out⟩
              clear hmk
              go_wp2_with fail
              go_meet
              case rel => exact HQ.out
            case rest => as_aux_lemma =>
              obtain ⟨q, ip2, po2, hok2, hT9⟩ := hcut
              have HT9 : Hid (Two PS W pp pm xs xs (wc) [(g7, .cells #[.int .u32 ip2, .int .u16 po2] 35 (0, 0)), (g6, .cells #[.int .i64 what, .int .u8 q, .slice pa pool.length pc, .int .u16 lo, .int .u16 hi', .int .u16 want, .int .u32 ip, .int .u16 port, .int .i64 kk] 37 (0, 0))]) := hT9
              have x0' : wc.cell? ⟨g6, 0, none⟩ = some (.int .i64 what) := hT9.mem.cell 1 rfl 0
              clear hT9
              go_upto_block 2 with fail
              go_cut [9, 10, 11, 12] from 75 (fun s9 s10 s11 s12 wx => ∃ zs : List Mk, zs.length ≤ i + 1 ∧ (∀ m ∈ zs, MOk m) ∧ Two PS W pp pm zs zs (wx) [(g7, .cells #[.int .u32 ip2, .int .u16 po2] 35 (0, 0)), (g6, .cells #[.int .i64 what, .int .u8 q, .slice pa pool.length pc, .int .u16 lo, .int .u16 hi', .int .u16 want, .int .u32 ip, .int .u16 port, .int .i64 kk] 37 (0, 0))])
              case first => as_aux_lemma =>
                by_cases h0 : what = 0
                · have m0 : (what == 0) = true := by simpa using h0
                  clear h0
                  have hT9 := HT9.out
                  have x1 : wc.cell? ⟨g6, 1, none⟩ = some (.int .u8 q) := hT9.mem.cell 1 rfl 1
                  have x2 : wc.cell? ⟨g6, 2, none⟩ = some (.slice pa pool.length pc) := hT9.mem.cell 1 rfl 2
                  have x3 : wc.cell? ⟨g6, 3, none⟩ = some (.int .u16 lo) := hT9.mem.cell 1 rfl 3
                  have x4 : wc.cell? ⟨g6, 4, none⟩ = some (.int .u16 hi') := hT9.mem.cell 1 rfl 4
                  have x5 : wc.cell? ⟨g6, 5, none⟩ = some (.int .u16 want) := hT9.mem.cell 1 rfl 5
                  have C1 := hT9.ptake HC.out (by omega) (hrow.out wc hT9.mem.below) (by omega) hfew q lo hi' want hok2.1 hlo hhi hwt
                  have C2 : Hid (∀ (V : World) (zs : List Mk) (L : List (Nat × Obj)), Two PS W pp pm zs xs V L → Calls Tryd.prog 12 #[.pointer (some ⟨pm, 0, none⟩), .int .u8 q, .slice pa pool.length pc, .int .u16 lo, .int .u16 hi', .int .u16 want] V fun e Y => e = .returned (tko (tk xs q (frm lo want) (upt hi' want) pool)) ∧ Two PS W pp pm zs (aft xs q (tk xs q (frm lo want) (upt hi' want) pool)) Y L) := fun V zs L hV => hV.rtake (by omega) (hrow.out V hV.mem.below) (by omega) q lo hi' want hlo hhi hwt
                  have haf := aft_ok (want := want) (l := pool) HOK.out hok2.1 hfew hlo.1 hhi.2
                  have HAF : Hid ((aft xs q (tk xs q (frm lo want) (upt hi' want) pool)).length ≤ i + 1 ∧ ∀ m ∈ aft xs q (tk xs q (frm lo want) (upt hi' want) pool), MOk m) := ⟨Nat.le_trans aft_len (by omega), haf⟩
                  clear haf hT9
                  generalize tk xs q (frm lo want) (upt hi' want) pool = R at *
                  cases R with
                  | none =>
                    simp only [tko] at C1 C2
                    go_wp2_with fail
                    refine C1.mono ?_
                    rintro e Y1 ⟨rfl, hY1⟩
                    clear C1
                    obtain ⟨g9, hg9⟩ : ∃ g, Y1.heap.size = g := ⟨_, rfl⟩
                    have HY1 : Hid (Two PS W pp pm (aft xs q (none)) xs (Y1.alloc (.cells #[.int .u32 0, .int .u16 0] 35)) ((g9, .cells #[.int .u32 0, .int .u16 0] 35 (0, 0)) :: [(g7, .cells #[.int .u32 ip2, .int .u16 po2] 35 (0, 0)), (g6, .cells #[.int .i64 what, .int .u8 q, .slice pa pool.length pc, .int .u16 lo, .int .u16 hi', .int .u16 want, .int .u32 ip, .int .u16 port, .int .i64 kk] 37 (0, 0))])) := hY1.push g9 _ hg9.symm
                    clear hY1
                    go_upto_region 23 with fail
                    refine wp_letter (fun V => Two PS W pp pm (aft xs q (none)) xs (V) ((g9, .cells #[.int .u32 0, .int .u16 0] 35 (0, 0)) :: [(g7, .cells #[.int .u32 ip2, .int .u16 po2] 35 (0, 0)), (g6, .cells #[.int .i64 what, .int .u8 q, .slice pa pool.length pc, .int .u16 lo, .int .u16 hi', .int .u16 want, .int .u32 ip, .int .u16 port, .int .i64 kk] 37 (0, 0))])) (by exact HY1.out) ?_
                    intro Y2 hY2
                    try simp only [hg9]
                    clear HY1 hg9
                    have e1 : Y2.cell? ⟨g6, 1, none⟩ = some (.int .u8 q) := hY2.mem.cell 2 rfl 1
                    have e2 : Y2.cell? ⟨g6, 2, none⟩ = some (.slice pa pool.length pc) := hY2.mem.cell 2 rfl 2
                    have e3 : Y2.cell? ⟨g6, 3, none⟩ = some (.int .u16 lo) := hY2.mem.cell 2 rfl 3
                    have e4 : Y2.cell? ⟨g6, 4, none⟩ = some (.int .u16 hi') := hY2.mem.cell 2 rfl 4
                    have e5 : Y2.cell? ⟨g6, 5, none⟩ = some (.int .u16 want) := hY2.mem.cell 2 rfl 5
                    have D2 := C2.out Y2 _ _ hY2
                    clear C2 x1 x2 x3 x4 x5
                    go_wp2_with fail
                    refine D2.mono ?_
                    rintro e Y3 ⟨rfl, hY3⟩
                    clear D2 hY2
                    obtain ⟨g10, hg10⟩ : ∃ g, Y3.heap.size = g := ⟨_, rfl⟩
                    have HY3 : Hid (Two PS W pp pm (aft xs q (none)) (aft xs q (none)) (Y3.alloc (.cells #[.int .u32 0, .int .u16 0] 35)) ((g10, .cells #[.int .u32 0, .int .u16 0] 35 (0, 0)) :: (g9, .cells #[.int .u32 0, .int .u16 0] 35 (0, 0)) :: [(g7, .cells #[.int .u32 ip2, .int .u16 po2] 35 (0, 0)), (g6, .cells #[.int .i64 what, .int .u8 q, .slice pa pool.length pc, .int .u16 lo, .int .u16 hi', .int .u16 want, .int .u32 ip, .int .u16 port, .int .i64 kk] 37 (0, 0))])) := hY3.push g10 _ hg10.symm
                    clear hY3
                    go_upto_region 24 with fail
                    refine wp_letter (fun V => Two PS W pp pm (aft xs q (none)) (aft xs q (none)) V ((g10, .cells #[.int .u32 0, .int .u16 0] 35 (0, 0)) :: (g9, .cells #[.int .u32 0, .int .u16 0] 35 (0, 0)) :: [(g7, .cells #[.int .u32 ip2, .int .u16 po2] 35 (0, 0)), (g6, .cells #[.int .i64 what, .int .u8 q, .slice pa pool.length pc, .int .u16 lo, .int .u16 hi', .int .u16 want, .int .u32 ip, .int .u16 port, .int .i64 kk] 37 (0, 0))])) (by exact HY3.out) ?_
                    intro Y4 hY4
                    try simp only [hg10]
                    clear HY3 hg10 e1 e2 e3 e4 e5
                    have a0 : Y4.cell? ⟨g10, 0, none⟩ = some (.int .u32 0) := hY4.mem.cell 0 rfl 0
                    have a1 : Y4.cell? ⟨g10, 1, none⟩ = some (.int .u16 0) := hY4.mem.cell 0 rfl 1
                    have b0 : Y4.cell? ⟨g9, 0, none⟩ = some (.int .u32 0) := hY4.mem.cell 1 rfl 0
                    have b1 : Y4.cell? ⟨g9, 1, none⟩ = some (.int .u16 0) := hY4.mem.cell 1 rfl 1
                    have p1 := pt_eq 0 0 0 0
                    simp only [BEq.rfl, Bool.and_self] at p1
                    have HZ : Hid (∃ zs : List Mk, zs.length ≤ i + 1 ∧ (∀ m ∈ zs, MOk m) ∧ Two PS W pp pm zs zs (Y4) [(g7, .cells #[.int .u32 ip2, .int .u16 po2] 35 (0, 0)), (g6, .cells #[.int .i64 what, .int .u8 q, .slice pa pool.length pc, .int .u16 lo, .int .u16 hi', .int .u16 want, .int .u32 ip, .int .u16 port, .int .i64 kk] 37 (0, 0))]) := ⟨_, HAF.out.1, HAF.out.2, hY4.sub.sub⟩
                    clear hY4 HAF
                    go_wp2_with fail
                    go_meet
                    case rel => exact HZ.out
                  | some x4 =>
                    obtain ⟨ip4, k4⟩ := x4
                    simp only [tko] at C1 C2
                    go_wp2_with fail
                    refine C1.mono ?_
                    rintro e Y1 ⟨rfl, hY1⟩
                    clear C1
                    obtain ⟨g9, hg9⟩ : ∃ g, Y1.heap.size = g := ⟨_, rfl⟩
                    have HY1 : Hid (Two PS W pp pm (aft xs q (some (ip4, k4))) xs (Y1.alloc (.cells #[.int .u32 ip4, .int .u16 k4] 35)) ((g9, .cells #[.int .u32 ip4, .int .u16 k4] 35 (0, 0)) :: [(g7, .cells #[.int .u32 ip2, .int .u16 po2] 35 (0, 0)), (g6, .cells #[.int .i64 what, .int .u8 q, .slice pa pool.length pc, .int .u16 lo, .int .u16 hi', .int .u16 want, .int .u32 ip, .int .u16 port, .int .i64 kk] 37 (0, 0))])) := hY1.push g9 _ hg9.symm
                    clear hY1
                    go_upto_region 23 with fail
                    refine wp_letter (fun V => Two PS W pp pm (aft xs q (some (ip4, k4))) xs (V) ((g9, .cells #[.int .u32 ip4, .int .u16 k4] 35 (0, 0)) :: [(g7, .cells #[.int .u32 ip2, .int .u16 po2] 35 (0, 0)), (g6, .cells #[.int .i64 what, .int .u8 q, .slice pa pool.length pc, .int .u16 lo, .int .u16 hi', .int .u16 want, .int .u32 ip, .int .u16 port, .int .i64 kk] 37 (0, 0))])) (by exact HY1.out) ?_
                    intro Y2 hY2
                    try simp only [hg9]
                    clear HY1 hg9
                    have e1 : Y2.cell? ⟨g6, 1, none⟩ = some (.int .u8 q) := hY2.mem.cell 2 rfl 1
                    have e2 : Y2.cell? ⟨g6, 2, none⟩ = some (.slice pa pool.length pc) := hY2.mem.cell 2 rfl 2
                    have e3 : Y2.cell? ⟨g6, 3, none⟩ = some (.int .u16 lo) := hY2.mem.cell 2 rfl 3
                    have e4 : Y2.cell? ⟨g6, 4, none⟩ = some (.int .u16 hi') := hY2.mem.cell 2 rfl 4
                    have e5 : Y2.cell? ⟨g6, 5, none⟩ = some (.int .u16 want) := hY2.mem.cell 2 rfl 5
                    have D2 := C2.out Y2 _ _ hY2
                    clear C2 x1 x2 x3 x4 x5
                    go_wp2_with fail
                    refine D2.mono ?_
                    rintro e Y3 ⟨rfl, hY3⟩
                    clear D2 hY2
                    obtain ⟨g10, hg10⟩ : ∃ g, Y3.heap.size = g := ⟨_, rfl⟩
                    have HY3 : Hid (Two PS W pp pm (aft xs q (some (ip4, k4))) (aft xs q (some (ip4, k4))) (Y3.alloc (.cells #[.int .u32 ip4, .int .u16 k4] 35)) ((g10, .cells #[.int .u32 ip4, .int .u16 k4] 35 (0, 0)) :: (g9, .cells #[.int .u32 ip4, .int .u16 k4] 35 (0, 0)) :: [(g7, .cells #[.int .u32 ip2, .int .u16 po2] 35 (0, 0)), (g6, .cells #[.int .i64 what, .int .u8 q, .slice pa pool.length pc, .int .u16 lo, .int .u16 hi', .int .u16 want, .int .u32 ip, .int .u16 port, .int .i64 kk] 37 (0, 0))])) := hY3.push g10 _ hg10.symm
                    clear hY3
                    go_upto_region 24 with fail
                    refine wp_letter (fun V => Two PS W pp pm (aft xs q (some (ip4, k4))) (aft xs q (some (ip4, k4))) V ((g10, .cells #[.int .u32 ip4, .int .u16 k4] 35 (0, 0)) :: (g9, .cells #[.int .u32 ip4, .int .u16 k4] 35 (0, 0)) :: [(g7, .cells #[.int .u32 ip2, .int .u16 po2] 35 (0, 0)), (g6, .cells #[.int .i64 what, .int .u8 q, .slice pa pool.length pc, .int .u16 lo, .int .u16 hi', .int .u16 want, .int .u32 ip, .int .u16 port, .int .i64 kk] 37 (0, 0))])) (by exact HY3.out) ?_
                    intro Y4 hY4
                    try simp only [hg10]
                    clear HY3 hg10 e1 e2 e3 e4 e5
                    have a0 : Y4.cell? ⟨g10, 0, none⟩ = some (.int .u32 ip4) := hY4.mem.cell 0 rfl 0
                    have a1 : Y4.cell? ⟨g10, 1, none⟩ = some (.int .u16 k4) := hY4.mem.cell 0 rfl 1
                    have b0 : Y4.cell? ⟨g9, 0, none⟩ = some (.int .u32 ip4) := hY4.mem.cell 1 rfl 0
                    have b1 : Y4.cell? ⟨g9, 1, none⟩ = some (.int .u16 k4) := hY4.mem.cell 1 rfl 1
                    have p1 := pt_eq ip4 k4 ip4 k4
                    simp only [BEq.rfl, Bool.and_self] at p1
                    have HZ : Hid (∃ zs : List Mk, zs.length ≤ i + 1 ∧ (∀ m ∈ zs, MOk m) ∧ Two PS W pp pm zs zs (Y4) [(g7, .cells #[.int .u32 ip2, .int .u16 po2] 35 (0, 0)), (g6, .cells #[.int .i64 what, .int .u8 q, .slice pa pool.length pc, .int .u16 lo, .int .u16 hi', .int .u16 want, .int .u32 ip, .int .u16 port, .int .i64 kk] 37 (0, 0))]) := ⟨_, HAF.out.1, HAF.out.2, hY4.sub.sub⟩
                    clear hY4 HAF
                    go_wp2_with fail
                    go_meet
                    case rel => exact HZ.out
                · have m0 : (what == 0) = false := by simpa using h0
                  by_cases h1 : what = 1
                  · have m1 : (what == 1) = true := by simpa using h1
                    clear h0 h1
                    have hT9 := HT9.out
                    have x1 : wc.cell? ⟨g6, 1, none⟩ = some (.int .u8 q) := hT9.mem.cell 1 rfl 1
                    have x2 : wc.cell? ⟨g6, 2, none⟩ = some (.slice pa pool.length pc) := hT9.mem.cell 1 rfl 2
                    have x3 : wc.cell? ⟨g6, 3, none⟩ = some (.int .u16 lo) := hT9.mem.cell 1 rfl 3
                    have x4 : wc.cell? ⟨g6, 4, none⟩ = some (.int .u16 hi') := hT9.mem.cell 1 rfl 4
                    have x5 : wc.cell? ⟨g6, 5, none⟩ = some (.int .u16 want) := hT9.mem.cell 1 rfl 5
                    have C1 := hT9.ptake HC.out (by omega) (hrow.out wc hT9.mem.below) (by omega) hfew q lo hi' want hok2.1 hlo hhi hwt
                    have C2 : Hid (∀ (V : World) (zs : List Mk) (L : List (Nat × Obj)), Two PS W pp pm zs xs V L → Calls Tryd.prog 12 #[.pointer (some ⟨pm, 0, none⟩), .int .u8 q, .slice pa pool.length pc, .int .u16 lo, .int .u16 hi', .int .u16 want] V fun e Y => e = .returned (tko (tk xs q (frm lo want) (upt hi' want) pool)) ∧ Two PS W pp pm zs (aft xs q (tk xs q (frm lo want) (upt hi' want) pool)) Y L) := fun V zs L hV => hV.rtake (by omega) (hrow.out V hV.mem.below) (by omega) q lo hi' want hlo hhi hwt
                    have haf := aft_ok (want := want) (l := pool) HOK.out hok2.1 hfew hlo.1 hhi.2
                    have HAF : Hid ((aft xs q (tk xs q (frm lo want) (upt hi' want) pool)).length ≤ i + 1 ∧ ∀ m ∈ aft xs q (tk xs q (frm lo want) (upt hi' want) pool), MOk m) := ⟨Nat.le_trans aft_len (by omega), haf⟩
                    clear haf hT9
                    generalize tk xs q (frm lo want) (upt hi' want) pool = R at *
                    cases R with
                    | none =>
                      simp only [tko] at C1 C2
                      go_wp2_with fail
                      refine C1.mono ?_
                      rintro e Y1 ⟨rfl, hY1⟩
                      clear C1
                      obtain ⟨g9, hg9⟩ : ∃ g, Y1.heap.size = g := ⟨_, rfl⟩
                      have HY1 : Hid (Two PS W pp pm (aft xs q (none)) xs (Y1.alloc (.cells #[.int .u32 0, .int .u16 0] 35)) ((g9, .cells #[.int .u32 0, .int .u16 0] 35 (0, 0)) :: [(g7, .cells #[.int .u32 ip2, .int .u16 po2] 35 (0, 0)), (g6, .cells #[.int .i64 what, .int .u8 q, .slice pa pool.length pc, .int .u16 lo, .int .u16 hi', .int .u16 want, .int .u32 ip, .int .u16 port, .int .i64 kk] 37 (0, 0))])) := hY1.push g9 _ hg9.symm
                      clear hY1
                      go_upto_region 23 with fail
                      refine wp_letter (fun V => Two PS W pp pm (aft xs q (none)) xs (V) ((g9, .cells #[.int .u32 0, .int .u16 0] 35 (0, 0)) :: [(g7, .cells #[.int .u32 ip2, .int .u16 po2] 35 (0, 0)), (g6, .cells #[.int .i64 what, .int .u8 q, .slice pa pool.length pc, .int .u16 lo, .int .u16 hi', .int .u16 want, .int .u32 ip, .int .u16 port, .int .i64 kk] 37 (0, 0))])) (by exact HY1.out) ?_
                      intro Y2 hY2
                      try simp only [hg9]
                      clear HY1 hg9
                      have e1 : Y2.cell? ⟨g6, 1, none⟩ = some (.int .u8 q) := hY2.mem.cell 2 rfl 1
                      have e2 : Y2.cell? ⟨g6, 2, none⟩ = some (.slice pa pool.length pc) := hY2.mem.cell 2 rfl 2
                      have e3 : Y2.cell? ⟨g6, 3, none⟩ = some (.int .u16 lo) := hY2.mem.cell 2 rfl 3
                      have e4 : Y2.cell? ⟨g6, 4, none⟩ = some (.int .u16 hi') := hY2.mem.cell 2 rfl 4
                      have e5 : Y2.cell? ⟨g6, 5, none⟩ = some (.int .u16 want) := hY2.mem.cell 2 rfl 5
                      have D2 := C2.out Y2 _ _ hY2
                      clear C2 x1 x2 x3 x4 x5
                      go_wp2_with fail
                      refine D2.mono ?_
                      rintro e Y3 ⟨rfl, hY3⟩
                      clear D2 hY2
                      obtain ⟨g10, hg10⟩ : ∃ g, Y3.heap.size = g := ⟨_, rfl⟩
                      have HY3 : Hid (Two PS W pp pm (aft xs q (none)) (aft xs q (none)) (Y3.alloc (.cells #[.int .u32 0, .int .u16 0] 35)) ((g10, .cells #[.int .u32 0, .int .u16 0] 35 (0, 0)) :: (g9, .cells #[.int .u32 0, .int .u16 0] 35 (0, 0)) :: [(g7, .cells #[.int .u32 ip2, .int .u16 po2] 35 (0, 0)), (g6, .cells #[.int .i64 what, .int .u8 q, .slice pa pool.length pc, .int .u16 lo, .int .u16 hi', .int .u16 want, .int .u32 ip, .int .u16 port, .int .i64 kk] 37 (0, 0))])) := hY3.push g10 _ hg10.symm
                      clear hY3
                      go_upto_region 24 with fail
                      refine wp_letter (fun V => Two PS W pp pm (aft xs q (none)) (aft xs q (none)) V ((g10, .cells #[.int .u32 0, .int .u16 0] 35 (0, 0)) :: (g9, .cells #[.int .u32 0, .int .u16 0] 35 (0, 0)) :: [(g7, .cells #[.int .u32 ip2, .int .u16 po2] 35 (0, 0)), (g6, .cells #[.int .i64 what, .int .u8 q, .slice pa pool.length pc, .int .u16 lo, .int .u16 hi', .int .u16 want, .int .u32 ip, .int .u16 port, .int .i64 kk] 37 (0, 0))])) (by exact HY3.out) ?_
                      intro Y4 hY4
                      try simp only [hg10]
                      clear HY3 hg10 e1 e2 e3 e4 e5
                      have a0 : Y4.cell? ⟨g10, 0, none⟩ = some (.int .u32 0) := hY4.mem.cell 0 rfl 0
                      have a1 : Y4.cell? ⟨g10, 1, none⟩ = some (.int .u16 0) := hY4.mem.cell 0 rfl 1
                      have b0 : Y4.cell? ⟨g9, 0, none⟩ = some (.int .u32 0) := hY4.mem.cell 1 rfl 0
                      have b1 : Y4.cell? ⟨g9, 1, none⟩ = some (.int .u16 0) := hY4.mem.cell 1 rfl 1
                      have p1 := pt_eq 0 0 0 0
                      simp only [BEq.rfl, Bool.and_self] at p1
                      have HZ : Hid (∃ zs : List Mk, zs.length ≤ i + 1 ∧ (∀ m ∈ zs, MOk m) ∧ Two PS W pp pm zs zs (Y4) [(g7, .cells #[.int .u32 ip2, .int .u16 po2] 35 (0, 0)), (g6, .cells #[.int .i64 what, .int .u8 q, .slice pa pool.length pc, .int .u16 lo, .int .u16 hi', .int .u16 want, .int .u32 ip, .int .u16 port, .int .i64 kk] 37 (0, 0))]) := ⟨_, HAF.out.1, HAF.out.2, hY4.sub.sub⟩
                      clear hY4 HAF
                      go_wp2_with fail
                      go_meet
                      case rel => exact HZ.out
                    | some x4 =>
                      obtain ⟨ip4, k4⟩ := x4
                      simp only [tko] at C1 C2
                      go_wp2_with fail
                      refine C1.mono ?_
                      rintro e Y1 ⟨rfl, hY1⟩
                      clear C1
                      obtain ⟨g9, hg9⟩ : ∃ g, Y1.heap.size = g := ⟨_, rfl⟩
                      have HY1 : Hid (Two PS W pp pm (aft xs q (some (ip4, k4))) xs (Y1.alloc (.cells #[.int .u32 ip4, .int .u16 k4] 35)) ((g9, .cells #[.int .u32 ip4, .int .u16 k4] 35 (0, 0)) :: [(g7, .cells #[.int .u32 ip2, .int .u16 po2] 35 (0, 0)), (g6, .cells #[.int .i64 what, .int .u8 q, .slice pa pool.length pc, .int .u16 lo, .int .u16 hi', .int .u16 want, .int .u32 ip, .int .u16 port, .int .i64 kk] 37 (0, 0))])) := hY1.push g9 _ hg9.symm
                      clear hY1
                      go_upto_region 23 with fail
                      refine wp_letter (fun V => Two PS W pp pm (aft xs q (some (ip4, k4))) xs (V) ((g9, .cells #[.int .u32 ip4, .int .u16 k4] 35 (0, 0)) :: [(g7, .cells #[.int .u32 ip2, .int .u16 po2] 35 (0, 0)), (g6, .cells #[.int .i64 what, .int .u8 q, .slice pa pool.length pc, .int .u16 lo, .int .u16 hi', .int .u16 want, .int .u32 ip, .int .u16 port, .int .i64 kk] 37 (0, 0))])) (by exact HY1.out) ?_
                      intro Y2 hY2
                      try simp only [hg9]
                      clear HY1 hg9
                      have e1 : Y2.cell? ⟨g6, 1, none⟩ = some (.int .u8 q) := hY2.mem.cell 2 rfl 1
                      have e2 : Y2.cell? ⟨g6, 2, none⟩ = some (.slice pa pool.length pc) := hY2.mem.cell 2 rfl 2
                      have e3 : Y2.cell? ⟨g6, 3, none⟩ = some (.int .u16 lo) := hY2.mem.cell 2 rfl 3
                      have e4 : Y2.cell? ⟨g6, 4, none⟩ = some (.int .u16 hi') := hY2.mem.cell 2 rfl 4
                      have e5 : Y2.cell? ⟨g6, 5, none⟩ = some (.int .u16 want) := hY2.mem.cell 2 rfl 5
                      have D2 := C2.out Y2 _ _ hY2
                      clear C2 x1 x2 x3 x4 x5
                      go_wp2_with fail
                      refine D2.mono ?_
                      rintro e Y3 ⟨rfl, hY3⟩
                      clear D2 hY2
                      obtain ⟨g10, hg10⟩ : ∃ g, Y3.heap.size = g := ⟨_, rfl⟩
                      have HY3 : Hid (Two PS W pp pm (aft xs q (some (ip4, k4))) (aft xs q (some (ip4, k4))) (Y3.alloc (.cells #[.int .u32 ip4, .int .u16 k4] 35)) ((g10, .cells #[.int .u32 ip4, .int .u16 k4] 35 (0, 0)) :: (g9, .cells #[.int .u32 ip4, .int .u16 k4] 35 (0, 0)) :: [(g7, .cells #[.int .u32 ip2, .int .u16 po2] 35 (0, 0)), (g6, .cells #[.int .i64 what, .int .u8 q, .slice pa pool.length pc, .int .u16 lo, .int .u16 hi', .int .u16 want, .int .u32 ip, .int .u16 port, .int .i64 kk] 37 (0, 0))])) := hY3.push g10 _ hg10.symm
                      clear hY3
                      go_upto_region 24 with fail
                      refine wp_letter (fun V => Two PS W pp pm (aft xs q (some (ip4, k4))) (aft xs q (some (ip4, k4))) V ((g10, .cells #[.int .u32 ip4, .int .u16 k4] 35 (0, 0)) :: (g9, .cells #[.int .u32 ip4, .int .u16 k4] 35 (0, 0)) :: [(g7, .cells #[.int .u32 ip2, .int .u16 po2] 35 (0, 0)), (g6, .cells #[.int .i64 what, .int .u8 q, .slice pa pool.length pc, .int .u16 lo, .int .u16 hi', .int .u16 want, .int .u32 ip, .int .u16 port, .int .i64 kk] 37 (0, 0))])) (by exact HY3.out) ?_
                      intro Y4 hY4
                      try simp only [hg10]
                      clear HY3 hg10 e1 e2 e3 e4 e5
                      have a0 : Y4.cell? ⟨g10, 0, none⟩ = some (.int .u32 ip4) := hY4.mem.cell 0 rfl 0
                      have a1 : Y4.cell? ⟨g10, 1, none⟩ = some (.int .u16 k4) := hY4.mem.cell 0 rfl 1
                      have b0 : Y4.cell? ⟨g9, 0, none⟩ = some (.int .u32 ip4) := hY4.mem.cell 1 rfl 0
                      have b1 : Y4.cell? ⟨g9, 1, none⟩ = some (.int .u16 k4) := hY4.mem.cell 1 rfl 1
                      have p1 := pt_eq ip4 k4 ip4 k4
                      simp only [BEq.rfl, Bool.and_self] at p1
                      have HZ : Hid (∃ zs : List Mk, zs.length ≤ i + 1 ∧ (∀ m ∈ zs, MOk m) ∧ Two PS W pp pm zs zs (Y4) [(g7, .cells #[.int .u32 ip2, .int .u16 po2] 35 (0, 0)), (g6, .cells #[.int .i64 what, .int .u8 q, .slice pa pool.length pc, .int .u16 lo, .int .u16 hi', .int .u16 want, .int .u32 ip, .int .u16 port, .int .i64 kk] 37 (0, 0))]) := ⟨_, HAF.out.1, HAF.out.2, hY4.sub.sub⟩
                      clear hY4 HAF
                      go_wp2_with fail
                      go_meet
                      case rel => exact HZ.out
                  · have m1 : (what == 1) = false := by simpa using h1
                    by_cases h2 : what = 2
                    · have m2 : (what == 2) = true := by simpa using h2
                      clear h0 h1 h2
                      have hT9 := HT9.out
                      have x1 : wc.cell? ⟨g6, 1, none⟩ = some (.int .u8 q) := hT9.mem.cell 1 rfl 1
                      have x2 : wc.cell? ⟨g6, 2, none⟩ = some (.slice pa pool.length pc) := hT9.mem.cell 1 rfl 2
                      have x3 : wc.cell? ⟨g6, 3, none⟩ = some (.int .u16 lo) := hT9.mem.cell 1 rfl 3
                      have x4 : wc.cell? ⟨g6, 4, none⟩ = some (.int .u16 hi') := hT9.mem.cell 1 rfl 4
                      have x5 : wc.cell? ⟨g6, 5, none⟩ = some (.int .u16 want) := hT9.mem.cell 1 rfl 5
                      have C1 := hT9.ptake HC.out (by omega) (hrow.out wc hT9.mem.below) (by omega) hfew q lo hi' want hok2.1 hlo hhi hwt
                      have C2 : Hid (∀ (V : World) (zs : List Mk) (L : List (Nat × Obj)), Two PS W pp pm zs xs V L → Calls Tryd.prog 12 #[.pointer (some ⟨pm, 0, none⟩), .int .u8 q, .slice pa pool.length pc, .int .u16 lo, .int .u16 hi', .int .u16 want] V fun e Y => e = .returned (tko (tk xs q (frm lo want) (upt hi' want) pool)) ∧ Two PS W pp pm zs (aft xs q (tk xs q (frm lo want) (upt hi' want) pool)) Y L) := fun V zs L hV => hV.rtake (by omega) (hrow.out V hV.mem.below) (by omega) q lo hi' want hlo hhi hwt
                      have haf := aft_ok (want := want) (l := pool) HOK.out hok2.1 hfew hlo.1 hhi.2
                      have HAF : Hid ((aft xs q (tk xs q (frm lo want) (upt hi' want) pool)).length ≤ i + 1 ∧ ∀ m ∈ aft xs q (tk xs q (frm lo want) (upt hi' want) pool), MOk m) := ⟨Nat.le_trans aft_len (by omega), haf⟩
                      clear haf hT9
                      generalize tk xs q (frm lo want) (upt hi' want) pool = R at *
                      cases R with
                      | none =>
                        simp only [tko] at C1 C2
                        go_wp2_with fail
                        refine C1.mono ?_
                        rintro e Y1 ⟨rfl, hY1⟩
                        clear C1
                        obtain ⟨g9, hg9⟩ : ∃ g, Y1.heap.size = g := ⟨_, rfl⟩
                        have HY1 : Hid (Two PS W pp pm (aft xs q (none)) xs (Y1.alloc (.cells #[.int .u32 0, .int .u16 0] 35)) ((g9, .cells #[.int .u32 0, .int .u16 0] 35 (0, 0)) :: [(g7, .cells #[.int .u32 ip2, .int .u16 po2] 35 (0, 0)), (g6, .cells #[.int .i64 what, .int .u8 q, .slice pa pool.length pc, .int .u16 lo, .int .u16 hi', .int .u16 want, .int .u32 ip, .int .u16 port, .int .i64 kk] 37 (0, 0))])) := hY1.push g9 _ hg9.symm
                        clear hY1
                        go_upto_region 23 with fail
                        refine wp_letter (fun V => Two PS W pp pm (aft xs q (none)) xs (V) ((g9, .cells #[.int .u32 0, .int .u16 0] 35 (0, 0)) :: [(g7, .cells #[.int .u32 ip2, .int .u16 po2] 35 (0, 0)), (g6, .cells #[.int .i64 what, .int .u8 q, .slice pa pool.length pc, .int .u16 lo, .int .u16 hi', .int .u16 want, .int .u32 ip, .int .u16 port, .int .i64 kk] 37 (0, 0))])) (by exact HY1.out) ?_
                        intro Y2 hY2
                        try simp only [hg9]
                        clear HY1 hg9
                        have e1 : Y2.cell? ⟨g6, 1, none⟩ = some (.int .u8 q) := hY2.mem.cell 2 rfl 1
                        have e2 : Y2.cell? ⟨g6, 2, none⟩ = some (.slice pa pool.length pc) := hY2.mem.cell 2 rfl 2
                        have e3 : Y2.cell? ⟨g6, 3, none⟩ = some (.int .u16 lo) := hY2.mem.cell 2 rfl 3
                        have e4 : Y2.cell? ⟨g6, 4, none⟩ = some (.int .u16 hi') := hY2.mem.cell 2 rfl 4
                        have e5 : Y2.cell? ⟨g6, 5, none⟩ = some (.int .u16 want) := hY2.mem.cell 2 rfl 5
                        have D2 := C2.out Y2 _ _ hY2
                        clear C2 x1 x2 x3 x4 x5
                        go_wp2_with fail
                        refine D2.mono ?_
                        rintro e Y3 ⟨rfl, hY3⟩
                        clear D2 hY2
                        obtain ⟨g10, hg10⟩ : ∃ g, Y3.heap.size = g := ⟨_, rfl⟩
                        have HY3 : Hid (Two PS W pp pm (aft xs q (none)) (aft xs q (none)) (Y3.alloc (.cells #[.int .u32 0, .int .u16 0] 35)) ((g10, .cells #[.int .u32 0, .int .u16 0] 35 (0, 0)) :: (g9, .cells #[.int .u32 0, .int .u16 0] 35 (0, 0)) :: [(g7, .cells #[.int .u32 ip2, .int .u16 po2] 35 (0, 0)), (g6, .cells #[.int .i64 what, .int .u8 q, .slice pa pool.length pc, .int .u16 lo, .int .u16 hi', .int .u16 want, .int .u32 ip, .int .u16 port, .int .i64 kk] 37 (0, 0))])) := hY3.push g10 _ hg10.symm
                        clear hY3
                        go_upto_region 24 with fail
                        refine wp_letter (fun V => Two PS W pp pm (aft xs q (none)) (aft xs q (none)) V ((g10, .cells #[.int .u32 0, .int .u16 0] 35 (0, 0)) :: (g9, .cells #[.int .u32 0, .int .u16 0] 35 (0, 0)) :: [(g7, .cells #[.int .u32 ip2, .int .u16 po2] 35 (0, 0)), (g6, .cells #[.int .i64 what, .int .u8 q, .slice pa pool.length pc, .int .u16 lo, .int .u16 hi', .int .u16 want, .int .u32 ip, .int .u16 port, .int .i64 kk] 37 (0, 0))])) (by exact HY3.out) ?_
                        intro Y4 hY4
                        try simp only [hg10]
                        clear HY3 hg10 e1 e2 e3 e4 e5
                        have a0 : Y4.cell? ⟨g10, 0, none⟩ = some (.int .u32 0) := hY4.mem.cell 0 rfl 0
                        have a1 : Y4.cell? ⟨g10, 1, none⟩ = some (.int .u16 0) := hY4.mem.cell 0 rfl 1
                        have b0 : Y4.cell? ⟨g9, 0, none⟩ = some (.int .u32 0) := hY4.mem.cell 1 rfl 0
                        have b1 : Y4.cell? ⟨g9, 1, none⟩ = some (.int .u16 0) := hY4.mem.cell 1 rfl 1
                        have p1 := pt_eq 0 0 0 0
                        simp only [BEq.rfl, Bool.and_self] at p1
                        have HZ : Hid (∃ zs : List Mk, zs.length ≤ i + 1 ∧ (∀ m ∈ zs, MOk m) ∧ Two PS W pp pm zs zs (Y4) [(g7, .cells #[.int .u32 ip2, .int .u16 po2] 35 (0, 0)), (g6, .cells #[.int .i64 what, .int .u8 q, .slice pa pool.length pc, .int .u16 lo, .int .u16 hi', .int .u16 want, .int .u32 ip, .int .u16 port, .int .i64 kk] 37 (0, 0))]) := ⟨_, HAF.out.1, HAF.out.2, hY4.sub.sub⟩
                        clear hY4 HAF
                        go_wp2_with fail
                        go_meet
                        case rel => exact HZ.out
                      | some x4 =>
                        obtain ⟨ip4, k4⟩ := x4
                        simp only [tko] at C1 C2
                        go_wp2_with fail
                        refine C1.mono ?_
                        rintro e Y1 ⟨rfl, hY1⟩
                        clear C1
                        obtain ⟨g9, hg9⟩ : ∃ g, Y1.heap.size = g := ⟨_, rfl⟩
                        have HY1 : Hid (Two PS W pp pm (aft xs q (some (ip4, k4))) xs (Y1.alloc (.cells #[.int .u32 ip4, .int .u16 k4] 35)) ((g9, .cells #[.int .u32 ip4, .int .u16 k4] 35 (0, 0)) :: [(g7, .cells #[.int .u32 ip2, .int .u16 po2] 35 (0, 0)), (g6, .cells #[.int .i64 what, .int .u8 q, .slice pa pool.length pc, .int .u16 lo, .int .u16 hi', .int .u16 want, .int .u32 ip, .int .u16 port, .int .i64 kk] 37 (0, 0))])) := hY1.push g9 _ hg9.symm
                        clear hY1
                        go_upto_region 23 with fail
                        refine wp_letter (fun V => Two PS W pp pm (aft xs q (some (ip4, k4))) xs (V) ((g9, .cells #[.int .u32 ip4, .int .u16 k4] 35 (0, 0)) :: [(g7, .cells #[.int .u32 ip2, .int .u16 po2] 35 (0, 0)), (g6, .cells #[.int .i64 what, .int .u8 q, .slice pa pool.length pc, .int .u16 lo, .int .u16 hi', .int .u16 want, .int .u32 ip, .int .u16 port, .int .i64 kk] 37 (0, 0))])) (by exact HY1.out) ?_
                        intro Y2 hY2
                        try simp only [hg9]
                        clear HY1 hg9
                        have e1 : Y2.cell? ⟨g6, 1, none⟩ = some (.int .u8 q) := hY2.mem.cell 2 rfl 1
                        have e2 : Y2.cell? ⟨g6, 2, none⟩ = some (.slice pa pool.length pc) := hY2.mem.cell 2 rfl 2
                        have e3 : Y2.cell? ⟨g6, 3, none⟩ = some (.int .u16 lo) := hY2.mem.cell 2 rfl 3
                        have e4 : Y2.cell? ⟨g6, 4, none⟩ = some (.int .u16 hi') := hY2.mem.cell 2 rfl 4
                        have e5 : Y2.cell? ⟨g6, 5, none⟩ = some (.int .u16 want) := hY2.mem.cell 2 rfl 5
                        have D2 := C2.out Y2 _ _ hY2
                        clear C2 x1 x2 x3 x4 x5
                        go_wp2_with fail
                        refine D2.mono ?_
                        rintro e Y3 ⟨rfl, hY3⟩
                        clear D2 hY2
                        obtain ⟨g10, hg10⟩ : ∃ g, Y3.heap.size = g := ⟨_, rfl⟩
                        have HY3 : Hid (Two PS W pp pm (aft xs q (some (ip4, k4))) (aft xs q (some (ip4, k4))) (Y3.alloc (.cells #[.int .u32 ip4, .int .u16 k4] 35)) ((g10, .cells #[.int .u32 ip4, .int .u16 k4] 35 (0, 0)) :: (g9, .cells #[.int .u32 ip4, .int .u16 k4] 35 (0, 0)) :: [(g7, .cells #[.int .u32 ip2, .int .u16 po2] 35 (0, 0)), (g6, .cells #[.int .i64 what, .int .u8 q, .slice pa pool.length pc, .int .u16 lo, .int .u16 hi', .int .u16 want, .int .u32 ip, .int .u16 port, .int .i64 kk] 37 (0, 0))])) := hY3.push g10 _ hg10.symm
                        clear hY3
                        go_upto_region 24 with fail
                        refine wp_letter (fun V => Two PS W pp pm (aft xs q (some (ip4, k4))) (aft xs q (some (ip4, k4))) V ((g10, .cells #[.int .u32 ip4, .int .u16 k4] 35 (0, 0)) :: (g9, .cells #[.int .u32 ip4, .int .u16 k4] 35 (0, 0)) :: [(g7, .cells #[.int .u32 ip2, .int .u16 po2] 35 (0, 0)), (g6, .cells #[.int .i64 what, .int .u8 q, .slice pa pool.length pc, .int .u16 lo, .int .u16 hi', .int .u16 want, .int .u32 ip, .int .u16 port, .int .i64 kk] 37 (0, 0))])) (by exact HY3.out) ?_
                        intro Y4 hY4
                        try simp only [hg10]
                        clear HY3 hg10 e1 e2 e3 e4 e5
                        have a0 : Y4.cell? ⟨g10, 0, none⟩ = some (.int .u32 ip4) := hY4.mem.cell 0 rfl 0
                        have a1 : Y4.cell? ⟨g10, 1, none⟩ = some (.int .u16 k4) := hY4.mem.cell 0 rfl 1
                        have b0 : Y4.cell? ⟨g9, 0, none⟩ = some (.int .u32 ip4) := hY4.mem.cell 1 rfl 0
                        have b1 : Y4.cell? ⟨g9, 1, none⟩ = some (.int .u16 k4) := hY4.mem.cell 1 rfl 1
                        have p1 := pt_eq ip4 k4 ip4 k4
                        simp only [BEq.rfl, Bool.and_self] at p1
                        have HZ : Hid (∃ zs : List Mk, zs.length ≤ i + 1 ∧ (∀ m ∈ zs, MOk m) ∧ Two PS W pp pm zs zs (Y4) [(g7, .cells #[.int .u32 ip2, .int .u16 po2] 35 (0, 0)), (g6, .cells #[.int .i64 what, .int .u8 q, .slice pa pool.length pc, .int .u16 lo, .int .u16 hi', .int .u16 want, .int .u32 ip, .int .u16 port, .int .i64 kk] 37 (0, 0))]) := ⟨_, HAF.out.1, HAF.out.2, hY4.sub.sub⟩
                        clear hY4 HAF
                        go_wp2_with fail
                        go_meet
                        case rel => exact HZ.out
                    · have m2 : (what == 2) = false := by simpa using h2
                      by_cases h3 : what = 3
                      · have m3 : (what == 3) = true := by simpa using h3
                        clear h0 h1 h2 h3
                        have HQ : Hid ((if (q, ip2, po2) ∈ xs then xs else xs ++ [(q, ip2, po2)]).length ≤ i + 1 ∧ ∀ m ∈ (if (q, ip2, po2) ∈ xs then xs else xs ++ [(q, ip2, po2)]), MOk m) := ⟨Nat.le_trans hold_len (by omega), hold_ok HOK.out hok2⟩
                        have P1 : Hid (∀ V, Two PS W pp pm xs xs (V) [(g7, .cells #[.int .u32 ip2, .int .u16 po2] 35 (0, 0)), (g6, .cells #[.int .i64 what, .int .u8 q, .slice pa pool.length pc, .int .u16 lo, .int .u16 hi', .int .u16 want, .int .u32 ip, .int .u16 port, .int .i64 kk] 37 (0, 0))] → Calls Tryd.prog 13 #[.pointer (some ⟨pp, 0, none⟩), .int .u8 q, .agg #[.int .u32 ip2, .int .u16 po2]] V fun e Y => e = .returned (.int .i64 (if (q, ip2, po2) ∈ xs then 121 else 0)) ∧ Two PS W pp pm (if (q, ip2, po2) ∈ xs then xs else xs ++ [(q, ip2, po2)]) xs (Y) [(g7, .cells #[.int .u32 ip2, .int .u16 po2] 35 (0, 0)), (g6, .cells #[.int .i64 what, .int .u8 q, .slice pa pool.length pc, .int .u16 lo, .int .u16 hi', .int .u16 want, .int .u32 ip, .int .u16 port, .int .i64 kk] 37 (0, 0))]) := fun V hV => hV.phold HC.out (by omega) q ip2 po2 hok2
                        have P2 : Hid (∀ V, Two PS W pp pm xs (if (q, ip2, po2) ∈ xs then xs else xs ++ [(q, ip2, po2)]) (V) [(g7, .cells #[.int .u32 ip2, .int .u16 po2] 35 (0, 0)), (g6, .cells #[.int .i64 what, .int .u8 q, .slice pa pool.length pc, .int .u16 lo, .int .u16 hi', .int .u16 want, .int .u32 ip, .int .u16 port, .int .i64 kk] 37 (0, 0))] → Calls Tryd.prog 13 #[.pointer (some ⟨pp, 0, none⟩), .int .u8 q, .agg #[.int .u32 ip2, .int .u16 po2]] V fun e Y => e = .returned (.int .i64 (if (q, ip2, po2) ∈ xs then 121 else 0)) ∧ Two PS W pp pm (if (q, ip2, po2) ∈ xs then xs else xs ++ [(q, ip2, po2)]) (if (q, ip2, po2) ∈ xs then xs else xs ++ [(q, ip2, po2)]) (Y) [(g7, .cells #[.int .u32 ip2, .int .u16 po2] 35 (0, 0)), (g6, .cells #[.int .i64 what, .int .u8 q, .slice pa pool.length pc, .int .u16 lo, .int .u16 hi', .int .u16 want, .int .u32 ip, .int .u16 port, .int .i64 kk] 37 (0, 0))]) := fun V hV => hV.phold HC.out (by omega) q ip2 po2 hok2
                        have R1 : Hid (∀ V, Two PS W pp pm xs xs (V) [(g7, .cells #[.int .u32 ip2, .int .u16 po2] 35 (0, 0)), (g6, .cells #[.int .i64 what, .int .u8 q, .slice pa pool.length pc, .int .u16 lo, .int .u16 hi', .int .u16 want, .int .u32 ip, .int .u16 port, .int .i64 kk] 37 (0, 0))] → Calls Tryd.prog 14 #[.pointer (some ⟨pm, 0, none⟩), .int .u8 q, .agg #[.int .u32 ip2, .int .u16 po2]] V fun e Y => e = .returned (.int .i64 (if (q, ip2, po2) ∈ xs then 121 else 0)) ∧ Two PS W pp pm xs (if (q, ip2, po2) ∈ xs then xs else xs ++ [(q, ip2, po2)]) (Y) [(g7, .cells #[.int .u32 ip2, .int .u16 po2] 35 (0, 0)), (g6, .cells #[.int .i64 what, .int .u8 q, .slice pa pool.length pc, .int .u16 lo, .int .u16 hi', .int .u16 want, .int .u32 ip, .int .u16 port, .int .i64 kk] 37 (0, 0))]) := fun V hV => hV.rhold (by omega) q ip2 po2
                        have R2 : Hid (∀ V, Two PS W pp pm (if (q, ip2, po2) ∈ xs then xs else xs ++ [(q, ip2, po2)]) xs (V) [(g7, .cells #[.int .u32 ip2, .int .u16 po2] 35 (0, 0)), (g6, .cells #[.int .i64 what, .int .u8 q, .slice pa pool.length pc, .int .u16 lo, .int .u16 hi', .int .u16 want, .int .u32 ip, .int .u16 port, .int .i64 kk] 37 (0, 0))] → Calls Tryd.prog 14 #[.pointer (some ⟨pm, 0, none⟩), .int .u8 q, .agg #[.int .u32 ip2, .int .u16 po2]] V fun e Y => e = .returned (.int .i64 (if (q, ip2, po2) ∈ xs then 121 else 0)) ∧ Two PS W pp pm (if (q, ip2, po2) ∈ xs then xs else xs ++ [(q, ip2, po2)]) (if (q, ip2, po2) ∈ xs then xs else xs ++ [(q, ip2, po2)]) (Y) [(g7, .cells #[.int .u32 ip2, .int .u16 po2] 35 (0, 0)), (g6, .cells #[.int .i64 what, .int .u8 q, .slice pa pool.length pc, .int .u16 lo, .int .u16 hi', .int .u16 want, .int .u32 ip, .int .u16 port, .int .i64 kk] 37 (0, 0))]) := fun V hV => hV.rhold (by omega) q ip2 po2
                        generalize (if (q, ip2, po2) ∈ xs then xs else xs ++ [(q, ip2, po2)]) = zs at *
                        obtain ⟨rv, hrv⟩ : ∃ rv : Int, (if (q, ip2, po2) ∈ xs then 121 else 0) = rv := ⟨_, rfl⟩
                        simp only [hrv] at P1 P2 R1 R2
                        have n0 : (rv != rv) = false := by simp
                        clear hrv
                        go_upto_region 27 with fail
                        refine wp_region_held_drew (S := fun V => V.cell? ⟨g6, 1, none⟩ = some (.int .u8 q) ∧ V.cell? ⟨g7, 0, none⟩ = some (.int .u32 ip2) ∧ V.cell? ⟨g7, 1, none⟩ = some (.int .u16 po2)) (by kernel_rfl) (⟨HT9.out.mem.cell 1 rfl 1, HT9.out.mem.cell 0 rfl 0, HT9.out.mem.cell 0 rfl 1⟩) (fun hHeld => ?_)
                        have hT0 := HT9.out.after ((Below.refl wc.heap.size wc).drew)
                        refine wpAnyH_take (i := 0) (v := ?_) rfl (by kernel_rfl) (by kernel_rfl) (by kernel_rfl) (fun _ _ _ h => h) (Or.inl ⟨by rfl, ?hbqy0⟩) (by assumption) ?hbqr0
                        case hbqy0 =>
                          intro w hSw
                          (try dsimp only at hSw)
                          go_simp
                          all_goals with_reducible rfl
                        try simp only [List.getElem_toArray, List.getElem_cons_zero, List.getElem_cons_succ, Act.put, List.setIfInBounds_toArray, List.set_cons_zero, List.set_cons_succ]
                        refine wpAnyH_take (i := 1) (v := ?_) rfl (by kernel_rfl) (by kernel_rfl) (by kernel_rfl) (fun _ _ _ h => h) (Or.inl ⟨by rfl, ?hbqy1⟩) (by assumption) ?hbqr1
                        case hbqy1 =>
                          intro w hSw
                          (try dsimp only at hSw)
                          go_simp
                          all_goals with_reducible rfl
                        try simp only [List.getElem_toArray, List.getElem_cons_zero, List.getElem_cons_succ, Act.put, List.setIfInBounds_toArray, List.set_cons_zero, List.set_cons_succ]
                        refine wpAnyH_take (i := 2) (v := ?_) rfl (by kernel_rfl) (by kernel_rfl) (by kernel_rfl) (fun _ _ _ h => h) (Or.inl ⟨by rfl, ?hbqy2⟩) (by assumption) ?hbqr2
                        case hbqy2 =>
                          intro w hSw
                          (try dsimp only at hSw)
                          go_simp
                          all_goals with_reducible rfl
                        try simp only [List.getElem_toArray, List.getElem_cons_zero, List.getElem_cons_succ, Act.put, List.setIfInBounds_toArray, List.set_cons_zero, List.set_cons_succ]
                        refine wpAnyH_take (i := 3) (v := ?_) rfl (by kernel_rfl) (by kernel_rfl) (by kernel_rfl) (fun _ _ _ h => h) (Or.inl ⟨by rfl, ?hbqy3⟩) (by assumption) ?hbqr3
                        case hbqy3 =>
                          intro w hSw
                          (try dsimp only at hSw)
                          go_simp
                          all_goals with_reducible rfl
                        try simp only [List.getElem_toArray, List.getElem_cons_zero, List.getElem_cons_succ, Act.put, List.setIfInBounds_toArray, List.set_cons_zero, List.set_cons_succ]
                        refine wpAnyH_take (i := 5) (v := ?_) rfl (by kernel_rfl) (by kernel_rfl) (by kernel_rfl) (fun _ _ _ h => h) (Or.inl ⟨by rfl, ?hbqy5⟩) (by assumption) ?hbqr5
                        case hbqy5 =>
                          intro w hSw
                          (try dsimp only at hSw)
                          go_simp
                          all_goals with_reducible rfl
                        try simp only [List.getElem_toArray, List.getElem_cons_zero, List.getElem_cons_succ, Act.put, List.setIfInBounds_toArray, List.set_cons_zero, List.set_cons_succ]
                        refine wpAnyH_take (i := 6) (v := ?_) rfl (by kernel_rfl) (by kernel_rfl) (by kernel_rfl) (fun _ _ _ h => h) (Or.inl ⟨by rfl, ?hbqy6⟩) (by assumption) ?hbqr6
                        case hbqy6 =>
                          intro w hSw
                          (try dsimp only at hSw)
                          go_simp
                          all_goals with_reducible rfl
                        try simp only [List.getElem_toArray, List.getElem_cons_zero, List.getElem_cons_succ, Act.put, List.setIfInBounds_toArray, List.set_cons_zero, List.set_cons_succ]
                        refine wpAnyH_take (i := 7) (v := ?_) rfl (by kernel_rfl) (by kernel_rfl) (by kernel_rfl) (fun _ _ _ h => h) (Or.inl ⟨by rfl, ?hbqy7⟩) (by assumption) ?hbqr7
                        case hbqy7 =>
                          intro w hSw
                          (try dsimp only at hSw)
                          go_simp
                          all_goals with_reducible rfl
                        try simp only [List.getElem_toArray, List.getElem_cons_zero, List.getElem_cons_succ, Act.put, List.setIfInBounds_toArray, List.set_cons_zero, List.set_cons_succ]
                        refine wpAnyH_take (i := 8) (v := ?_) rfl (by kernel_rfl) (by kernel_rfl) (by kernel_rfl) (fun _ _ _ h => h) (Or.inl ⟨by rfl, ?hbqy8⟩) (by assumption) ?hbqr8
                        case hbqy8 =>
                          intro w hSw
                          (try dsimp only at hSw)
                          go_simp
                          all_goals with_reducible rfl
                        try simp only [List.getElem_toArray, List.getElem_cons_zero, List.getElem_cons_succ, Act.put, List.setIfInBounds_toArray, List.set_cons_zero, List.set_cons_succ]
                        refine wpAnyH_ready (rs := [4]) (by kernel_rfl) (by simp) ?_
                        refine AllReadyH.cons rfl (fun KK hK => ?_) AllReadyH.nil
                        go_simp
                        with_reducible refine (P1.out _ hT0).mono ?_
                        rintro e Y1 ⟨rfl, hT1⟩
                        try go_wp2_with fail
                        refine hK.out _ _ (⟨hT1.mem.cell 1 rfl 1, hT1.mem.cell 0 rfl 0, hT1.mem.cell 0 rfl 1⟩) (fun hHeld => ?_)
                        clear hK KK
                        try simp only [List.getElem_toArray, List.getElem_cons_zero, List.getElem_cons_succ, Act.put, List.setIfInBounds_toArray, List.set_cons_zero, List.set_cons_succ]
                        refine wpAnyH_ready (rs := [9]) (by kernel_rfl) (by simp) ?_
                        refine AllReadyH.cons rfl (fun KK hK => ?_) AllReadyH.nil
                        go_simp
                        with_reducible refine (R2.out _ hT1).mono ?_
                        rintro e Y2 ⟨rfl, hT2⟩
                        try go_wp2_with fail
                        refine hK.out _ _ (⟨hT2.mem.cell 1 rfl 1, hT2.mem.cell 0 rfl 0, hT2.mem.cell 0 rfl 1⟩) (fun hHeld => ?_)
                        clear hK KK
                        try simp only [List.getElem_toArray, List.getElem_cons_zero, List.getElem_cons_succ, Act.put, List.setIfInBounds_toArray, List.set_cons_zero, List.set_cons_succ]
                        refine wpAnyH_ready (rs := [10]) (by kernel_rfl) (by simp) ?_
                        refine AllReadyH.cons rfl (fun KK hK => ?_) AllReadyH.nil
                        go_simp
                        refine hK.out _ _ (⟨hT2.mem.cell 1 rfl 1, hT2.mem.cell 0 rfl 0, hT2.mem.cell 0 rfl 1⟩) (fun hHeld => ?_)
                        clear hK KK
                        try simp only [List.getElem_toArray, List.getElem_cons_zero, List.getElem_cons_succ, Act.put, List.setIfInBounds_toArray, List.set_cons_zero, List.set_cons_succ]
                        refine wpAnyH_done (by kernel_rfl) ?_ _
                        have HZ : Hid (∃ zs : List Mk, zs.length ≤ i + 1 ∧ (∀ m ∈ zs, MOk m) ∧ Two PS W pp pm zs zs (Y2) [(g7, .cells #[.int .u32 ip2, .int .u16 po2] 35 (0, 0)), (g6, .cells #[.int .i64 what, .int .u8 q, .slice pa pool.length pc, .int .u16 lo, .int .u16 hi', .int .u16 want, .int .u32 ip, .int .u16 port, .int .i64 kk] 37 (0, 0))]) := ⟨zs, HQ.out.1, HQ.out.2, hT2⟩
                        clear hT0 hT1 hT2 P1 P2 R1 R2
                        go_wp2_with fail
                        go_meet
                        case rel => exact HZ.out
                      · have m3 : (what == 3) = false := by simpa using h3
                        clear h0 h1 h2 h3
                        have HQ : Hid ((xs.erase (q, ip2, po2)).length ≤ i + 1 ∧ ∀ m ∈ (xs.erase (q, ip2, po2)), MOk m) := ⟨Nat.le_trans List.length_erase_le (by omega), (fun m hm => HOK.out m (List.mem_of_mem_erase hm))⟩
                        have P1 : Hid (∀ V, Two PS W pp pm xs xs (V) [(g7, .cells #[.int .u32 ip2, .int .u16 po2] 35 (0, 0)), (g6, .cells #[.int .i64 what, .int .u8 q, .slice pa pool.length pc, .int .u16 lo, .int .u16 hi', .int .u16 want, .int .u32 ip, .int .u16 port, .int .i64 kk] 37 (0, 0))] → Calls Tryd.prog 15 #[.pointer (some ⟨pp, 0, none⟩), .int .u8 q, .agg #[.int .u32 ip2, .int .u16 po2]] V fun e Y => e = .returned (.int .i64 (if (q, ip2, po2) ∈ xs then 0 else 121)) ∧ Two PS W pp pm (xs.erase (q, ip2, po2)) xs (Y) [(g7, .cells #[.int .u32 ip2, .int .u16 po2] 35 (0, 0)), (g6, .cells #[.int .i64 what, .int .u8 q, .slice pa pool.length pc, .int .u16 lo, .int .u16 hi', .int .u16 want, .int .u32 ip, .int .u16 port, .int .i64 kk] 37 (0, 0))]) := fun V hV => hV.pfree HC.out (by omega) q ip2 po2 hok2
                        have P2 : Hid (∀ V, Two PS W pp pm xs (xs.erase (q, ip2, po2)) (V) [(g7, .cells #[.int .u32 ip2, .int .u16 po2] 35 (0, 0)), (g6, .cells #[.int .i64 what, .int .u8 q, .slice pa pool.length pc, .int .u16 lo, .int .u16 hi', .int .u16 want, .int .u32 ip, .int .u16 port, .int .i64 kk] 37 (0, 0))] → Calls Tryd.prog 15 #[.pointer (some ⟨pp, 0, none⟩), .int .u8 q, .agg #[.int .u32 ip2, .int .u16 po2]] V fun e Y => e = .returned (.int .i64 (if (q, ip2, po2) ∈ xs then 0 else 121)) ∧ Two PS W pp pm (xs.erase (q, ip2, po2)) (xs.erase (q, ip2, po2)) (Y) [(g7, .cells #[.int .u32 ip2, .int .u16 po2] 35 (0, 0)), (g6, .cells #[.int .i64 what, .int .u8 q, .slice pa pool.length pc, .int .u16 lo, .int .u16 hi', .int .u16 want, .int .u32 ip, .int .u16 port, .int .i64 kk] 37 (0, 0))]) := fun V hV => hV.pfree HC.out (by omega) q ip2 po2 hok2
                        have R1 : Hid (∀ V, Two PS W pp pm xs xs (V) [(g7, .cells #[.int .u32 ip2, .int .u16 po2] 35 (0, 0)), (g6, .cells #[.int .i64 what, .int .u8 q, .slice pa pool.length pc, .int .u16 lo, .int .u16 hi', .int .u16 want, .int .u32 ip, .int .u16 port, .int .i64 kk] 37 (0, 0))] → Calls Tryd.prog 16 #[.pointer (some ⟨pm, 0, none⟩), .int .u8 q, .agg #[.int .u32 ip2, .int .u16 po2]] V fun e Y => e = .returned (.int .i64 (if (q, ip2, po2) ∈ xs then 0 else 121)) ∧ Two PS W pp pm xs (xs.erase (q, ip2, po2)) (Y) [(g7, .cells #[.int .u32 ip2, .int .u16 po2] 35 (0, 0)), (g6, .cells #[.int .i64 what, .int .u8 q, .slice pa pool.length pc, .int .u16 lo, .int .u16 hi', .int .u16 want, .int .u32 ip, .int .u16 port, .int .i64 kk] 37 (0, 0))]) := fun V hV => hV.rfree (by omega) q ip2 po2
                        have R2 : Hid (∀ V, Two PS W pp pm (xs.erase (q, ip2, po2)) xs (V) [(g7, .cells #[.int .u32 ip2, .int .u16 po2] 35 (0, 0)), (g6, .cells #[.int .i64 what, .int .u8 q, .slice pa pool.length pc, .int .u16 lo, .int .u16 hi', .int .u16 want, .int .u32 ip, .int .u16 port, .int .i64 kk] 37 (0, 0))] → Calls Tryd.prog 16 #[.pointer (some ⟨pm, 0, none⟩), .int .u8 q, .agg #[.int .u32 ip2, .int .u16 po2]] V fun e Y => e = .returned (.int .i64 (if (q, ip2, po2) ∈ xs then 0 else 121)) ∧ Two PS W pp pm (xs.erase (q, ip2, po2)) (xs.erase (q, ip2, po2)) (Y) [(g7, .cells #[.int .u32 ip2, .int .u16 po2] 35 (0, 0)), (g6, .cells #[.int .i64 what, .int .u8 q, .slice pa pool.length pc, .int .u16 lo, .int .u16 hi', .int .u16 want, .int .u32 ip, .int .u16 port, .int .i64 kk] 37 (0, 0))]) := fun V hV => hV.rfree (by omega) q ip2 po2
                        generalize (xs.erase (q, ip2, po2)) = zs at *
                        obtain ⟨rv, hrv⟩ : ∃ rv : Int, (if (q, ip2, po2) ∈ xs then 0 else 121) = rv := ⟨_, rfl⟩
                        simp only [hrv] at P1 P2 R1 R2
                        have n0 : (rv != rv) = false := by simp
                        clear hrv
                        go_upto_region 17 with fail
                        refine wp_region_held_drew (S := fun V => V.cell? ⟨g6, 1, none⟩ = some (.int .u8 q) ∧ V.cell? ⟨g7, 0, none⟩ = some (.int .u32 ip2) ∧ V.cell? ⟨g7, 1, none⟩ = some (.int .u16 po2)) (by kernel_rfl) (⟨HT9.out.mem.cell 1 rfl 1, HT9.out.mem.cell 0 rfl 0, HT9.out.mem.cell 0 rfl 1⟩) (fun hHeld => ?_)
                        have hT0 := HT9.out.after ((Below.refl wc.heap.size wc).drew)
                        refine wpAnyH_take (i := 0) (v := ?_) rfl (by kernel_rfl) (by kernel_rfl) (by kernel_rfl) (fun _ _ _ h => h) (Or.inl ⟨by rfl, ?fbqy0⟩) (by assumption) ?fbqr0
                        case fbqy0 =>
                          intro w hSw
                          (try dsimp only at hSw)
                          go_simp
                          all_goals with_reducible rfl
                        try simp only [List.getElem_toArray, List.getElem_cons_zero, List.getElem_cons_succ, Act.put, List.setIfInBounds_toArray, List.set_cons_zero, List.set_cons_succ]
                        refine wpAnyH_take (i := 1) (v := ?_) rfl (by kernel_rfl) (by kernel_rfl) (by kernel_rfl) (fun _ _ _ h => h) (Or.inl ⟨by rfl, ?fbqy1⟩) (by assumption) ?fbqr1
                        case fbqy1 =>
                          intro w hSw
                          (try dsimp only at hSw)
                          go_simp
                          all_goals with_reducible rfl
                        try simp only [List.getElem_toArray, List.getElem_cons_zero, List.getElem_cons_succ, Act.put, List.setIfInBounds_toArray, List.set_cons_zero, List.set_cons_succ]
                        refine wpAnyH_take (i := 2) (v := ?_) rfl (by kernel_rfl) (by kernel_rfl) (by kernel_rfl) (fun _ _ _ h => h) (Or.inl ⟨by rfl, ?fbqy2⟩) (by assumption) ?fbqr2
                        case fbqy2 =>
                          intro w hSw
                          (try dsimp only at hSw)
                          go_simp
                          all_goals with_reducible rfl
                        try simp only [List.getElem_toArray, List.getElem_cons_zero, List.getElem_cons_succ, Act.put, List.setIfInBounds_toArray, List.set_cons_zero, List.set_cons_succ]
                        refine wpAnyH_take (i := 3) (v := ?_) rfl (by kernel_rfl) (by kernel_rfl) (by kernel_rfl) (fun _ _ _ h => h) (Or.inl ⟨by rfl, ?fbqy3⟩) (by assumption) ?fbqr3
                        case fbqy3 =>
                          intro w hSw
                          (try dsimp only at hSw)
                          go_simp
                          all_goals with_reducible rfl
                        try simp only [List.getElem_toArray, List.getElem_cons_zero, List.getElem_cons_succ, Act.put, List.setIfInBounds_toArray, List.set_cons_zero, List.set_cons_succ]
                        refine wpAnyH_take (i := 5) (v := ?_) rfl (by kernel_rfl) (by kernel_rfl) (by kernel_rfl) (fun _ _ _ h => h) (Or.inl ⟨by rfl, ?fbqy5⟩) (by assumption) ?fbqr5
                        case fbqy5 =>
                          intro w hSw
                          (try dsimp only at hSw)
                          go_simp
                          all_goals with_reducible rfl
                        try simp only [List.getElem_toArray, List.getElem_cons_zero, List.getElem_cons_succ, Act.put, List.setIfInBounds_toArray, List.set_cons_zero, List.set_cons_succ]
                        refine wpAnyH_take (i := 6) (v := ?_) rfl (by kernel_rfl) (by kernel_rfl) (by kernel_rfl) (fun _ _ _ h => h) (Or.inl ⟨by rfl, ?fbqy6⟩) (by assumption) ?fbqr6
                        case fbqy6 =>
                          intro w hSw
                          (try dsimp only at hSw)
                          go_simp
                          all_goals with_reducible rfl
                        try simp only [List.getElem_toArray, List.getElem_cons_zero, List.getElem_cons_succ, Act.put, List.setIfInBounds_toArray, List.set_cons_zero, List.set_cons_succ]
                        refine wpAnyH_take (i := 7) (v := ?_) rfl (by kernel_rfl) (by kernel_rfl) (by kernel_rfl) (fun _ _ _ h => h) (Or.inl ⟨by rfl, ?fbqy7⟩) (by assumption) ?fbqr7
                        case fbqy7 =>
                          intro w hSw
                          (try dsimp only at hSw)
                          go_simp
                          all_goals with_reducible rfl
                        try simp only [List.getElem_toArray, List.getElem_cons_zero, List.getElem_cons_succ, Act.put, List.setIfInBounds_toArray, List.set_cons_zero, List.set_cons_succ]
                        refine wpAnyH_take (i := 8) (v := ?_) rfl (by kernel_rfl) (by kernel_rfl) (by kernel_rfl) (fun _ _ _ h => h) (Or.inl ⟨by rfl, ?fbqy8⟩) (by assumption) ?fbqr8
                        case fbqy8 =>
                          intro w hSw
                          (try dsimp only at hSw)
                          go_simp
                          all_goals with_reducible rfl
                        try simp only [List.getElem_toArray, List.getElem_cons_zero, List.getElem_cons_succ, Act.put, List.setIfInBounds_toArray, List.set_cons_zero, List.set_cons_succ]
                        refine wpAnyH_ready (rs := [4]) (by kernel_rfl) (by simp) ?_
                        refine AllReadyH.cons rfl (fun KK hK => ?_) AllReadyH.nil
                        go_simp
                        with_reducible refine (P1.out _ hT0).mono ?_
                        rintro e Y1 ⟨rfl, hT1⟩
                        try go_wp2_with fail
                        refine hK.out _ _ (⟨hT1.mem.cell 1 rfl 1, hT1.mem.cell 0 rfl 0, hT1.mem.cell 0 rfl 1⟩) (fun hHeld => ?_)
                        clear hK KK
                        try simp only [List.getElem_toArray, List.getElem_cons_zero, List.getElem_cons_succ, Act.put, List.setIfInBounds_toArray, List.set_cons_zero, List.set_cons_succ]
                        refine wpAnyH_ready (rs := [9]) (by kernel_rfl) (by simp) ?_
                        refine AllReadyH.cons rfl (fun KK hK => ?_) AllReadyH.nil
                        go_simp
                        with_reducible refine (R2.out _ hT1).mono ?_
                        rintro e Y2 ⟨rfl, hT2⟩
                        try go_wp2_with fail
                        refine hK.out _ _ (⟨hT2.mem.cell 1 rfl 1, hT2.mem.cell 0 rfl 0, hT2.mem.cell 0 rfl 1⟩) (fun hHeld => ?_)
                        clear hK KK
                        try simp only [List.getElem_toArray, List.getElem_cons_zero, List.getElem_cons_succ, Act.put, List.setIfInBounds_toArray, List.set_cons_zero, List.set_cons_succ]
                        refine wpAnyH_ready (rs := [10]) (by kernel_rfl) (by simp) ?_
                        refine AllReadyH.cons rfl (fun KK hK => ?_) AllReadyH.nil
                        go_simp
                        refine hK.out _ _ (⟨hT2.mem.cell 1 rfl 1, hT2.mem.cell 0 rfl 0, hT2.mem.cell 0 rfl 1⟩) (fun hHeld => ?_)
                        clear hK KK
                        try simp only [List.getElem_toArray, List.getElem_cons_zero, List.getElem_cons_succ, Act.put, List.setIfInBounds_toArray, List.set_cons_zero, List.set_cons_succ]
                        refine wpAnyH_done (by kernel_rfl) ?_ _
                        have HZ : Hid (∃ zs : List Mk, zs.length ≤ i + 1 ∧ (∀ m ∈ zs, MOk m) ∧ Two PS W pp pm zs zs (Y2) [(g7, .cells #[.int .u32 ip2, .int .u16 po2] 35 (0, 0)), (g6, .cells #[.int .i64 what, .int .u8 q, .slice pa pool.length pc, .int .u16 lo, .int .u16 hi', .int .u16 want, .int .u32 ip, .int .u16 port, .int .i64 kk] 37 (0, 0))]) := ⟨zs, HQ.out.1, HQ.out.2, hT2⟩
                        clear hT0 hT1 hT2 P1 P2 R1 R2
                        go_wp2_with fail
                        go_meet
                        case rel => exact HZ.out
              case rest => as_aux_lemma =>
                obtain ⟨zs, hzl, hzo, hTz⟩ := hcut
                obtain ⟨ve, cpe, hre⟩ := hTz.row
                obtain ⟨ae, ce, rfl, -, -, -⟩ := mark_at hre
                have HQ : Hid (zs.length ≤ i + 1 ∧ ∀ m ∈ zs, MOk m) := ⟨hzl, hzo⟩
                have hT0 := hTz.after ((Below.refl wc.heap.size wc).drew)
                have cp0 : wc.drew.cell? ⟨pm, 0, none⟩ = some (.slice ae zs.length ce) := cpe
                have n1 : ((zs.length : Int) != (zs.length : Int)) = false := by simp
                have PC1 : Hid (∀ V, Two PS W pp pm zs zs (V) [(g7, .cells #[.int .u32 ip2, .int .u16 po2] 35 (0, 0)), (g6, .cells #[.int .i64 what, .int .u8 q, .slice pa pool.length pc, .int .u16 lo, .int .u16 hi', .int .u16 want, .int .u32 ip, .int .u16 port, .int .i64 kk] 37 (0, 0))] → Calls Tryd.prog 17 #[.pointer (some ⟨pp, 0, none⟩)] V fun e Y => e = .returned (.int .i64 zs.length) ∧ Two PS W pp pm zs zs (Y) [(g7, .cells #[.int .u32 ip2, .int .u16 po2] 35 (0, 0)), (g6, .cells #[.int .i64 what, .int .u8 q, .slice pa pool.length pc, .int .u16 lo, .int .u16 hi', .int .u16 want, .int .u32 ip, .int .u16 port, .int .i64 kk] 37 (0, 0))] ∧ Y.cell? ⟨pm, 0, none⟩ = V.cell? ⟨pm, 0, none⟩) := fun V hV => hV.pcount HC.out (by omega)
                have PC2 : Hid (∀ V, Two PS W pp pm zs zs (V) [(g7, .cells #[.int .u32 ip2, .int .u16 po2] 35 (0, 0)), (g6, .cells #[.int .i64 what, .int .u8 q, .slice pa pool.length pc, .int .u16 lo, .int .u16 hi', .int .u16 want, .int .u32 ip, .int .u16 port, .int .i64 kk] 37 (0, 0))] → Calls Tryd.prog 18 #[.pointer (some ⟨pp, 0, none⟩), .int .u8 q, .agg #[.int .u32 ip2, .int .u16 po2]] V fun e Y => e = .returned (.bool (decide ((q, ip2, po2) ∈ zs))) ∧ Two PS W pp pm zs zs (Y) [(g7, .cells #[.int .u32 ip2, .int .u16 po2] 35 (0, 0)), (g6, .cells #[.int .i64 what, .int .u8 q, .slice pa pool.length pc, .int .u16 lo, .int .u16 hi', .int .u16 want, .int .u32 ip, .int .u16 port, .int .i64 kk] 37 (0, 0))] ∧ Y.cell? ⟨pm, 0, none⟩ = V.cell? ⟨pm, 0, none⟩) := fun V hV => hV.pheld HC.out (by omega) q ip2 po2 hok2
                have PC3 : Hid (∀ V, Two PS W pp pm zs zs (V) [(g7, .cells #[.int .u32 ip2, .int .u16 po2] 35 (0, 0)), (g6, .cells #[.int .i64 what, .int .u8 q, .slice pa pool.length pc, .int .u16 lo, .int .u16 hi', .int .u16 want, .int .u32 ip, .int .u16 port, .int .i64 kk] 37 (0, 0))] → Calls Tryd.prog 19 #[.pointer (some ⟨pm, 0, none⟩), .int .u8 q, .agg #[.int .u32 ip2, .int .u16 po2]] V fun e Y => e = .returned (.bool (decide ((q, ip2, po2) ∈ zs))) ∧ Two PS W pp pm zs zs (Y) [(g7, .cells #[.int .u32 ip2, .int .u16 po2] 35 (0, 0)), (g6, .cells #[.int .i64 what, .int .u8 q, .slice pa pool.length pc, .int .u16 lo, .int .u16 hi', .int .u16 want, .int .u32 ip, .int .u16 port, .int .i64 kk] 37 (0, 0))] ∧ Y.cell? ⟨pm, 0, none⟩ = V.cell? ⟨pm, 0, none⟩) := fun V hV => hV.rhas q ip2 po2
                obtain ⟨hb, hhb⟩ : ∃ b : Bool, decide ((q, ip2, po2) ∈ zs) = b := ⟨_, rfl⟩
                rw [hhb] at PC2 PC3
                have n2 : (hb != hb) = false := by simp
                clear hTz hre hhb hzl hzo
                go_upto_region 29 with fail
                refine wp_region_held_drew (S := fun V => V.cell? ⟨g6, 1, none⟩ = some (.int .u8 q) ∧ V.cell? ⟨g7, 0, none⟩ = some (.int .u32 ip2) ∧ V.cell? ⟨g7, 1, none⟩ = some (.int .u16 po2) ∧ V.cell? ⟨pm, 0, none⟩ = some (.slice ae zs.length ce)) (by kernel_rfl) (⟨hT0.mem.cell 1 rfl 1, hT0.mem.cell 0 rfl 0, hT0.mem.cell 0 rfl 1, cp0⟩) (fun hHeld => ?_)
                refine wpAnyH_take (i := 0) (v := ?_) rfl (by kernel_rfl) (by kernel_rfl) (by kernel_rfl) (fun _ _ _ h => h) (Or.inl ⟨by rfl, ?zbqy0⟩) (by assumption) ?zbqr0
                case zbqy0 =>
                  intro w hSw
                  (try dsimp only at hSw)
                  go_simp
                  all_goals with_reducible rfl
                try simp only [List.getElem_toArray, List.getElem_cons_zero, List.getElem_cons_succ, Act.put, List.setIfInBounds_toArray, List.set_cons_zero, List.set_cons_succ]
                refine wpAnyH_take (i := 2) (v := ?_) rfl (by kernel_rfl) (by kernel_rfl) (by kernel_rfl) (fun _ _ _ h => h) (Or.inl ⟨by rfl, ?zbqy2⟩) (by assumption) ?zbqr2
                case zbqy2 =>
                  intro w hSw
                  (try dsimp only at hSw)
                  go_simp
                  all_goals with_reducible rfl
                try simp only [List.getElem_toArray, List.getElem_cons_zero, List.getElem_cons_succ, Act.put, List.setIfInBounds_toArray, List.set_cons_zero, List.set_cons_succ]
                refine wpAnyH_take (i := 3) (v := ?_) rfl (by kernel_rfl) (by kernel_rfl) (by kernel_rfl) (fun _ _ _ h => h) (Or.inl ⟨by rfl, ?zbqy3⟩) (by assumption) ?zbqr3
                case zbqy3 =>
                  intro w hSw
                  (try dsimp only at hSw)
                  go_simp
                  all_goals with_reducible rfl
                try simp only [List.getElem_toArray, List.getElem_cons_zero, List.getElem_cons_succ, Act.put, List.setIfInBounds_toArray, List.set_cons_zero, List.set_cons_succ]
                refine wpAnyH_take (i := 4) (v := ?_) rfl (by kernel_rfl) (by kernel_rfl) (by kernel_rfl) (fun _ _ _ h => h) (Or.inl ⟨by rfl, ?zbqy4⟩) (by assumption) ?zbqr4
                case zbqy4 =>
                  intro w hSw
                  (try dsimp only at hSw)
                  go_simp
                  all_goals with_reducible rfl
                try simp only [List.getElem_toArray, List.getElem_cons_zero, List.getElem_cons_succ, Act.put, List.setIfInBounds_toArray, List.set_cons_zero, List.set_cons_succ]
                refine wpAnyH_take (i := 5) (v := ?_) rfl (by kernel_rfl) (by kernel_rfl) (by kernel_rfl) (fun _ _ _ h => h) (Or.inl ⟨by rfl, ?zbqy5⟩) (by assumption) ?zbqr5
                case zbqy5 =>
                  intro w hSw
                  (try dsimp only at hSw)
                  go_simp
                  all_goals with_reducible rfl
                try simp only [List.getElem_toArray, List.getElem_cons_zero, List.getElem_cons_succ, Act.put, List.setIfInBounds_toArray, List.set_cons_zero, List.set_cons_succ]
                refine wpAnyH_take (i := 6) (v := ?_) rfl (by kernel_rfl) (by kernel_rfl) (by kernel_rfl) (fun _ _ _ h => h) (Or.inl ⟨by rfl, ?zbqy6⟩) (by assumption) ?zbqr6
                case zbqy6 =>
                  intro w hSw
                  (try dsimp only at hSw)
                  go_simp
                  all_goals with_reducible rfl
                try simp only [List.getElem_toArray, List.getElem_cons_zero, List.getElem_cons_succ, Act.put, List.setIfInBounds_toArray, List.set_cons_zero, List.set_cons_succ]
                refine wpAnyH_ready (rs := [1]) (by kernel_rfl) (by simp) ?_
                refine AllReadyH.cons rfl (fun KK hK => ?_) AllReadyH.nil
                go_simp
                with_reducible refine (PC1.out _ hT0).mono ?_
                rintro e Y1 ⟨rfl, hT1, hs1⟩
                try go_wp2_with fail
                have cp1 := hs1.trans cp0
                refine hK.out _ _ (⟨hT1.mem.cell 1 rfl 1, hT1.mem.cell 0 rfl 0, hT1.mem.cell 0 rfl 1, cp1⟩) (fun hHeld => ?_)
                clear hK KK
                try simp only [List.getElem_toArray, List.getElem_cons_zero, List.getElem_cons_succ, Act.put, List.setIfInBounds_toArray, List.set_cons_zero, List.set_cons_succ]
                refine wpAnyH_take (i := 7) (v := ?_) rfl (by kernel_rfl) (by kernel_rfl) (by kernel_rfl) (fun _ _ _ h => h) (Or.inl ⟨by rfl, ?zbqy7⟩) (by assumption) ?zbqr7
                case zbqy7 =>
                  intro w hSw
                  (try dsimp only at hSw)
                  go_simp
                  all_goals with_reducible rfl
                try simp only [List.getElem_toArray, List.getElem_cons_zero, List.getElem_cons_succ, Act.put, List.setIfInBounds_toArray, List.set_cons_zero, List.set_cons_succ]
                refine wpAnyH_take (i := 8) (v := ?_) rfl (by kernel_rfl) (by kernel_rfl) (by kernel_rfl) (fun _ _ _ h => h) (Or.inl ⟨by rfl, ?zbqy8⟩) (by assumption) ?zbqr8
                case zbqy8 =>
                  intro w hSw
                  (try dsimp only at hSw)
                  go_simp
                  all_goals with_reducible rfl
                try simp only [List.getElem_toArray, List.getElem_cons_zero, List.getElem_cons_succ, Act.put, List.setIfInBounds_toArray, List.set_cons_zero, List.set_cons_succ]
                refine wpAnyH_take (i := 9) (v := ?_) rfl (by kernel_rfl) (by kernel_rfl) (by kernel_rfl) (fun _ _ _ h => h) (Or.inl ⟨by rfl, ?zbqy9⟩) (by assumption) ?zbqr9
                case zbqy9 =>
                  intro w hSw
                  (try dsimp only at hSw)
                  go_simp
                  all_goals with_reducible rfl
                try simp only [List.getElem_toArray, List.getElem_cons_zero, List.getElem_cons_succ, Act.put, List.setIfInBounds_toArray, List.set_cons_zero, List.set_cons_succ]
                refine wpAnyH_take (i := 10) (v := ?_) rfl (by kernel_rfl) (by kernel_rfl) (by kernel_rfl) (fun _ _ _ h => h) (Or.inl ⟨by rfl, ?zbqy10⟩) (by assumption) ?zbqr10
                case zbqy10 =>
                  intro w hSw
                  (try dsimp only at hSw)
                  go_simp
                  all_goals with_reducible rfl
                try simp only [List.getElem_toArray, List.getElem_cons_zero, List.getElem_cons_succ, Act.put, List.setIfInBounds_toArray, List.set_cons_zero, List.set_cons_succ]
                refine wpAnyH_take (i := 11) (v := ?_) rfl (by kernel_rfl) (by kernel_rfl) (by kernel_rfl) (fun _ _ _ h => h) (Or.inl ⟨by rfl, ?zbqy11⟩) (by assumption) ?zbqr11
                case zbqy11 =>
                  intro w hSw
                  (try dsimp only at hSw)
                  go_simp
                  all_goals with_reducible rfl
                try simp only [List.getElem_toArray, List.getElem_cons_zero, List.getElem_cons_succ, Act.put, List.setIfInBounds_toArray, List.set_cons_zero, List.set_cons_succ]
                refine wpAnyH_take (i := 12) (v := ?_) rfl (by kernel_rfl) (by kernel_rfl) (by kernel_rfl) (fun _ _ _ h => h) (Or.inl ⟨by rfl, ?zbqy12⟩) (by assumption) ?zbqr12
                case zbqy12 =>
                  intro w hSw
                  (try dsimp only at hSw)
                  go_simp
                  all_goals with_reducible rfl
                try simp only [List.getElem_toArray, List.getElem_cons_zero, List.getElem_cons_succ, Act.put, List.setIfInBounds_toArray, List.set_cons_zero, List.set_cons_succ]
                refine wpAnyH_take (i := 14) (v := ?_) rfl (by kernel_rfl) (by kernel_rfl) (by kernel_rfl) (fun _ _ _ h => h) (Or.inl ⟨by rfl, ?zbqy14⟩) (by assumption) ?zbqr14
                case zbqy14 =>
                  intro w hSw
                  (try dsimp only at hSw)
                  go_simp
                  all_goals with_reducible rfl
                try simp only [List.getElem_toArray, List.getElem_cons_zero, List.getElem_cons_succ, Act.put, List.setIfInBounds_toArray, List.set_cons_zero, List.set_cons_succ]
                refine wpAnyH_take (i := 15) (v := ?_) rfl (by kernel_rfl) (by kernel_rfl) (by kernel_rfl) (fun _ _ _ h => h) (Or.inl ⟨by rfl, ?zbqy15⟩) (by assumption) ?zbqr15
                case zbqy15 =>
                  intro w hSw
                  (try dsimp only at hSw)
                  go_simp
                  all_goals with_reducible rfl
                try simp only [List.getElem_toArray, List.getElem_cons_zero, List.getElem_cons_succ, Act.put, List.setIfInBounds_toArray, List.set_cons_zero, List.set_cons_succ]
                refine wpAnyH_take (i := 16) (v := ?_) rfl (by kernel_rfl) (by kernel_rfl) (by kernel_rfl) (fun _ _ _ h => h) (Or.inl ⟨by rfl, ?zbqy16⟩) (by assumption) ?zbqr16
                case zbqy16 =>
                  intro w hSw
                  (try dsimp only at hSw)
                  go_simp
                  all_goals with_reducible rfl
                try simp only [List.getElem_toArray, List.getElem_cons_zero, List.getElem_cons_succ, Act.put, List.setIfInBounds_toArray, List.set_cons_zero, List.set_cons_succ]
                refine wpAnyH_take (i := 17) (v := ?_) rfl (by kernel_rfl) (by kernel_rfl) (by kernel_rfl) (fun _ _ _ h => h) (Or.inl ⟨by rfl, ?zbqy17⟩) (by assumption) ?zbqr17
                case zbqy17 =>
                  intro w hSw
                  (try dsimp only at hSw)
                  go_simp
                  all_goals with_reducible rfl
                try simp only [List.getElem_toArray, List.getElem_cons_zero, List.getElem_cons_succ, Act.put, List.setIfInBounds_toArray, List.set_cons_zero, List.set_cons_succ]
                refine wpAnyH_ready (rs := [13]) (by kernel_rfl) (by simp) ?_
                refine AllReadyH.cons rfl (fun KK hK => ?_) AllReadyH.nil
                go_simp
                with_reducible refine (PC2.out _ hT1).mono ?_
                rintro e Y2 ⟨rfl, hT2, hs2⟩
                try go_wp2_with fail
                have cp2 := hs2.trans cp1
                refine hK.out _ _ (⟨hT2.mem.cell 1 rfl 1, hT2.mem.cell 0 rfl 0, hT2.mem.cell 0 rfl 1, cp2⟩) (fun hHeld => ?_)
                clear hK KK
                try simp only [List.getElem_toArray, List.getElem_cons_zero, List.getElem_cons_succ, Act.put, List.setIfInBounds_toArray, List.set_cons_zero, List.set_cons_succ]
                refine wpAnyH_ready (rs := [18]) (by kernel_rfl) (by simp) ?_
                refine AllReadyH.cons rfl (fun KK hK => ?_) AllReadyH.nil
                go_simp
                with_reducible refine (PC3.out _ hT2).mono ?_
                rintro e Y3 ⟨rfl, hT3, hs3⟩
                try go_wp2_with fail
                have cp3 := hs3.trans cp2
                refine hK.out _ _ (⟨hT3.mem.cell 1 rfl 1, hT3.mem.cell 0 rfl 0, hT3.mem.cell 0 rfl 1, cp3⟩) (fun hHeld => ?_)
                clear hK KK
                try simp only [List.getElem_toArray, List.getElem_cons_zero, List.getElem_cons_succ, Act.put, List.setIfInBounds_toArray, List.set_cons_zero, List.set_cons_succ]
                refine wpAnyH_take (i := 19) (v := ?_) rfl (by kernel_rfl) (by kernel_rfl) (by kernel_rfl) (fun _ _ _ h => h) (Or.inl ⟨by rfl, ?zbqy19⟩) (by assumption) ?zbqr19
                case zbqy19 =>
                  intro w hSw
                  (try dsimp only at hSw)
                  go_simp
                  all_goals with_reducible rfl
                try simp only [List.getElem_toArray, List.getElem_cons_zero, List.getElem_cons_succ, Act.put, List.setIfInBounds_toArray, List.set_cons_zero, List.set_cons_succ]
                refine wpAnyH_take (i := 20) (v := ?_) rfl (by kernel_rfl) (by kernel_rfl) (by kernel_rfl) (fun _ _ _ h => h) (Or.inl ⟨by rfl, ?zbqy20⟩) (by assumption) ?zbqr20
                case zbqy20 =>
                  intro w hSw
                  (try dsimp only at hSw)
                  go_simp
                  all_goals with_reducible rfl
                try simp only [List.getElem_toArray, List.getElem_cons_zero, List.getElem_cons_succ, Act.put, List.setIfInBounds_toArray, List.set_cons_zero, List.set_cons_succ]
                refine wpAnyH_done (by kernel_rfl) ?_ _
                have HZ : Hid (∃ xs : List Mk, xs.length ≤ i + 1 ∧ (∀ m ∈ xs, MOk m) ∧ Two PS W pp pm xs xs Y3 []) := ⟨zs, HQ.out.1, HQ.out.2, hT3.sub.sub⟩
                clear hT0 hT1 hT2 hT3 PC1 PC2 PC3 HQ
                go_wp2_with fail
                go_roundw
                case rel => exact ⟨i + 1, by omega, by go_num, HZ.out⟩
                case measure => simp [intOf]; omega
          · have hz3 : (Int.tmod kk 3 != 0) = true := by simpa using hz2
            go_upto_if 44 with fail
            go_cut [8] from 44 (fun s8 wx => ∃ q ip2 po2 : Int, MOk (q, ip2, po2) ∧ Two PS W pp pm xs xs (wx) [(g7, .cells #[.int .u32 ip2, .int .u16 po2] 35 (0, 0)), (g6, .cells #[.int .i64 what, .int .u8 q, .slice pa pool.length pc, .int .u16 lo, .int .u16 hi', .int .u16 want, .int .u32 ip, .int .u16 port, .int .i64 kk] 37 (0, 0))])
            case first => as_aux_lemma =>
              have hml := plc_lt kk (n := xs.length) (by omega)
              have HPL : Hid (∀ k, Calls Tryd.prog 10 #[.int .i64 kk, .int .i64 xs.length] (V7.drewN k) fun e w' => e = .returned (.int .i64 (plc kk xs.length)) ∧ V7.drewN k = w') := fun k => place17_any kk xs.length hkk (by omega) (by omega)
              obtain ⟨m, hm⟩ : ∃ m, plc kk xs.length = m := ⟨_, rfl⟩
              rw [hm] at hml HPL
              obtain ⟨mb2, off2, rfl, hmv⟩ := hmk m hml
              have HMV : Hid (∀ V, Below V7.heap.size V7 V → V.cell? ⟨mb2, off2 + m * 3, none⟩ = some (.int .u8 xs[m].1) ∧ V.cell? ⟨mb2, off2 + m * 3 + 1, none⟩ = some (.int .u32 xs[m].2.1) ∧ V.cell? ⟨mb2, off2 + m * 3 + 2, none⟩ = some (.int .u16 xs[m].2.2)) := hmv
              have hml1 : (m : Int) < xs.length := by omega
              clear hmv hmk hm
              go_wp2_with fail
              go_quiet (first | (go_at_call 10; exact quiet_eq17 (HPL.out _)))
              have hT2 := HT.out.after (below_drewN (Below.refl V7.heap.size V7) nq)
              obtain ⟨mm, hmm⟩ : ∃ mm, xs[m] = mm := ⟨_, rfl⟩
              rw [hmm] at HMV
              have hok : MOk mm := by rw [← hmm]; exact HOK.out _ (List.getElem_mem _)
              obtain ⟨q3, ip3, po3⟩ := mm
              obtain ⟨c0, c1, c2⟩ := HMV.out (V7.drewN nq) (below_drewN (Below.refl _ _) nq)
              simp only at c0 c1 c2
              have y0 : (V7.drewN nq).cell? ⟨g7, 0, none⟩ = some (.int .u32 ip) := hT2.mem.cell 0 rfl 0
              have y1 : (V7.drewN nq).cell? ⟨g7, 1, none⟩ = some (.int .u16 port) := hT2.mem.cell 0 rfl 1
              have f0 : (V7.drewN nq).frozen? ⟨g7, 0, none⟩ = false := hT2.mem.free 0 rfl 0
              have f1 : (V7.drewN nq).frozen? ⟨g7, 1, none⟩ = false := hT2.mem.free 0 rfl 1
              have HT8 : Hid (Two PS W pp pm xs xs (((V7.drewN nq).setCell ⟨g7, 0, none⟩ (.int .u32 ip3)).setCell ⟨g7, 1, none⟩ (.int .u16 po3)) [(g7, .cells #[.int .u32 ip3, .int .u16 po3] 35 (0, 0)), (g6, .cells #[.int .i64 what, .int .u8 pr, .slice pa pool.length pc, .int .u16 lo, .int .u16 hi', .int .u16 want, .int .u32 ip, .int .u16 port, .int .i64 kk] 37 (0, 0))]) := (hT2.set 0 (.int .u32 ip3)).set 1 (.int .u16 po3)
              have hme : xs[m]'hml = (q3, ip3, po3) := hmm
              clear HPL hT2 HMV HT
              go_upto_region 14 with fail
              refine wp_letter (fun V => Two PS W pp pm xs xs (V) [(g7, .cells #[.int .u32 ip3, .int .u16 po3] 35 (0, 0)), (g6, .cells #[.int .i64 what, .int .u8 pr, .slice pa pool.length pc, .int .u16 lo, .int .u16 hi', .int .u16 want, .int .u32 ip, .int .u16 port, .int .i64 kk] 37 (0, 0))]) (by exact HT8.out) ?_
              intro X hX
              clear HT8 c0 c1 c2 y0 y1 f0 f1
              have x0' : X.cell? ⟨g6, 0, none⟩ = some (.int .i64 what) := hX.mem.cell 1 rfl 0
              have x1' : X.cell? ⟨g6, 1, none⟩ = some (.int .u8 pr) := hX.mem.cell 1 rfl 1
              have fx : X.frozen? ⟨g6, 1, none⟩ = false := hX.mem.free 1 rfl 1
              obtain ⟨v2, cpm2, hrw2⟩ := hX.row
              obtain ⟨av2, cv2, rfl, -, -, hmk2⟩ := mark_at hrw2
              obtain ⟨mb3, off3, rfl, hv3⟩ := hmk2 m hml
              obtain ⟨d0, d1, d2⟩ := hv3 X (Below.refl _ _)
              simp only [hme] at d0 d1 d2
              by_cases hw4 : (4 : Int) ≤ what
              · have HQ : Hid (∃ q ip2 po2 : Int, MOk (q, ip2, po2) ∧ Two PS W pp pm xs xs (X.setCell ⟨g6, 1, none⟩ (.int .u8 q3)) [(g7, .cells #[.int .u32 ip2, .int .u16 po2] 35 (0, 0)), (g6, .cells #[.int .i64 what, .int .u8 q, .slice pa pool.length pc, .int .u16 lo, .int .u16 hi', .int .u16 want, .int .u32 ip, .int .u16 port, .int .i64 kk] 37 (0, 0))]) := by
                  have := ((hX.perm (List.Perm.swap _ _ _)).set 1 (.int .u8 q3)).perm (List.Perm.swap _ _ _)
                  exact ⟨q3, ip3, po3, hok, this⟩
                clear hX hmk2 hv3 hrw2 d1 d2
                go_wp2_with fail
                go_meet
                case rel => exact HQ.out
              · have HQ : Hid (∃ q ip2 po2 : Int, MOk (q, ip2, po2) ∧ Two PS W pp pm xs xs X [(g7, .cells #[.int .u32 ip2, .int .u16 po2] 35 (0, 0)), (g6, .cells #[.int .i64 what, .int .u8 q, .slice pa pool.length pc, .int .u16 lo, .int .u16 hi', .int .u16 want, .int .u32 ip, .int .u16 port, .int .i64 kk] 37 (0, 0))]) := ⟨pr, ip3, po3, ⟨hpr, hok.2.1, hok.2.2⟩, hX⟩
                clear hX hmk2 hv3 hrw2 d0 d1 d2
                go_wp2_with fail
                go_meet
                case rel => exact HQ.out
            case rest => as_aux_lemma =>
              obtain ⟨q, ip2, po2, hok2, hT9⟩ := hcut
              have HT9 : Hid (Two PS W pp pm xs xs (wc) [(g7, .cells #[.int .u32 ip2, .int .u16 po2] 35 (0, 0)), (g6, .cells #[.int .i64 what, .int .u8 q, .slice pa pool.length pc, .int .u16 lo, .int .u16 hi', .int .u16 want, .int .u32 ip, .int .u16 port, .int .i64 kk] 37 (0, 0))]) := hT9
              have x0' : wc.cell? ⟨g6, 0, none⟩ = some (.int .i64 what) := hT9.mem.cell 1 rfl 0
              clear hT9
              go_upto_block 2 with fail
              go_cut [9, 10, 11, 12] from 75 (fun s9 s10 s11 s12 wx => ∃ zs : List Mk, zs.length ≤ i + 1 ∧ (∀ m ∈ zs, MOk m) ∧ Two PS W pp pm zs zs (wx) [(g7, .cells #[.int .u32 ip2, .int .u16 po2] 35 (0, 0)), (g6, .cells #[.int .i64 what, .int .u8 q, .slice pa pool.length pc, .int .u16 lo, .int .u16 hi', .int .u16 want, .int .u32 ip, .int .u16 port, .int .i64 kk] 37 (0, 0))])
              case first => as_aux_lemma =>
                by_cases h0 : what = 0
                · have m0 : (what == 0) = true := by simpa using h0
                  clear h0
                  have hT9 := HT9.out
                  have x1 : wc.cell? ⟨g6, 1, none⟩ = some (.int .u8 q) := hT9.mem.cell 1 rfl 1
                  have x2 : wc.cell? ⟨g6, 2, none⟩ = some (.slice pa pool.length pc) := hT9.mem.cell 1 rfl 2
                  have x3 : wc.cell? ⟨g6, 3, none⟩ = some (.int .u16 lo) := hT9.mem.cell 1 rfl 3
                  have x4 : wc.cell? ⟨g6, 4, none⟩ = some (.int .u16 hi') := hT9.mem.cell 1 rfl 4
                  have x5 : wc.cell? ⟨g6, 5, none⟩ = some (.int .u16 want) := hT9.mem.cell 1 rfl 5
                  have C1 := hT9.ptake HC.out (by omega) (hrow.out wc hT9.mem.below) (by omega) hfew q lo hi' want hok2.1 hlo hhi hwt
                  have C2 : Hid (∀ (V : World) (zs : List Mk) (L : List (Nat × Obj)), Two PS W pp pm zs xs V L → Calls Tryd.prog 12 #[.pointer (some ⟨pm, 0, none⟩), .int .u8 q, .slice pa pool.length pc, .int .u16 lo, .int .u16 hi', .int .u16 want] V fun e Y => e = .returned (tko (tk xs q (frm lo want) (upt hi' want) pool)) ∧ Two PS W pp pm zs (aft xs q (tk xs q (frm lo want) (upt hi' want) pool)) Y L) := fun V zs L hV => hV.rtake (by omega) (hrow.out V hV.mem.below) (by omega) q lo hi' want hlo hhi hwt
                  have haf := aft_ok (want := want) (l := pool) HOK.out hok2.1 hfew hlo.1 hhi.2
                  have HAF : Hid ((aft xs q (tk xs q (frm lo want) (upt hi' want) pool)).length ≤ i + 1 ∧ ∀ m ∈ aft xs q (tk xs q (frm lo want) (upt hi' want) pool), MOk m) := ⟨Nat.le_trans aft_len (by omega), haf⟩
                  clear haf hT9
                  generalize tk xs q (frm lo want) (upt hi' want) pool = R at *
                  cases R with
                  | none =>
                    simp only [tko] at C1 C2
                    go_wp2_with fail
                    refine C1.mono ?_
                    rintro e Y1 ⟨rfl, hY1⟩
                    clear C1
                    obtain ⟨g9, hg9⟩ : ∃ g, Y1.heap.size = g := ⟨_, rfl⟩
                    have HY1 : Hid (Two PS W pp pm (aft xs q (none)) xs (Y1.alloc (.cells #[.int .u32 0, .int .u16 0] 35)) ((g9, .cells #[.int .u32 0, .int .u16 0] 35 (0, 0)) :: [(g7, .cells #[.int .u32 ip2, .int .u16 po2] 35 (0, 0)), (g6, .cells #[.int .i64 what, .int .u8 q, .slice pa pool.length pc, .int .u16 lo, .int .u16 hi', .int .u16 want, .int .u32 ip, .int .u16 port, .int .i64 kk] 37 (0, 0))])) := hY1.push g9 _ hg9.symm
                    clear hY1
                    go_upto_region 23 with fail
                    refine wp_letter (fun V => Two PS W pp pm (aft xs q (none)) xs (V) ((g9, .cells #[.int .u32 0, .int .u16 0] 35 (0, 0)) :: [(g7, .cells #[.int .u32 ip2, .int .u16 po2] 35 (0, 0)), (g6, .cells #[.int .i64 what, .int .u8 q, .slice pa pool.length pc, .int .u16 lo, .int .u16 hi', .int .u16 want, .int .u32 ip, .int .u16 port, .int .i64 kk] 37 (0, 0))])) (by exact HY1.out) ?_
                    intro Y2 hY2
                    try simp only [hg9]
                    clear HY1 hg9
                    have e1 : Y2.cell? ⟨g6, 1, none⟩ = some (.int .u8 q) := hY2.mem.cell 2 rfl 1
                    have e2 : Y2.cell? ⟨g6, 2, none⟩ = some (.slice pa pool.length pc) := hY2.mem.cell 2 rfl 2
                    have e3 : Y2.cell? ⟨g6, 3, none⟩ = some (.int .u16 lo) := hY2.mem.cell 2 rfl 3
                    have e4 : Y2.cell? ⟨g6, 4, none⟩ = some (.int .u16 hi') := hY2.mem.cell 2 rfl 4
                    have e5 : Y2.cell? ⟨g6, 5, none⟩ = some (.int .u16 want) := hY2.mem.cell 2 rfl 5
                    have D2 := C2.out Y2 _ _ hY2
                    clear C2 x1 x2 x3 x4 x5
                    go_wp2_with fail
                    refine D2.mono ?_
                    rintro e Y3 ⟨rfl, hY3⟩
                    clear D2 hY2
                    obtain ⟨g10, hg10⟩ : ∃ g, Y3.heap.size = g := ⟨_, rfl⟩
                    have HY3 : Hid (Two PS W pp pm (aft xs q (none)) (aft xs q (none)) (Y3.alloc (.cells #[.int .u32 0, .int .u16 0] 35)) ((g10, .cells #[.int .u32 0, .int .u16 0] 35 (0, 0)) :: (g9, .cells #[.int .u32 0, .int .u16 0] 35 (0, 0)) :: [(g7, .cells #[.int .u32 ip2, .int .u16 po2] 35 (0, 0)), (g6, .cells #[.int .i64 what, .int .u8 q, .slice pa pool.length pc, .int .u16 lo, .int .u16 hi', .int .u16 want, .int .u32 ip, .int .u16 port, .int .i64 kk] 37 (0, 0))])) := hY3.push g10 _ hg10.symm
                    clear hY3
                    go_upto_region 24 with fail
                    refine wp_letter (fun V => Two PS W pp pm (aft xs q (none)) (aft xs q (none)) V ((g10, .cells #[.int .u32 0, .int .u16 0] 35 (0, 0)) :: (g9, .cells #[.int .u32 0, .int .u16 0] 35 (0, 0)) :: [(g7, .cells #[.int .u32 ip2, .int .u16 po2] 35 (0, 0)), (g6, .cells #[.int .i64 what, .int .u8 q, .slice pa pool.length pc, .int .u16 lo, .int .u16 hi', .int .u16 want, .int .u32 ip, .int .u16 port, .int .i64 kk] 37 (0, 0))])) (by exact HY3.out) ?_
                    intro Y4 hY4
                    try simp only [hg10]
                    clear HY3 hg10 e1 e2 e3 e4 e5
                    have a0 : Y4.cell? ⟨g10, 0, none⟩ = some (.int .u32 0) := hY4.mem.cell 0 rfl 0
                    have a1 : Y4.cell? ⟨g10, 1, none⟩ = some (.int .u16 0) := hY4.mem.cell 0 rfl 1
                    have b0 : Y4.cell? ⟨g9, 0, none⟩ = some (.int .u32 0) := hY4.mem.cell 1 rfl 0
                    have b1 : Y4.cell? ⟨g9, 1, none⟩ = some (.int .u16 0) := hY4.mem.cell 1 rfl 1
                    have p1 := pt_eq 0 0 0 0
                    simp only [BEq.rfl, Bool.and_self] at p1
                    have HZ : Hid (∃ zs : List Mk, zs.length ≤ i + 1 ∧ (∀ m ∈ zs, MOk m) ∧ Two PS W pp pm zs zs (Y4) [(g7, .cells #[.int .u32 ip2, .int .u16 po2] 35 (0, 0)), (g6, .cells #[.int .i64 what, .int .u8 q, .slice pa pool.length pc, .int .u16 lo, .int .u16 hi', .int .u16 want, .int .u32 ip, .int .u16 port, .int .i64 kk] 37 (0, 0))]) := ⟨_, HAF.out.1, HAF.out.2, hY4.sub.sub⟩
                    clear hY4 HAF
                    go_wp2_with fail
                    go_meet
                    case rel => exact HZ.out
                  | some x4 =>
                    obtain ⟨ip4, k4⟩ := x4
                    simp only [tko] at C1 C2
                    go_wp2_with fail
                    refine C1.mono ?_
                    rintro e Y1 ⟨rfl, hY1⟩
                    clear C1
                    obtain ⟨g9, hg9⟩ : ∃ g, Y1.heap.size = g := ⟨_, rfl⟩
                    have HY1 : Hid (Two PS W pp pm (aft xs q (some (ip4, k4))) xs (Y1.alloc (.cells #[.int .u32 ip4, .int .u16 k4] 35)) ((g9, .cells #[.int .u32 ip4, .int .u16 k4] 35 (0, 0)) :: [(g7, .cells #[.int .u32 ip2, .int .u16 po2] 35 (0, 0)), (g6, .cells #[.int .i64 what, .int .u8 q, .slice pa pool.length pc, .int .u16 lo, .int .u16 hi', .int .u16 want, .int .u32 ip, .int .u16 port, .int .i64 kk] 37 (0, 0))])) := hY1.push g9 _ hg9.symm
                    clear hY1
                    go_upto_region 23 with fail
                    refine wp_letter (fun V => Two PS W pp pm (aft xs q (some (ip4, k4))) xs (V) ((g9, .cells #[.int .u32 ip4, .int .u16 k4] 35 (0, 0)) :: [(g7, .cells #[.int .u32 ip2, .int .u16 po2] 35 (0, 0)), (g6, .cells #[.int .i64 what, .int .u8 q, .slice pa pool.length pc, .int .u16 lo, .int .u16 hi', .int .u16 want, .int .u32 ip, .int .u16 port, .int .i64 kk] 37 (0, 0))])) (by exact HY1.out) ?_
                    intro Y2 hY2
                    try simp only [hg9]
                    clear HY1 hg9
                    have e1 : Y2.cell? ⟨g6, 1, none⟩ = some (.int .u8 q) := hY2.mem.cell 2 rfl 1
                    have e2 : Y2.cell? ⟨g6, 2, none⟩ = some (.slice pa pool.length pc) := hY2.mem.cell 2 rfl 2
                    have e3 : Y2.cell? ⟨g6, 3, none⟩ = some (.int .u16 lo) := hY2.mem.cell 2 rfl 3
                    have e4 : Y2.cell? ⟨g6, 4, none⟩ = some (.int .u16 hi') := hY2.mem.cell 2 rfl 4
                    have e5 : Y2.cell? ⟨g6, 5, none⟩ = some (.int .u16 want) := hY2.mem.cell 2 rfl 5
                    have D2 := C2.out Y2 _ _ hY2
                    clear C2 x1 x2 x3 x4 x5
                    go_wp2_with fail
                    refine D2.mono ?_
                    rintro e Y3 ⟨rfl, hY3⟩
                    clear D2 hY2
                    obtain ⟨g10, hg10⟩ : ∃ g, Y3.heap.size = g := ⟨_, rfl⟩
                    have HY3 : Hid (Two PS W pp pm (aft xs q (some (ip4, k4))) (aft xs q (some (ip4, k4))) (Y3.alloc (.cells #[.int .u32 ip4, .int .u16 k4] 35)) ((g10, .cells #[.int .u32 ip4, .int .u16 k4] 35 (0, 0)) :: (g9, .cells #[.int .u32 ip4, .int .u16 k4] 35 (0, 0)) :: [(g7, .cells #[.int .u32 ip2, .int .u16 po2] 35 (0, 0)), (g6, .cells #[.int .i64 what, .int .u8 q, .slice pa pool.length pc, .int .u16 lo, .int .u16 hi', .int .u16 want, .int .u32 ip, .int .u16 port, .int .i64 kk] 37 (0, 0))])) := hY3.push g10 _ hg10.symm
                    clear hY3
                    go_upto_region 24 with fail
                    refine wp_letter (fun V => Two PS W pp pm (aft xs q (some (ip4, k4))) (aft xs q (some (ip4, k4))) V ((g10, .cells #[.int .u32 ip4, .int .u16 k4] 35 (0, 0)) :: (g9, .cells #[.int .u32 ip4, .int .u16 k4] 35 (0, 0)) :: [(g7, .cells #[.int .u32 ip2, .int .u16 po2] 35 (0, 0)), (g6, .cells #[.int .i64 what, .int .u8 q, .slice pa pool.length pc, .int .u16 lo, .int .u16 hi', .int .u16 want, .int .u32 ip, .int .u16 port, .int .i64 kk] 37 (0, 0))])) (by exact HY3.out) ?_
                    intro Y4 hY4
                    try simp only [hg10]
                    clear HY3 hg10 e1 e2 e3 e4 e5
                    have a0 : Y4.cell? ⟨g10, 0, none⟩ = some (.int .u32 ip4) := hY4.mem.cell 0 rfl 0
                    have a1 : Y4.cell? ⟨g10, 1, none⟩ = some (.int .u16 k4) := hY4.mem.cell 0 rfl 1
                    have b0 : Y4.cell? ⟨g9, 0, none⟩ = some (.int .u32 ip4) := hY4.mem.cell 1 rfl 0
                    have b1 : Y4.cell? ⟨g9, 1, none⟩ = some (.int .u16 k4) := hY4.mem.cell 1 rfl 1
                    have p1 := pt_eq ip4 k4 ip4 k4
                    simp only [BEq.rfl, Bool.and_self] at p1
                    have HZ : Hid (∃ zs : List Mk, zs.length ≤ i + 1 ∧ (∀ m ∈ zs, MOk m) ∧ Two PS W pp pm zs zs (Y4) [(g7, .cells #[.int .u32 ip2, .int .u16 po2] 35 (0, 0)), (g6, .cells #[.int .i64 what, .int .u8 q, .slice pa pool.length pc, .int .u16 lo, .int .u16 hi', .int .u16 want, .int .u32 ip, .int .u16 port, .int .i64 kk] 37 (0, 0))]) := ⟨_, HAF.out.1, HAF.out.2, hY4.sub.sub⟩
                    clear hY4 HAF
                    go_wp2_with fail
                    go_meet
                    case rel => exact HZ.out
                · have m0 : (what == 0) = false := by simpa using h0
                  by_cases h1 : what = 1
                  · have m1 : (what == 1) = true := by simpa using h1
                    clear h0 h1
                    have hT9 := HT9.out
                    have x1 : wc.cell? ⟨g6, 1, none⟩ = some (.int .u8 q) := hT9.mem.cell 1 rfl 1
                    have x2 : wc.cell? ⟨g6, 2, none⟩ = some (.slice pa pool.length pc) := hT9.mem.cell 1 rfl 2
                    have x3 : wc.cell? ⟨g6, 3, none⟩ = some (.int .u16 lo) := hT9.mem.cell 1 rfl 3
                    have x4 : wc.cell? ⟨g6, 4, none⟩ = some (.int .u16 hi') := hT9.mem.cell 1 rfl 4
                    have x5 : wc.cell? ⟨g6, 5, none⟩ = some (.int .u16 want) := hT9.mem.cell 1 rfl 5
                    have C1 := hT9.ptake HC.out (by omega) (hrow.out wc hT9.mem.below) (by omega) hfew q lo hi' want hok2.1 hlo hhi hwt
                    have C2 : Hid (∀ (V : World) (zs : List Mk) (L : List (Nat × Obj)), Two PS W pp pm zs xs V L → Calls Tryd.prog 12 #[.pointer (some ⟨pm, 0, none⟩), .int .u8 q, .slice pa pool.length pc, .int .u16 lo, .int .u16 hi', .int .u16 want] V fun e Y => e = .returned (tko (tk xs q (frm lo want) (upt hi' want) pool)) ∧ Two PS W pp pm zs (aft xs q (tk xs q (frm lo want) (upt hi' want) pool)) Y L) := fun V zs L hV => hV.rtake (by omega) (hrow.out V hV.mem.below) (by omega) q lo hi' want hlo hhi hwt
                    have haf := aft_ok (want := want) (l := pool) HOK.out hok2.1 hfew hlo.1 hhi.2
                    have HAF : Hid ((aft xs q (tk xs q (frm lo want) (upt hi' want) pool)).length ≤ i + 1 ∧ ∀ m ∈ aft xs q (tk xs q (frm lo want) (upt hi' want) pool), MOk m) := ⟨Nat.le_trans aft_len (by omega), haf⟩
                    clear haf hT9
                    generalize tk xs q (frm lo want) (upt hi' want) pool = R at *
                    cases R with
                    | none =>
                      simp only [tko] at C1 C2
                      go_wp2_with fail
                      refine C1.mono ?_
                      rintro e Y1 ⟨rfl, hY1⟩
                      clear C1
                      obtain ⟨g9, hg9⟩ : ∃ g, Y1.heap.size = g := ⟨_, rfl⟩
                      have HY1 : Hid (Two PS W pp pm (aft xs q (none)) xs (Y1.alloc (.cells #[.int .u32 0, .int .u16 0] 35)) ((g9, .cells #[.int .u32 0, .int .u16 0] 35 (0, 0)) :: [(g7, .cells #[.int .u32 ip2, .int .u16 po2] 35 (0, 0)), (g6, .cells #[.int .i64 what, .int .u8 q, .slice pa pool.length pc, .int .u16 lo, .int .u16 hi', .int .u16 want, .int .u32 ip, .int .u16 port, .int .i64 kk] 37 (0, 0))])) := hY1.push g9 _ hg9.symm
                      clear hY1
                      go_upto_region 23 with fail
                      refine wp_letter (fun V => Two PS W pp pm (aft xs q (none)) xs (V) ((g9, .cells #[.int .u32 0, .int .u16 0] 35 (0, 0)) :: [(g7, .cells #[.int .u32 ip2, .int .u16 po2] 35 (0, 0)), (g6, .cells #[.int .i64 what, .int .u8 q, .slice pa pool.length pc, .int .u16 lo, .int .u16 hi', .int .u16 want, .int .u32 ip, .int .u16 port, .int .i64 kk] 37 (0, 0))])) (by exact HY1.out) ?_
                      intro Y2 hY2
                      try simp only [hg9]
                      clear HY1 hg9
                      have e1 : Y2.cell? ⟨g6, 1, none⟩ = some (.int .u8 q) := hY2.mem.cell 2 rfl 1
                      have e2 : Y2.cell? ⟨g6, 2, none⟩ = some (.slice pa pool.length pc) := hY2.mem.cell 2 rfl 2
                      have e3 : Y2.cell? ⟨g6, 3, none⟩ = some (.int .u16 lo) := hY2.mem.cell 2 rfl 3
                      have e4 : Y2.cell? ⟨g6, 4, none⟩ = some (.int .u16 hi') := hY2.mem.cell 2 rfl 4
                      have e5 : Y2.cell? ⟨g6, 5, none⟩ = some (.int .u16 want) := hY2.mem.cell 2 rfl 5
                      have D2 := C2.out Y2 _ _ hY2
                      clear C2 x1 x2 x3 x4 x5
                      go_wp2_with fail
                      refine D2.mono ?_
                      rintro e Y3 ⟨rfl, hY3⟩
                      clear D2 hY2
                      obtain ⟨g10, hg10⟩ : ∃ g, Y3.heap.size = g := ⟨_, rfl⟩
                      have HY3 : Hid (Two PS W pp pm (aft xs q (none)) (aft xs q (none)) (Y3.alloc (.cells #[.int .u32 0, .int .u16 0] 35)) ((g10, .cells #[.int .u32 0, .int .u16 0] 35 (0, 0)) :: (g9, .cells #[.int .u32 0, .int .u16 0] 35 (0, 0)) :: [(g7, .cells #[.int .u32 ip2, .int .u16 po2] 35 (0, 0)), (g6, .cells #[.int .i64 what, .int .u8 q, .slice pa pool.length pc, .int .u16 lo, .int .u16 hi', .int .u16 want, .int .u32 ip, .int .u16 port, .int .i64 kk] 37 (0, 0))])) := hY3.push g10 _ hg10.symm
                      clear hY3
                      go_upto_region 24 with fail
                      refine wp_letter (fun V => Two PS W pp pm (aft xs q (none)) (aft xs q (none)) V ((g10, .cells #[.int .u32 0, .int .u16 0] 35 (0, 0)) :: (g9, .cells #[.int .u32 0, .int .u16 0] 35 (0, 0)) :: [(g7, .cells #[.int .u32 ip2, .int .u16 po2] 35 (0, 0)), (g6, .cells #[.int .i64 what, .int .u8 q, .slice pa pool.length pc, .int .u16 lo, .int .u16 hi', .int .u16 want, .int .u32 ip, .int .u16 port, .int .i64 kk] 37 (0, 0))])) (by exact HY3.out) ?_
                      intro Y4 hY4
                      try simp only [hg10]
                      clear HY3 hg10 e1 e2 e3 e4 e5
                      have a0 : Y4.cell? ⟨g10, 0, none⟩ = some (.int .u32 0) := hY4.mem.cell 0 rfl 0
                      have a1 : Y4.cell? ⟨g10, 1, none⟩ = some (.int .u16 0) := hY4.mem.cell 0 rfl 1
                      have b0 : Y4.cell? ⟨g9, 0, none⟩ = some (.int .u32 0) := hY4.mem.cell 1 rfl 0
                      have b1 : Y4.cell? ⟨g9, 1, none⟩ = some (.int .u16 0) := hY4.mem.cell 1 rfl 1
                      have p1 := pt_eq 0 0 0 0
                      simp only [BEq.rfl, Bool.and_self] at p1
                      have HZ : Hid (∃ zs : List Mk, zs.length ≤ i + 1 ∧ (∀ m ∈ zs, MOk m) ∧ Two PS W pp pm zs zs (Y4) [(g7, .cells #[.int .u32 ip2, .int .u16 po2] 35 (0, 0)), (g6, .cells #[.int .i64 what, .int .u8 q, .slice pa pool.length pc, .int .u16 lo, .int .u16 hi', .int .u16 want, .int .u32 ip, .int .u16 port, .int .i64 kk] 37 (0, 0))]) := ⟨_, HAF.out.1, HAF.out.2, hY4.sub.sub⟩
                      clear hY4 HAF
                      go_wp2_with fail
                      go_meet
                      case rel => exact HZ.out
                    | some x4 =>
                      obtain ⟨ip4, k4⟩ := x4
                      simp only [tko] at C1 C2
                      go_wp2_with fail
                      refine C1.mono ?_
                      rintro e Y1 ⟨rfl, hY1⟩
                      clear C1
                      obtain ⟨g9, hg9⟩ : ∃ g, Y1.heap.size = g := ⟨_, rfl⟩
                      have HY1 : Hid (Two PS W pp pm (aft xs q (some (ip4, k4))) xs (Y1.alloc (.cells #[.int .u32 ip4, .int .u16 k4] 35)) ((g9, .cells #[.int .u32 ip4, .int .u16 k4] 35 (0, 0)) :: [(g7, .cells #[.int .u32 ip2, .int .u16 po2] 35 (0, 0)), (g6, .cells #[.int .i64 what, .int .u8 q, .slice pa pool.length pc, .int .u16 lo, .int .u16 hi', .int .u16 want, .int .u32 ip, .int .u16 port, .int .i64 kk] 37 (0, 0))])) := hY1.push g9 _ hg9.symm
                      clear hY1
                      go_upto_region 23 with fail
                      refine wp_letter (fun V => Two PS W pp pm (aft xs q (some (ip4, k4))) xs (V) ((g9, .cells #[.int .u32 ip4, .int .u16 k4] 35 (0, 0)) :: [(g7, .cells #[.int .u32 ip2, .int .u16 po2] 35 (0, 0)), (g6, .cells #[.int .i64 what, .int .u8 q, .slice pa pool.length pc, .int .u16 lo, .int .u16 hi', .int .u16 want, .int .u32 ip, .int .u16 port, .int .i64 kk] 37 (0, 0))])) (by exact HY1.out) ?_
                      intro Y2 hY2
                      try simp only [hg9]
                      clear HY1 hg9
                      have e1 : Y2.cell? ⟨g6, 1, none⟩ = some (.int .u8 q) := hY2.mem.cell 2 rfl 1
                      have e2 : Y2.cell? ⟨g6, 2, none⟩ = some (.slice pa pool.length pc) := hY2.mem.cell 2 rfl 2
                      have e3 : Y2.cell? ⟨g6, 3, none⟩ = some (.int .u16 lo) := hY2.mem.cell 2 rfl 3
                      have e4 : Y2.cell? ⟨g6, 4, none⟩ = some (.int .u16 hi') := hY2.mem.cell 2 rfl 4
                      have e5 : Y2.cell? ⟨g6, 5, none⟩ = some (.int .u16 want) := hY2.mem.cell 2 rfl 5
                      have D2 := C2.out Y2 _ _ hY2
                      clear C2 x1 x2 x3 x4 x5
                      go_wp2_with fail
                      refine D2.mono ?_
                      rintro e Y3 ⟨rfl, hY3⟩
                      clear D2 hY2
                      obtain ⟨g10, hg10⟩ : ∃ g, Y3.heap.size = g := ⟨_, rfl⟩
                      have HY3 : Hid (Two PS W pp pm (aft xs q (some (ip4, k4))) (aft xs q (some (ip4, k4))) (Y3.alloc (.cells #[.int .u32 ip4, .int .u16 k4] 35)) ((g10, .cells #[.int .u32 ip4, .int .u16 k4] 35 (0, 0)) :: (g9, .cells #[.int .u32 ip4, .int .u16 k4] 35 (0, 0)) :: [(g7, .cells #[.int .u32 ip2, .int .u16 po2] 35 (0, 0)), (g6, .cells #[.int .i64 what, .int .u8 q, .slice pa pool.length pc, .int .u16 lo, .int .u16 hi', .int .u16 want, .int .u32 ip, .int .u16 port, .int .i64 kk] 37 (0, 0))])) := hY3.push g10 _ hg10.symm
                      clear hY3
                      go_upto_region 24 with fail
                      refine wp_letter (fun V => Two PS W pp pm (aft xs q (some (ip4, k4))) (aft xs q (some (ip4, k4))) V ((g10, .cells #[.int .u32 ip4, .int .u16 k4] 35 (0, 0)) :: (g9, .cells #[.int .u32 ip4, .int .u16 k4] 35 (0, 0)) :: [(g7, .cells #[.int .u32 ip2, .int .u16 po2] 35 (0, 0)), (g6, .cells #[.int .i64 what, .int .u8 q, .slice pa pool.length pc, .int .u16 lo, .int .u16 hi', .int .u16 want, .int .u32 ip, .int .u16 port, .int .i64 kk] 37 (0, 0))])) (by exact HY3.out) ?_
                      intro Y4 hY4
                      try simp only [hg10]
                      clear HY3 hg10 e1 e2 e3 e4 e5
                      have a0 : Y4.cell? ⟨g10, 0, none⟩ = some (.int .u32 ip4) := hY4.mem.cell 0 rfl 0
                      have a1 : Y4.cell? ⟨g10, 1, none⟩ = some (.int .u16 k4) := hY4.mem.cell 0 rfl 1
                      have b0 : Y4.cell? ⟨g9, 0, none⟩ = some (.int .u32 ip4) := hY4.mem.cell 1 rfl 0
                      have b1 : Y4.cell? ⟨g9, 1, none⟩ = some (.int .u16 k4) := hY4.mem.cell 1 rfl 1
                      have p1 := pt_eq ip4 k4 ip4 k4
                      simp only [BEq.rfl, Bool.and_self] at p1
                      have HZ : Hid (∃ zs : List Mk, zs.length ≤ i + 1 ∧ (∀ m ∈ zs, MOk m) ∧ Two PS W pp pm zs zs (Y4) [(g7, .cells #[.int .u32 ip2, .int .u16 po2] 35 (0, 0)), (g6, .cells #[.int .i64 what, .int .u8 q, .slice pa pool.length pc, .int .u16 lo, .int .u16 hi', .int .u16 want, .int .u32 ip, .int .u16 port, .int .i64 kk] 37 (0, 0))]) := ⟨_, HAF.out.1, HAF.out.2, hY4.sub.sub⟩
                      clear hY4 HAF
                      go_wp2_with fail
                      go_meet
                      case rel => exact HZ.out
                  · have m1 : (what == 1) = false := by simpa using h1
                    by_cases h2 : what = 2
                    · have m2 : (what == 2) = true := by simpa using h2
                      clear h0 h1 h2
                      have hT9 := HT9.out
                      have x1 : wc.cell? ⟨g6, 1, none⟩ = some (.int .u8 q) := hT9.mem.cell 1 rfl 1
                      have x2 : wc.cell? ⟨g6, 2, none⟩ = some (.slice pa pool.length pc) := hT9.mem.cell 1 rfl 2
                      have x3 : wc.cell? ⟨g6, 3, none⟩ = some (.int .u16 lo) := hT9.mem.cell 1 rfl 3
                      have x4 : wc.cell? ⟨g6, 4, none⟩ = some (.int .u16 hi') := hT9.mem.cell 1 rfl 4
                      have x5 : wc.cell? ⟨g6, 5, none⟩ = some (.int .u16 want) := hT9.mem.cell 1 rfl 5
                      have C1 := hT9.ptake HC.out (by omega) (hrow.out wc hT9.mem.below) (by omega) hfew q lo hi' want hok2.1 hlo hhi hwt
                      have C2 : Hid (∀ (V : World) (zs : List Mk) (L : List (Nat × Obj)), Two PS W pp pm zs xs V L → Calls Tryd.prog 12 #[.pointer (some ⟨pm, 0, none⟩), .int .u8 q, .slice pa pool.length pc, .int .u16 lo, .int .u16 hi', .int .u16 want] V fun e Y => e = .returned (tko (tk xs q (frm lo want) (upt hi' want) pool)) ∧ Two PS W pp pm zs (aft xs q (tk xs q (frm lo want) (upt hi' want) pool)) Y L) := fun V zs L hV => hV.rtake (by omega) (hrow.out V hV.mem.below) (by omega) q lo hi' want hlo hhi hwt
                      have haf := aft_ok (want := want) (l := pool) HOK.out hok2.1 hfew hlo.1 hhi.2
                      have HAF : Hid ((aft xs q (tk xs q (frm lo want) (upt hi' want) pool)).length ≤ i + 1 ∧ ∀ m ∈ aft xs q (tk xs q (frm lo want) (upt hi' want) pool), MOk m) := ⟨Nat.le_trans aft_len (by omega), haf⟩
                      clear haf hT9
                      generalize tk xs q (frm lo want) (upt hi' want) pool = R at *
                      cases R with
                      | none =>
                        simp only [tko] at C1 C2
                        go_wp2_with fail
                        refine C1.mono ?_
                        rintro e Y1 ⟨rfl, hY1⟩
                        clear C1
                        obtain ⟨g9, hg9⟩ : ∃ g, Y1.heap.size = g := ⟨_, rfl⟩
                        have HY1 : Hid (Two PS W pp pm (aft xs q (none)) xs (Y1.alloc (.cells #[.int .u32 0, .int .u16 0] 35)) ((g9, .cells #[.int .u32 0, .int .u16 0] 35 (0, 0)) :: [(g7, .cells #[.int .u32 ip2, .int .u16 po2] 35 (0, 0)), (g6, .cells #[.int .i64 what, .int .u8 q, .slice pa pool.length pc, .int .u16 lo, .int .u16 hi', .int .u16 want, .int .u32 ip, .int .u16 port, .int .i64 kk] 37 (0, 0))])) := hY1.push g9 _ hg9.symm
                        clear hY1
                        go_upto_region 23 with fail
                        refine wp_letter (fun V => Two PS W pp pm (aft xs q (none)) xs (V) ((g9, .cells #[.int .u32 0, .int .u16 0] 35 (0, 0)) :: [(g7, .cells #[.int .u32 ip2, .int .u16 po2] 35 (0, 0)), (g6, .cells #[.int .i64 what, .int .u8 q, .slice pa pool.length pc, .int .u16 lo, .int .u16 hi', .int .u16 want, .int .u32 ip, .int .u16 port, .int .i64 kk] 37 (0, 0))])) (by exact HY1.out) ?_
                        intro Y2 hY2
                        try simp only [hg9]
                        clear HY1 hg9
                        have e1 : Y2.cell? ⟨g6, 1, none⟩ = some (.int .u8 q) := hY2.mem.cell 2 rfl 1
                        have e2 : Y2.cell? ⟨g6, 2, none⟩ = some (.slice pa pool.length pc) := hY2.mem.cell 2 rfl 2
                        have e3 : Y2.cell? ⟨g6, 3, none⟩ = some (.int .u16 lo) := hY2.mem.cell 2 rfl 3
                        have e4 : Y2.cell? ⟨g6, 4, none⟩ = some (.int .u16 hi') := hY2.mem.cell 2 rfl 4
                        have e5 : Y2.cell? ⟨g6, 5, none⟩ = some (.int .u16 want) := hY2.mem.cell 2 rfl 5
                        have D2 := C2.out Y2 _ _ hY2
                        clear C2 x1 x2 x3 x4 x5
                        go_wp2_with fail
                        refine D2.mono ?_
                        rintro e Y3 ⟨rfl, hY3⟩
                        clear D2 hY2
                        obtain ⟨g10, hg10⟩ : ∃ g, Y3.heap.size = g := ⟨_, rfl⟩
                        have HY3 : Hid (Two PS W pp pm (aft xs q (none)) (aft xs q (none)) (Y3.alloc (.cells #[.int .u32 0, .int .u16 0] 35)) ((g10, .cells #[.int .u32 0, .int .u16 0] 35 (0, 0)) :: (g9, .cells #[.int .u32 0, .int .u16 0] 35 (0, 0)) :: [(g7, .cells #[.int .u32 ip2, .int .u16 po2] 35 (0, 0)), (g6, .cells #[.int .i64 what, .int .u8 q, .slice pa pool.length pc, .int .u16 lo, .int .u16 hi', .int .u16 want, .int .u32 ip, .int .u16 port, .int .i64 kk] 37 (0, 0))])) := hY3.push g10 _ hg10.symm
                        clear hY3
                        go_upto_region 24 with fail
                        refine wp_letter (fun V => Two PS W pp pm (aft xs q (none)) (aft xs q (none)) V ((g10, .cells #[.int .u32 0, .int .u16 0] 35 (0, 0)) :: (g9, .cells #[.int .u32 0, .int .u16 0] 35 (0, 0)) :: [(g7, .cells #[.int .u32 ip2, .int .u16 po2] 35 (0, 0)), (g6, .cells #[.int .i64 what, .int .u8 q, .slice pa pool.length pc, .int .u16 lo, .int .u16 hi', .int .u16 want, .int .u32 ip, .int .u16 port, .int .i64 kk] 37 (0, 0))])) (by exact HY3.out) ?_
                        intro Y4 hY4
                        try simp only [hg10]
                        clear HY3 hg10 e1 e2 e3 e4 e5
                        have a0 : Y4.cell? ⟨g10, 0, none⟩ = some (.int .u32 0) := hY4.mem.cell 0 rfl 0
                        have a1 : Y4.cell? ⟨g10, 1, none⟩ = some (.int .u16 0) := hY4.mem.cell 0 rfl 1
                        have b0 : Y4.cell? ⟨g9, 0, none⟩ = some (.int .u32 0) := hY4.mem.cell 1 rfl 0
                        have b1 : Y4.cell? ⟨g9, 1, none⟩ = some (.int .u16 0) := hY4.mem.cell 1 rfl 1
                        have p1 := pt_eq 0 0 0 0
                        simp only [BEq.rfl, Bool.and_self] at p1
                        have HZ : Hid (∃ zs : List Mk, zs.length ≤ i + 1 ∧ (∀ m ∈ zs, MOk m) ∧ Two PS W pp pm zs zs (Y4) [(g7, .cells #[.int .u32 ip2, .int .u16 po2] 35 (0, 0)), (g6, .cells #[.int .i64 what, .int .u8 q, .slice pa pool.length pc, .int .u16 lo, .int .u16 hi', .int .u16 want, .int .u32 ip, .int .u16 port, .int .i64 kk] 37 (0, 0))]) := ⟨_, HAF.out.1, HAF.out.2, hY4.sub.sub⟩
                        clear hY4 HAF
                        go_wp2_with fail
                        go_meet
                        case rel => exact HZ.out
                      | some x4 =>
                        obtain ⟨ip4, k4⟩ := x4
                        simp only [tko] at C1 C2
                        go_wp2_with fail
                        refine C1.mono ?_
                        rintro e Y1 ⟨rfl, hY1⟩
                        clear C1
                        obtain ⟨g9, hg9⟩ : ∃ g, Y1.heap.size = g := ⟨_, rfl⟩
                        have HY1 : Hid (Two PS W pp pm (aft xs q (some (ip4, k4))) xs (Y1.alloc (.cells #[.int .u32 ip4, .int .u16 k4] 35)) ((g9, .cells #[.int .u32 ip4, .int .u16 k4] 35 (0, 0)) :: [(g7, .cells #[.int .u32 ip2, .int .u16 po2] 35 (0, 0)), (g6, .cells #[.int .i64 what, .int .u8 q, .slice pa pool.length pc, .int .u16 lo, .int .u16 hi', .int .u16 want, .int .u32 ip, .int .u16 port, .int .i64 kk] 37 (0, 0))])) := hY1.push g9 _ hg9.symm
                        clear hY1
                        go_upto_region 23 with fail
                        refine wp_letter (fun V => Two PS W pp pm (aft xs q (some (ip4, k4))) xs (V) ((g9, .cells #[.int .u32 ip4, .int .u16 k4] 35 (0, 0)) :: [(g7, .cells #[.int .u32 ip2, .int .u16 po2] 35 (0, 0)), (g6, .cells #[.int .i64 what, .int .u8 q, .slice pa pool.length pc, .int .u16 lo, .int .u16 hi', .int .u16 want, .int .u32 ip, .int .u16 port, .int .i64 kk] 37 (0, 0))])) (by exact HY1.out) ?_
                        intro Y2 hY2
                        try simp only [hg9]
                        clear HY1 hg9
                        have e1 : Y2.cell? ⟨g6, 1, none⟩ = some (.int .u8 q) := hY2.mem.cell 2 rfl 1
                        have e2 : Y2.cell? ⟨g6, 2, none⟩ = some (.slice pa pool.length pc) := hY2.mem.cell 2 rfl 2
                        have e3 : Y2.cell? ⟨g6, 3, none⟩ = some (.int .u16 lo) := hY2.mem.cell 2 rfl 3
                        have e4 : Y2.cell? ⟨g6, 4, none⟩ = some (.int .u16 hi') := hY2.mem.cell 2 rfl 4
                        have e5 : Y2.cell? ⟨g6, 5, none⟩ = some (.int .u16 want) := hY2.mem.cell 2 rfl 5
                        have D2 := C2.out Y2 _ _ hY2
                        clear C2 x1 x2 x3 x4 x5
                        go_wp2_with fail
                        refine D2.mono ?_
                        rintro e Y3 ⟨rfl, hY3⟩
                        clear D2 hY2
                        obtain ⟨g10, hg10⟩ : ∃ g, Y3.heap.size = g := ⟨_, rfl⟩
                        have HY3 : Hid (Two PS W pp pm (aft xs q (some (ip4, k4))) (aft xs q (some (ip4, k4))) (Y3.alloc (.cells #[.int .u32 ip4, .int .u16 k4] 35)) ((g10, .cells #[.int .u32 ip4, .int .u16 k4] 35 (0, 0)) :: (g9, .cells #[.int .u32 ip4, .int .u16 k4] 35 (0, 0)) :: [(g7, .cells #[.int .u32 ip2, .int .u16 po2] 35 (0, 0)), (g6, .cells #[.int .i64 what, .int .u8 q, .slice pa pool.length pc, .int .u16 lo, .int .u16 hi', .int .u16 want, .int .u32 ip, .int .u16 port, .int .i64 kk] 37 (0, 0))])) := hY3.push g10 _ hg10.symm
                        clear hY3
                        go_upto_region 24 with fail
                        refine wp_letter (fun V => Two PS W pp pm (aft xs q (some (ip4, k4))) (aft xs q (some (ip4, k4))) V ((g10, .cells #[.int .u32 ip4, .int .u16 k4] 35 (0, 0)) :: (g9, .cells #[.int .u32 ip4, .int .u16 k4] 35 (0, 0)) :: [(g7, .cells #[.int .u32 ip2, .int .u16 po2] 35 (0, 0)), (g6, .cells #[.int .i64 what, .int .u8 q, .slice pa pool.length pc, .int .u16 lo, .int .u16 hi', .int .u16 want, .int .u32 ip, .int .u16 port, .int .i64 kk] 37 (0, 0))])) (by exact HY3.out) ?_
                        intro Y4 hY4
                        try simp only [hg10]
                        clear HY3 hg10 e1 e2 e3 e4 e5
                        have a0 : Y4.cell? ⟨g10, 0, none⟩ = some (.int .u32 ip4) := hY4.mem.cell 0 rfl 0
                        have a1 : Y4.cell? ⟨g10, 1, none⟩ = some (.int .u16 k4) := hY4.mem.cell 0 rfl 1
                        have b0 : Y4.cell? ⟨g9, 0, none⟩ = some (.int .u32 ip4) := hY4.mem.cell 1 rfl 0
                        have b1 : Y4.cell? ⟨g9, 1, none⟩ = some (.int .u16 k4) := hY4.mem.cell 1 rfl 1
                        have p1 := pt_eq ip4 k4 ip4 k4
                        simp only [BEq.rfl, Bool.and_self] at p1
                        have HZ : Hid (∃ zs : List Mk, zs.length ≤ i + 1 ∧ (∀ m ∈ zs, MOk m) ∧ Two PS W pp pm zs zs (Y4) [(g7, .cells #[.int .u32 ip2, .int .u16 po2] 35 (0, 0)), (g6, .cells #[.int .i64 what, .int .u8 q, .slice pa pool.length pc, .int .u16 lo, .int .u16 hi', .int .u16 want, .int .u32 ip, .int .u16 port, .int .i64 kk] 37 (0, 0))]) := ⟨_, HAF.out.1, HAF.out.2, hY4.sub.sub⟩
                        clear hY4 HAF
                        go_wp2_with fail
                        go_meet
                        case rel => exact HZ.out
                    · have m2 : (what == 2) = false := by simpa using h2
                      by_cases h3 : what = 3
                      · have m3 : (what == 3) = true := by simpa using h3
                        clear h0 h1 h2 h3
                        have HQ : Hid ((if (q, ip2, po2) ∈ xs then xs else xs ++ [(q, ip2, po2)]).length ≤ i + 1 ∧ ∀ m ∈ (if (q, ip2, po2) ∈ xs then xs else xs ++ [(q, ip2, po2)]), MOk m) := ⟨Nat.le_trans hold_len (by omega), hold_ok HOK.out hok2⟩
                        have P1 : Hid (∀ V, Two PS W pp pm xs xs (V) [(g7, .cells #[.int .u32 ip2, .int .u16 po2] 35 (0, 0)), (g6, .cells #[.int .i64 what, .int .u8 q, .slice pa pool.length pc, .int .u16 lo, .int .u16 hi', .int .u16 want, .int .u32 ip, .int .u16 port, .int .i64 kk] 37 (0, 0))] → Calls Tryd.prog 13 #[.pointer (some ⟨pp, 0, none⟩), .int .u8 q, .agg #[.int .u32 ip2, .int .u16 po2]] V fun e Y => e = .returned (.int .i64 (if (q, ip2, po2) ∈ xs then 121 else 0)) ∧ Two PS W pp pm (if (q, ip2, po2) ∈ xs then xs else xs ++ [(q, ip2, po2)]) xs (Y) [(g7, .cells #[.int .u32 ip2, .int .u16 po2] 35 (0, 0)), (g6, .cells #[.int .i64 what, .int .u8 q, .slice pa pool.length pc, .int .u16 lo, .int .u16 hi', .int .u16 want, .int .u32 ip, .int .u16 port, .int .i64 kk] 37 (0, 0))]) := fun V hV => hV.phold HC.out (by omega) q ip2 po2 hok2
                        have P2 : Hid (∀ V, Two PS W pp pm xs (if (q, ip2, po2) ∈ xs then xs else xs ++ [(q, ip2, po2)]) (V) [(g7, .cells #[.int .u32 ip2, .int .u16 po2] 35 (0, 0)), (g6, .cells #[.int .i64 what, .int .u8 q, .slice pa pool.length pc, .int .u16 lo, .int .u16 hi', .int .u16 want, .int .u32 ip, .int .u16 port, .int .i64 kk] 37 (0, 0))] → Calls Tryd.prog 13 #[.pointer (some ⟨pp, 0, none⟩), .int .u8 q, .agg #[.int .u32 ip2, .int .u16 po2]] V fun e Y => e = .returned (.int .i64 (if (q, ip2, po2) ∈ xs then 121 else 0)) ∧ Two PS W pp pm (if (q, ip2, po2) ∈ xs then xs else xs ++ [(q, ip2, po2)]) (if (q, ip2, po2) ∈ xs then xs else xs ++ [(q, ip2, po2)]) (Y) [(g7, .cells #[.int .u32 ip2, .int .u16 po2] 35 (0, 0)), (g6, .cells #[.int .i64 what, .int .u8 q, .slice pa pool.length pc, .int .u16 lo, .int .u16 hi', .int .u16 want, .int .u32 ip, .int .u16 port, .int .i64 kk] 37 (0, 0))]) := fun V hV => hV.phold HC.out (by omega) q ip2 po2 hok2
                        have R1 : Hid (∀ V, Two PS W pp pm xs xs (V) [(g7, .cells #[.int .u32 ip2, .int .u16 po2] 35 (0, 0)), (g6, .cells #[.int .i64 what, .int .u8 q, .slice pa pool.length pc, .int .u16 lo, .int .u16 hi', .int .u16 want, .int .u32 ip, .int .u16 port, .int .i64 kk] 37 (0, 0))] → Calls Tryd.prog 14 #[.pointer (some ⟨pm, 0, none⟩), .int .u8 q, .agg #[.int .u32 ip2, .int .u16 po2]] V fun e Y => e = .returned (.int .i64 (if (q, ip2, po2) ∈ xs then 121 else 0)) ∧ Two PS W pp pm xs (if (q, ip2, po2) ∈ xs then xs else xs ++ [(q, ip2, po2)]) (Y) [(g7, .cells #[.int .u32 ip2, .int .u16 po2] 35 (0, 0)), (g6, .cells #[.int .i64 what, .int .u8 q, .slice pa pool.length pc, .int .u16 lo, .int .u16 hi', .int .u16 want, .int .u32 ip, .int .u16 port, .int .i64 kk] 37 (0, 0))]) := fun V hV => hV.rhold (by omega) q ip2 po2
                        have R2 : Hid (∀ V, Two PS W pp pm (if (q, ip2, po2) ∈ xs then xs else xs ++ [(q, ip2, po2)]) xs (V) [(g7, .cells #[.int .u32 ip2, .int .u16 po2] 35 (0, 0)), (g6, .cells #[.int .i64 what, .int .u8 q, .slice pa pool.length pc, .int .u16 lo, .int .u16 hi', .int .u16 want, .int .u32 ip, .int .u16 port, .int .i64 kk] 37 (0, 0))] → Calls Tryd.prog 14 #[.pointer (some ⟨pm, 0, none⟩), .int .u8 q, .agg #[.int .u32 ip2, .int .u16 po2]] V fun e Y => e = .returned (.int .i64 (if (q, ip2, po2) ∈ xs then 121 else 0)) ∧ Two PS W pp pm (if (q, ip2, po2) ∈ xs then xs else xs ++ [(q, ip2, po2)]) (if (q, ip2, po2) ∈ xs then xs else xs ++ [(q, ip2, po2)]) (Y) [(g7, .cells #[.int .u32 ip2, .int .u16 po2] 35 (0, 0)), (g6, .cells #[.int .i64 what, .int .u8 q, .slice pa pool.length pc, .int .u16 lo, .int .u16 hi', .int .u16 want, .int .u32 ip, .int .u16 port, .int .i64 kk] 37 (0, 0))]) := fun V hV => hV.rhold (by omega) q ip2 po2
                        generalize (if (q, ip2, po2) ∈ xs then xs else xs ++ [(q, ip2, po2)]) = zs at *
                        obtain ⟨rv, hrv⟩ : ∃ rv : Int, (if (q, ip2, po2) ∈ xs then 121 else 0) = rv := ⟨_, rfl⟩
                        simp only [hrv] at P1 P2 R1 R2
                        have n0 : (rv != rv) = false := by simp
                        clear hrv
                        go_upto_region 27 with fail
                        refine wp_region_held_drew (S := fun V => V.cell? ⟨g6, 1, none⟩ = some (.int .u8 q) ∧ V.cell? ⟨g7, 0, none⟩ = some (.int .u32 ip2) ∧ V.cell? ⟨g7, 1, none⟩ = some (.int .u16 po2)) (by kernel_rfl) (⟨HT9.out.mem.cell 1 rfl 1, HT9.out.mem.cell 0 rfl 0, HT9.out.mem.cell 0 rfl 1⟩) (fun hHeld => ?_)
                        have hT0 := HT9.out.after ((Below.refl wc.heap.size wc).drew)
                        refine wpAnyH_take (i := 0) (v := ?_) rfl (by kernel_rfl) (by kernel_rfl) (by kernel_rfl) (fun _ _ _ h => h) (Or.inl ⟨by rfl, ?hcqy0⟩) (by assumption) ?hcqr0
                        case hcqy0 =>
                          intro w hSw
                          (try dsimp only at hSw)
                          go_simp
                          all_goals with_reducible rfl
                        try simp only [List.getElem_toArray, List.getElem_cons_zero, List.getElem_cons_succ, Act.put, List.setIfInBounds_toArray, List.set_cons_zero, List.set_cons_succ]
                        refine wpAnyH_take (i := 1) (v := ?_) rfl (by kernel_rfl) (by kernel_rfl) (by kernel_rfl) (fun _ _ _ h => h) (Or.inl ⟨by rfl, ?hcqy1⟩) (by assumption) ?hcqr1
                        case hcqy1 =>
                          intro w hSw
                          (try dsimp only at hSw)
                          go_simp
                          all_goals with_reducible rfl
                        try simp only [List.getElem_toArray, List.getElem_cons_zero, List.getElem_cons_succ, Act.put, List.setIfInBounds_toArray, List.set_cons_zero, List.set_cons_succ]
                        refine wpAnyH_take (i := 2) (v := ?_) rfl (by kernel_rfl) (by kernel_rfl) (by kernel_rfl) (fun _ _ _ h => h) (Or.inl ⟨by rfl, ?hcqy2⟩) (by assumption) ?hcqr2
                        case hcqy2 =>
                          intro w hSw
                          (try dsimp only at hSw)
                          go_simp
                          all_goals with_reducible rfl
                        try simp only [List.getElem_toArray, List.getElem_cons_zero, List.getElem_cons_succ, Act.put, List.setIfInBounds_toArray, List.set_cons_zero, List.set_cons_succ]
                        refine wpAnyH_take (i := 3) (v := ?_) rfl (by kernel_rfl) (by kernel_rfl) (by kernel_rfl) (fun _ _ _ h => h) (Or.inl ⟨by rfl, ?hcqy3⟩) (by assumption) ?hcqr3
                        case hcqy3 =>
                          intro w hSw
                          (try dsimp only at hSw)
                          go_simp
                          all_goals with_reducible rfl
                        try simp only [List.getElem_toArray, List.getElem_cons_zero, List.getElem_cons_succ, Act.put, List.setIfInBounds_toArray, List.set_cons_zero, List.set_cons_succ]
                        refine wpAnyH_take (i := 5) (v := ?_) rfl (by kernel_rfl) (by kernel_rfl) (by kernel_rfl) (fun _ _ _ h => h) (Or.inl ⟨by rfl, ?hcqy5⟩) (by assumption) ?hcqr5
                        case hcqy5 =>
                          intro w hSw
                          (try dsimp only at hSw)
                          go_simp
                          all_goals with_reducible rfl
                        try simp only [List.getElem_toArray, List.getElem_cons_zero, List.getElem_cons_succ, Act.put, List.setIfInBounds_toArray, List.set_cons_zero, List.set_cons_succ]
                        refine wpAnyH_take (i := 6) (v := ?_) rfl (by kernel_rfl) (by kernel_rfl) (by kernel_rfl) (fun _ _ _ h => h) (Or.inl ⟨by rfl, ?hcqy6⟩) (by assumption) ?hcqr6
                        case hcqy6 =>
                          intro w hSw
                          (try dsimp only at hSw)
                          go_simp
                          all_goals with_reducible rfl
                        try simp only [List.getElem_toArray, List.getElem_cons_zero, List.getElem_cons_succ, Act.put, List.setIfInBounds_toArray, List.set_cons_zero, List.set_cons_succ]
                        refine wpAnyH_take (i := 7) (v := ?_) rfl (by kernel_rfl) (by kernel_rfl) (by kernel_rfl) (fun _ _ _ h => h) (Or.inl ⟨by rfl, ?hcqy7⟩) (by assumption) ?hcqr7
                        case hcqy7 =>
                          intro w hSw
                          (try dsimp only at hSw)
                          go_simp
                          all_goals with_reducible rfl
                        try simp only [List.getElem_toArray, List.getElem_cons_zero, List.getElem_cons_succ, Act.put, List.setIfInBounds_toArray, List.set_cons_zero, List.set_cons_succ]
                        refine wpAnyH_take (i := 8) (v := ?_) rfl (by kernel_rfl) (by kernel_rfl) (by kernel_rfl) (fun _ _ _ h => h) (Or.inl ⟨by rfl, ?hcqy8⟩) (by assumption) ?hcqr8
                        case hcqy8 =>
                          intro w hSw
                          (try dsimp only at hSw)
                          go_simp
                          all_goals with_reducible rfl
                        try simp only [List.getElem_toArray, List.getElem_cons_zero, List.getElem_cons_succ, Act.put, List.setIfInBounds_toArray, List.set_cons_zero, List.set_cons_succ]
                        refine wpAnyH_ready (rs := [4]) (by kernel_rfl) (by simp) ?_
                        refine AllReadyH.cons rfl (fun KK hK => ?_) AllReadyH.nil
                        go_simp
                        with_reducible refine (P1.out _ hT0).mono ?_
                        rintro e Y1 ⟨rfl, hT1⟩
                        try go_wp2_with fail
                        refine hK.out _ _ (⟨hT1.mem.cell 1 rfl 1, hT1.mem.cell 0 rfl 0, hT1.mem.cell 0 rfl 1⟩) (fun hHeld => ?_)
                        clear hK KK
                        try simp only [List.getElem_toArray, List.getElem_cons_zero, List.getElem_cons_succ, Act.put, List.setIfInBounds_toArray, List.set_cons_zero, List.set_cons_succ]
                        refine wpAnyH_ready (rs := [9]) (by kernel_rfl) (by simp) ?_
                        refine AllReadyH.cons rfl (fun KK hK => ?_) AllReadyH.nil
                        go_simp
                        with_reducible refine (R2.out _ hT1).mono ?_
                        rintro e Y2 ⟨rfl, hT2⟩
                        try go_wp2_with fail
                        refine hK.out _ _ (⟨hT2.mem.cell 1 rfl 1, hT2.mem.cell 0 rfl 0, hT2.mem.cell 0 rfl 1⟩) (fun hHeld => ?_)
                        clear hK KK
                        try simp only [List.getElem_toArray, List.getElem_cons_zero, List.getElem_cons_succ, Act.put, List.setIfInBounds_toArray, List.set_cons_zero, List.set_cons_succ]
                        refine wpAnyH_ready (rs := [10]) (by kernel_rfl) (by simp) ?_
                        refine AllReadyH.cons rfl (fun KK hK => ?_) AllReadyH.nil
                        go_simp
                        refine hK.out _ _ (⟨hT2.mem.cell 1 rfl 1, hT2.mem.cell 0 rfl 0, hT2.mem.cell 0 rfl 1⟩) (fun hHeld => ?_)
                        clear hK KK
                        try simp only [List.getElem_toArray, List.getElem_cons_zero, List.getElem_cons_succ, Act.put, List.setIfInBounds_toArray, List.set_cons_zero, List.set_cons_succ]
                        refine wpAnyH_done (by kernel_rfl) ?_ _
                        have HZ : Hid (∃ zs : List Mk, zs.length ≤ i + 1 ∧ (∀ m ∈ zs, MOk m) ∧ Two PS W pp pm zs zs (Y2) [(g7, .cells #[.int .u32 ip2, .int .u16 po2] 35 (0, 0)), (g6, .cells #[.int .i64 what, .int .u8 q, .slice pa pool.length pc, .int .u16 lo, .int .u16 hi', .int .u16 want, .int .u32 ip, .int .u16 port, .int .i64 kk] 37 (0, 0))]) := ⟨zs, HQ.out.1, HQ.out.2, hT2⟩
                        clear hT0 hT1 hT2 P1 P2 R1 R2
                        go_wp2_with fail
                        go_meet
                        case rel => exact HZ.out
                      · have m3 : (what == 3) = false := by simpa using h3
                        clear h0 h1 h2 h3
                        have HQ : Hid ((xs.erase (q, ip2, po2)).length ≤ i + 1 ∧ ∀ m ∈ (xs.erase (q, ip2, po2)), MOk m) := ⟨Nat.le_trans List.length_erase_le (by omega), (fun m hm => HOK.out m (List.mem_of_mem_erase hm))⟩
                        have P1 : Hid (∀ V, Two PS W pp pm xs xs (V) [(g7, .cells #[.int .u32 ip2, .int .u16 po2] 35 (0, 0)), (g6, .cells #[.int .i64 what, .int .u8 q, .slice pa pool.length pc, .int .u16 lo, .int .u16 hi', .int .u16 want, .int .u32 ip, .int .u16 port, .int .i64 kk] 37 (0, 0))] → Calls Tryd.prog 15 #[.pointer (some ⟨pp, 0, none⟩), .int .u8 q, .agg #[.int .u32 ip2, .int .u16 po2]] V fun e Y => e = .returned (.int .i64 (if (q, ip2, po2) ∈ xs then 0 else 121)) ∧ Two PS W pp pm (xs.erase (q, ip2, po2)) xs (Y) [(g7, .cells #[.int .u32 ip2, .int .u16 po2] 35 (0, 0)), (g6, .cells #[.int .i64 what, .int .u8 q, .slice pa pool.length pc, .int .u16 lo, .int .u16 hi', .int .u16 want, .int .u32 ip, .int .u16 port, .int .i64 kk] 37 (0, 0))]) := fun V hV => hV.pfree HC.out (by omega) q ip2 po2 hok2
                        have P2 : Hid (∀ V, Two PS W pp pm xs (xs.erase (q, ip2, po2)) (V) [(g7, .cells #[.int .u32 ip2, .int .u16 po2] 35 (0, 0)), (g6, .cells #[.int .i64 what, .int .u8 q, .slice pa pool.length pc, .int .u16 lo, .int .u16 hi', .int .u16 want, .int .u32 ip, .int .u16 port, .int .i64 kk] 37 (0, 0))] → Calls Tryd.prog 15 #[.pointer (some ⟨pp, 0, none⟩), .int .u8 q, .agg #[.int .u32 ip2, .int .u16 po2]] V fun e Y => e = .returned (.int .i64 (if (q, ip2, po2) ∈ xs then 0 else 121)) ∧ Two PS W pp pm (xs.erase (q, ip2, po2)) (xs.erase (q, ip2, po2)) (Y) [(g7, .cells #[.int .u32 ip2, .int .u16 po2] 35 (0, 0)), (g6, .cells #[.int .i64 what, .int .u8 q, .slice pa pool.length pc, .int .u16 lo, .int .u16 hi', .int .u16 want, .int .u32 ip, .int .u16 port, .int .i64 kk] 37 (0, 0))]) := fun V hV => hV.pfree HC.out (by omega) q ip2 po2 hok2
                        have R1 : Hid (∀ V, Two PS W pp pm xs xs (V) [(g7, .cells #[.int .u32 ip2, .int .u16 po2] 35 (0, 0)), (g6, .cells #[.int .i64 what, .int .u8 q, .slice pa pool.length pc, .int .u16 lo, .int .u16 hi', .int .u16 want, .int .u32 ip, .int .u16 port, .int .i64 kk] 37 (0, 0))] → Calls Tryd.prog 16 #[.pointer (some ⟨pm, 0, none⟩), .int .u8 q, .agg #[.int .u32 ip2, .int .u16 po2]] V fun e Y => e = .returned (.int .i64 (if (q, ip2, po2) ∈ xs then 0 else 121)) ∧ Two PS W pp pm xs (xs.erase (q, ip2, po2)) (Y) [(g7, .cells #[.int .u32 ip2, .int .u16 po2] 35 (0, 0)), (g6, .cells #[.int .i64 what, .int .u8 q, .slice pa pool.length pc, .int .u16 lo, .int .u16 hi', .int .u16 want, .int .u32 ip, .int .u16 port, .int .i64 kk] 37 (0, 0))]) := fun V hV => hV.rfree (by omega) q ip2 po2
                        have R2 : Hid (∀ V, Two PS W pp pm (xs.erase (q, ip2, po2)) xs (V) [(g7, .cells #[.int .u32 ip2, .int .u16 po2] 35 (0, 0)), (g6, .cells #[.int .i64 what, .int .u8 q, .slice pa pool.length pc, .int .u16 lo, .int .u16 hi', .int .u16 want, .int .u32 ip, .int .u16 port, .int .i64 kk] 37 (0, 0))] → Calls Tryd.prog 16 #[.pointer (some ⟨pm, 0, none⟩), .int .u8 q, .agg #[.int .u32 ip2, .int .u16 po2]] V fun e Y => e = .returned (.int .i64 (if (q, ip2, po2) ∈ xs then 0 else 121)) ∧ Two PS W pp pm (xs.erase (q, ip2, po2)) (xs.erase (q, ip2, po2)) (Y) [(g7, .cells #[.int .u32 ip2, .int .u16 po2] 35 (0, 0)), (g6, .cells #[.int .i64 what, .int .u8 q, .slice pa pool.length pc, .int .u16 lo, .int .u16 hi', .int .u16 want, .int .u32 ip, .int .u16 port, .int .i64 kk] 37 (0, 0))]) := fun V hV => hV.rfree (by omega) q ip2 po2
                        generalize (xs.erase (q, ip2, po2)) = zs at *
                        obtain ⟨rv, hrv⟩ : ∃ rv : Int, (if (q, ip2, po2) ∈ xs then 0 else 121) = rv := ⟨_, rfl⟩
                        simp only [hrv] at P1 P2 R1 R2
                        have n0 : (rv != rv) = false := by simp
                        clear hrv
                        go_upto_region 17 with fail
                        refine wp_region_held_drew (S := fun V => V.cell? ⟨g6, 1, none⟩ = some (.int .u8 q) ∧ V.cell? ⟨g7, 0, none⟩ = some (.int .u32 ip2) ∧ V.cell? ⟨g7, 1, none⟩ = some (.int .u16 po2)) (by kernel_rfl) (⟨HT9.out.mem.cell 1 rfl 1, HT9.out.mem.cell 0 rfl 0, HT9.out.mem.cell 0 rfl 1⟩) (fun hHeld => ?_)
                        have hT0 := HT9.out.after ((Below.refl wc.heap.size wc).drew)
                        refine wpAnyH_take (i := 0) (v := ?_) rfl (by kernel_rfl) (by kernel_rfl) (by kernel_rfl) (fun _ _ _ h => h) (Or.inl ⟨by rfl, ?fcqy0⟩) (by assumption) ?fcqr0
                        case fcqy0 =>
                          intro w hSw
                          (try dsimp only at hSw)
                          go_simp
                          all_goals with_reducible rfl
                        try simp only [List.getElem_toArray, List.getElem_cons_zero, List.getElem_cons_succ, Act.put, List.setIfInBounds_toArray, List.set_cons_zero, List.set_cons_succ]
                        refine wpAnyH_take (i := 1) (v := ?_) rfl (by kernel_rfl) (by kernel_rfl) (by kernel_rfl) (fun _ _ _ h => h) (Or.inl ⟨by rfl, ?fcqy1⟩) (by assumption) ?fcqr1
                        case fcqy1 =>
                          intro w hSw
                          (try dsimp only at hSw)
                          go_simp
                          all_goals with_reducible rfl
                        try simp only [List.getElem_toArray, List.getElem_cons_zero, List.getElem_cons_succ, Act.put, List.setIfInBounds_toArray, List.set_cons_zero, List.set_cons_succ]
                        refine wpAnyH_take (i := 2) (v := ?_) rfl (by kernel_rfl) (by kernel_rfl) (by kernel_rfl) (fun _ _ _ h => h) (Or.inl ⟨by rfl, ?fcqy2⟩) (by assumption) ?fcqr2
                        case fcqy2 =>
                          intro w hSw
                          (try dsimp only at hSw)
                          go_simp
                          all_goals with_reducible rfl
                        try simp only [List.getElem_toArray, List.getElem_cons_zero, List.getElem_cons_succ, Act.put, List.setIfInBounds_toArray, List.set_cons_zero, List.set_cons_succ]
                        refine wpAnyH_take (i := 3) (v := ?_) rfl (by kernel_rfl) (by kernel_rfl) (by kernel_rfl) (fun _ _ _ h => h) (Or.inl ⟨by rfl, ?fcqy3⟩) (by assumption) ?fcqr3
                        case fcqy3 =>
                          intro w hSw
                          (try dsimp only at hSw)
                          go_simp
                          all_goals with_reducible rfl
                        try simp only [List.getElem_toArray, List.getElem_cons_zero, List.getElem_cons_succ, Act.put, List.setIfInBounds_toArray, List.set_cons_zero, List.set_cons_succ]
                        refine wpAnyH_take (i := 5) (v := ?_) rfl (by kernel_rfl) (by kernel_rfl) (by kernel_rfl) (fun _ _ _ h => h) (Or.inl ⟨by rfl, ?fcqy5⟩) (by assumption) ?fcqr5
                        case fcqy5 =>
                          intro w hSw
                          (try dsimp only at hSw)
                          go_simp
                          all_goals with_reducible rfl
                        try simp only [List.getElem_toArray, List.getElem_cons_zero, List.getElem_cons_succ, Act.put, List.setIfInBounds_toArray, List.set_cons_zero, List.set_cons_succ]
                        refine wpAnyH_take (i := 6) (v := ?_) rfl (by kernel_rfl) (by kernel_rfl) (by kernel_rfl) (fun _ _ _ h => h) (Or.inl ⟨by rfl, ?fcqy6⟩) (by assumption) ?fcqr6
                        case fcqy6 =>
                          intro w hSw
                          (try dsimp only at hSw)
                          go_simp
                          all_goals with_reducible rfl
                        try simp only [List.getElem_toArray, List.getElem_cons_zero, List.getElem_cons_succ, Act.put, List.setIfInBounds_toArray, List.set_cons_zero, List.set_cons_succ]
                        refine wpAnyH_take (i := 7) (v := ?_) rfl (by kernel_rfl) (by kernel_rfl) (by kernel_rfl) (fun _ _ _ h => h) (Or.inl ⟨by rfl, ?fcqy7⟩) (by assumption) ?fcqr7
                        case fcqy7 =>
                          intro w hSw
                          (try dsimp only at hSw)
                          go_simp
                          all_goals with_reducible rfl
                        try simp only [List.getElem_toArray, List.getElem_cons_zero, List.getElem_cons_succ, Act.put, List.setIfInBounds_toArray, List.set_cons_zero, List.set_cons_succ]
                        refine wpAnyH_take (i := 8) (v := ?_) rfl (by kernel_rfl) (by kernel_rfl) (by kernel_rfl) (fun _ _ _ h => h) (Or.inl ⟨by rfl, ?fcqy8⟩) (by assumption) ?fcqr8
                        case fcqy8 =>
                          intro w hSw
                          (try dsimp only at hSw)
                          go_simp
                          all_goals with_reducible rfl
                        try simp only [List.getElem_toArray, List.getElem_cons_zero, List.getElem_cons_succ, Act.put, List.setIfInBounds_toArray, List.set_cons_zero, List.set_cons_succ]
                        refine wpAnyH_ready (rs := [4]) (by kernel_rfl) (by simp) ?_
                        refine AllReadyH.cons rfl (fun KK hK => ?_) AllReadyH.nil
                        go_simp
                        with_reducible refine (P1.out _ hT0).mono ?_
                        rintro e Y1 ⟨rfl, hT1⟩
                        try go_wp2_with fail
                        refine hK.out _ _ (⟨hT1.mem.cell 1 rfl 1, hT1.mem.cell 0 rfl 0, hT1.mem.cell 0 rfl 1⟩) (fun hHeld => ?_)
                        clear hK KK
                        try simp only [List.getElem_toArray, List.getElem_cons_zero, List.getElem_cons_succ, Act.put, List.setIfInBounds_toArray, List.set_cons_zero, List.set_cons_succ]
                        refine wpAnyH_ready (rs := [9]) (by kernel_rfl) (by simp) ?_
                        refine AllReadyH.cons rfl (fun KK hK => ?_) AllReadyH.nil
                        go_simp
                        with_reducible refine (R2.out _ hT1).mono ?_
                        rintro e Y2 ⟨rfl, hT2⟩
                        try go_wp2_with fail
                        refine hK.out _ _ (⟨hT2.mem.cell 1 rfl 1, hT2.mem.cell 0 rfl 0, hT2.mem.cell 0 rfl 1⟩) (fun hHeld => ?_)
                        clear hK KK
                        try simp only [List.getElem_toArray, List.getElem_cons_zero, List.getElem_cons_succ, Act.put, List.setIfInBounds_toArray, List.set_cons_zero, List.set_cons_succ]
                        refine wpAnyH_ready (rs := [10]) (by kernel_rfl) (by simp) ?_
                        refine AllReadyH.cons rfl (fun KK hK => ?_) AllReadyH.nil
                        go_simp
                        refine hK.out _ _ (⟨hT2.mem.cell 1 rfl 1, hT2.mem.cell 0 rfl 0, hT2.mem.cell 0 rfl 1⟩) (fun hHeld => ?_)
                        clear hK KK
                        try simp only [List.getElem_toArray, List.getElem_cons_zero, List.getElem_cons_succ, Act.put, List.setIfInBounds_toArray, List.set_cons_zero, List.set_cons_succ]
                        refine wpAnyH_done (by kernel_rfl) ?_ _
                        have HZ : Hid (∃ zs : List Mk, zs.length ≤ i + 1 ∧ (∀ m ∈ zs, MOk m) ∧ Two PS W pp pm zs zs (Y2) [(g7, .cells #[.int .u32 ip2, .int .u16 po2] 35 (0, 0)), (g6, .cells #[.int .i64 what, .int .u8 q, .slice pa pool.length pc, .int .u16 lo, .int .u16 hi', .int .u16 want, .int .u32 ip, .int .u16 port, .int .i64 kk] 37 (0, 0))]) := ⟨zs, HQ.out.1, HQ.out.2, hT2⟩
                        clear hT0 hT1 hT2 P1 P2 R1 R2
                        go_wp2_with fail
                        go_meet
                        case rel => exact HZ.out
              case rest => as_aux_lemma =>
                obtain ⟨zs, hzl, hzo, hTz⟩ := hcut
                obtain ⟨ve, cpe, hre⟩ := hTz.row
                obtain ⟨ae, ce, rfl, -, -, -⟩ := mark_at hre
                have HQ : Hid (zs.length ≤ i + 1 ∧ ∀ m ∈ zs, MOk m) := ⟨hzl, hzo⟩
                have hT0 := hTz.after ((Below.refl wc.heap.size wc).drew)
                have cp0 : wc.drew.cell? ⟨pm, 0, none⟩ = some (.slice ae zs.length ce) := cpe
                have n1 : ((zs.length : Int) != (zs.length : Int)) = false := by simp
                have PC1 : Hid (∀ V, Two PS W pp pm zs zs (V) [(g7, .cells #[.int .u32 ip2, .int .u16 po2] 35 (0, 0)), (g6, .cells #[.int .i64 what, .int .u8 q, .slice pa pool.length pc, .int .u16 lo, .int .u16 hi', .int .u16 want, .int .u32 ip, .int .u16 port, .int .i64 kk] 37 (0, 0))] → Calls Tryd.prog 17 #[.pointer (some ⟨pp, 0, none⟩)] V fun e Y => e = .returned (.int .i64 zs.length) ∧ Two PS W pp pm zs zs (Y) [(g7, .cells #[.int .u32 ip2, .int .u16 po2] 35 (0, 0)), (g6, .cells #[.int .i64 what, .int .u8 q, .slice pa pool.length pc, .int .u16 lo, .int .u16 hi', .int .u16 want, .int .u32 ip, .int .u16 port, .int .i64 kk] 37 (0, 0))] ∧ Y.cell? ⟨pm, 0, none⟩ = V.cell? ⟨pm, 0, none⟩) := fun V hV => hV.pcount HC.out (by omega)
                have PC2 : Hid (∀ V, Two PS W pp pm zs zs (V) [(g7, .cells #[.int .u32 ip2, .int .u16 po2] 35 (0, 0)), (g6, .cells #[.int .i64 what, .int .u8 q, .slice pa pool.length pc, .int .u16 lo, .int .u16 hi', .int .u16 want, .int .u32 ip, .int .u16 port, .int .i64 kk] 37 (0, 0))] → Calls Tryd.prog 18 #[.pointer (some ⟨pp, 0, none⟩), .int .u8 q, .agg #[.int .u32 ip2, .int .u16 po2]] V fun e Y => e = .returned (.bool (decide ((q, ip2, po2) ∈ zs))) ∧ Two PS W pp pm zs zs (Y) [(g7, .cells #[.int .u32 ip2, .int .u16 po2] 35 (0, 0)), (g6, .cells #[.int .i64 what, .int .u8 q, .slice pa pool.length pc, .int .u16 lo, .int .u16 hi', .int .u16 want, .int .u32 ip, .int .u16 port, .int .i64 kk] 37 (0, 0))] ∧ Y.cell? ⟨pm, 0, none⟩ = V.cell? ⟨pm, 0, none⟩) := fun V hV => hV.pheld HC.out (by omega) q ip2 po2 hok2
                have PC3 : Hid (∀ V, Two PS W pp pm zs zs (V) [(g7, .cells #[.int .u32 ip2, .int .u16 po2] 35 (0, 0)), (g6, .cells #[.int .i64 what, .int .u8 q, .slice pa pool.length pc, .int .u16 lo, .int .u16 hi', .int .u16 want, .int .u32 ip, .int .u16 port, .int .i64 kk] 37 (0, 0))] → Calls Tryd.prog 19 #[.pointer (some ⟨pm, 0, none⟩), .int .u8 q, .agg #[.int .u32 ip2, .int .u16 po2]] V fun e Y => e = .returned (.bool (decide ((q, ip2, po2) ∈ zs))) ∧ Two PS W pp pm zs zs (Y) [(g7, .cells #[.int .u32 ip2, .int .u16 po2] 35 (0, 0)), (g6, .cells #[.int .i64 what, .int .u8 q, .slice pa pool.length pc, .int .u16 lo, .int .u16 hi', .int .u16 want, .int .u32 ip, .int .u16 port, .int .i64 kk] 37 (0, 0))] ∧ Y.cell? ⟨pm, 0, none⟩ = V.cell? ⟨pm, 0, none⟩) := fun V hV => hV.rhas q ip2 po2
                obtain ⟨hb, hhb⟩ : ∃ b : Bool, decide ((q, ip2, po2) ∈ zs) = b := ⟨_, rfl⟩
                rw [hhb] at PC2 PC3
                have n2 : (hb != hb) = false := by simp
                clear hTz hre hhb hzl hzo
                go_upto_region 29 with fail
                refine wp_region_held_drew (S := fun V => V.cell? ⟨g6, 1, none⟩ = some (.int .u8 q) ∧ V.cell? ⟨g7, 0, none⟩ = some (.int .u32 ip2) ∧ V.cell? ⟨g7, 1, none⟩ = some (.int .u16 po2) ∧ V.cell? ⟨pm, 0, none⟩ = some (.slice ae zs.length ce)) (by kernel_rfl) (⟨hT0.mem.cell 1 rfl 1, hT0.mem.cell 0 rfl 0, hT0.mem.cell 0 rfl 1, cp0⟩) (fun hHeld => ?_)
                refine wpAnyH_take (i := 0) (v := ?_) rfl (by kernel_rfl) (by kernel_rfl) (by kernel_rfl) (fun _ _ _ h => h) (Or.inl ⟨by rfl, ?zcqy0⟩) (by assumption) ?zcqr0
                case zcqy0 =>
                  intro w hSw
                  (try dsimp only at hSw)
                  go_simp
                  all_goals with_reducible rfl
                try simp only [List.getElem_toArray, List.getElem_cons_zero, List.getElem_cons_succ, Act.put, List.setIfInBounds_toArray, List.set_cons_zero, List.set_cons_succ]
                refine wpAnyH_take (i := 2) (v := ?_) rfl (by kernel_rfl) (by kernel_rfl) (by kernel_rfl) (fun _ _ _ h => h) (Or.inl ⟨by rfl, ?zcqy2⟩) (by assumption) ?zcqr2
                case zcqy2 =>
                  intro w hSw
                  (try dsimp only at hSw)
                  go_simp
                  all_goals with_reducible rfl
                try simp only [List.getElem_toArray, List.getElem_cons_zero, List.getElem_cons_succ, Act.put, List.setIfInBounds_toArray, List.set_cons_zero, List.set_cons_succ]
                refine wpAnyH_take (i := 3) (v := ?_) rfl (by kernel_rfl) (by kernel_rfl) (by kernel_rfl) (fun _ _ _ h => h) (Or.inl ⟨by rfl, ?zcqy3⟩) (by assumption) ?zcqr3
                case zcqy3 =>
                  intro w hSw
                  (try dsimp only at hSw)
                  go_simp
                  all_goals with_reducible rfl
                try simp only [List.getElem_toArray, List.getElem_cons_zero, List.getElem_cons_succ, Act.put, List.setIfInBounds_toArray, List.set_cons_zero, List.set_cons_succ]
                refine wpAnyH_take (i := 4) (v := ?_) rfl (by kernel_rfl) (by kernel_rfl) (by kernel_rfl) (fun _ _ _ h => h) (Or.inl ⟨by rfl, ?zcqy4⟩) (by assumption) ?zcqr4
                case zcqy4 =>
                  intro w hSw
                  (try dsimp only at hSw)
                  go_simp
                  all_goals with_reducible rfl
                try simp only [List.getElem_toArray, List.getElem_cons_zero, List.getElem_cons_succ, Act.put, List.setIfInBounds_toArray, List.set_cons_zero, List.set_cons_succ]
                refine wpAnyH_take (i := 5) (v := ?_) rfl (by kernel_rfl) (by kernel_rfl) (by kernel_rfl) (fun _ _ _ h => h) (Or.inl ⟨by rfl, ?zcqy5⟩) (by assumption) ?zcqr5
                case zcqy5 =>
                  intro w hSw
                  (try dsimp only at hSw)
                  go_simp
                  all_goals with_reducible rfl
                try simp only [List.getElem_toArray, List.getElem_cons_zero, List.getElem_cons_succ, Act.put, List.setIfInBounds_toArray, List.set_cons_zero, List.set_cons_succ]
                refine wpAnyH_take (i := 6) (v := ?_) rfl (by kernel_rfl) (by kernel_rfl) (by kernel_rfl) (fun _ _ _ h => h) (Or.inl ⟨by rfl, ?zcqy6⟩) (by assumption) ?zcqr6
                case zcqy6 =>
                  intro w hSw
                  (try dsimp only at hSw)
                  go_simp
                  all_goals with_reducible rfl
                try simp only [List.getElem_toArray, List.getElem_cons_zero, List.getElem_cons_succ, Act.put, List.setIfInBounds_toArray, List.set_cons_zero, List.set_cons_succ]
                refine wpAnyH_ready (rs := [1]) (by kernel_rfl) (by simp) ?_
                refine AllReadyH.cons rfl (fun KK hK => ?_) AllReadyH.nil
                go_simp
                with_reducible refine (PC1.out _ hT0).mono ?_
                rintro e Y1 ⟨rfl, hT1, hs1⟩
                try go_wp2_with fail
                have cp1 := hs1.trans cp0
                refine hK.out _ _ (⟨hT1.mem.cell 1 rfl 1, hT1.mem.cell 0 rfl 0, hT1.mem.cell 0 rfl 1, cp1⟩) (fun hHeld => ?_)
                clear hK KK
                try simp only [List.getElem_toArray, List.getElem_cons_zero, List.getElem_cons_succ, Act.put, List.setIfInBounds_toArray, List.set_cons_zero, List.set_cons_succ]
                refine wpAnyH_take (i := 7) (v := ?_) rfl (by kernel_rfl) (by kernel_rfl) (by kernel_rfl) (fun _ _ _ h => h) (Or.inl ⟨by rfl, ?zcqy7⟩) (by assumption) ?zcqr7
                case zcqy7 =>
                  intro w hSw
                  (try dsimp only at hSw)
                  go_simp
                  all_goals with_reducible rfl
                try simp only [List.getElem_toArray, List.getElem_cons_zero, List.getElem_cons_succ, Act.put, List.setIfInBounds_toArray, List.set_cons_zero, List.set_cons_succ]
                refine wpAnyH_take (i := 8) (v := ?_) rfl (by kernel_rfl) (by kernel_rfl) (by kernel_rfl) (fun _ _ _ h => h) (Or.inl ⟨by rfl, ?zcqy8⟩) (by assumption) ?zcqr8
                case zcqy8 =>
                  intro w hSw
                  (try dsimp only at hSw)
                  go_simp
                  all_goals with_reducible rfl
                try simp only [List.getElem_toArray, List.getElem_cons_zero, List.getElem_cons_succ, Act.put, List.setIfInBounds_toArray, List.set_cons_zero, List.set_cons_succ]
                refine wpAnyH_take (i := 9) (v := ?_) rfl (by kernel_rfl) (by kernel_rfl) (by kernel_rfl) (fun _ _ _ h => h) (Or.inl ⟨by rfl, ?zcqy9⟩) (by assumption) ?zcqr9
                case zcqy9 =>
                  intro w hSw
                  (try dsimp only at hSw)
                  go_simp
                  all_goals with_reducible rfl
                try simp only [List.getElem_toArray, List.getElem_cons_zero, List.getElem_cons_succ, Act.put, List.setIfInBounds_toArray, List.set_cons_zero, List.set_cons_succ]
                refine wpAnyH_take (i := 10) (v := ?_) rfl (by kernel_rfl) (by kernel_rfl) (by kernel_rfl) (fun _ _ _ h => h) (Or.inl ⟨by rfl, ?zcqy10⟩) (by assumption) ?zcqr10
                case zcqy10 =>
                  intro w hSw
                  (try dsimp only at hSw)
                  go_simp
                  all_goals with_reducible rfl
                try simp only [List.getElem_toArray, List.getElem_cons_zero, List.getElem_cons_succ, Act.put, List.setIfInBounds_toArray, List.set_cons_zero, List.set_cons_succ]
                refine wpAnyH_take (i := 11) (v := ?_) rfl (by kernel_rfl) (by kernel_rfl) (by kernel_rfl) (fun _ _ _ h => h) (Or.inl ⟨by rfl, ?zcqy11⟩) (by assumption) ?zcqr11
                case zcqy11 =>
                  intro w hSw
                  (try dsimp only at hSw)
                  go_simp
                  all_goals with_reducible rfl
                try simp only [List.getElem_toArray, List.getElem_cons_zero, List.getElem_cons_succ, Act.put, List.setIfInBounds_toArray, List.set_cons_zero, List.set_cons_succ]
                refine wpAnyH_take (i := 12) (v := ?_) rfl (by kernel_rfl) (by kernel_rfl) (by kernel_rfl) (fun _ _ _ h => h) (Or.inl ⟨by rfl, ?zcqy12⟩) (by assumption) ?zcqr12
                case zcqy12 =>
                  intro w hSw
                  (try dsimp only at hSw)
                  go_simp
                  all_goals with_reducible rfl
                try simp only [List.getElem_toArray, List.getElem_cons_zero, List.getElem_cons_succ, Act.put, List.setIfInBounds_toArray, List.set_cons_zero, List.set_cons_succ]
                refine wpAnyH_take (i := 14) (v := ?_) rfl (by kernel_rfl) (by kernel_rfl) (by kernel_rfl) (fun _ _ _ h => h) (Or.inl ⟨by rfl, ?zcqy14⟩) (by assumption) ?zcqr14
                case zcqy14 =>
                  intro w hSw
                  (try dsimp only at hSw)
                  go_simp
                  all_goals with_reducible rfl
                try simp only [List.getElem_toArray, List.getElem_cons_zero, List.getElem_cons_succ, Act.put, List.setIfInBounds_toArray, List.set_cons_zero, List.set_cons_succ]
                refine wpAnyH_take (i := 15) (v := ?_) rfl (by kernel_rfl) (by kernel_rfl) (by kernel_rfl) (fun _ _ _ h => h) (Or.inl ⟨by rfl, ?zcqy15⟩) (by assumption) ?zcqr15
                case zcqy15 =>
                  intro w hSw
                  (try dsimp only at hSw)
                  go_simp
                  all_goals with_reducible rfl
                try simp only [List.getElem_toArray, List.getElem_cons_zero, List.getElem_cons_succ, Act.put, List.setIfInBounds_toArray, List.set_cons_zero, List.set_cons_succ]
                refine wpAnyH_take (i := 16) (v := ?_) rfl (by kernel_rfl) (by kernel_rfl) (by kernel_rfl) (fun _ _ _ h => h) (Or.inl ⟨by rfl, ?zcqy16⟩) (by assumption) ?zcqr16
                case zcqy16 =>
                  intro w hSw
                  (try dsimp only at hSw)
                  go_simp
                  all_goals with_reducible rfl
                try simp only [List.getElem_toArray, List.getElem_cons_zero, List.getElem_cons_succ, Act.put, List.setIfInBounds_toArray, List.set_cons_zero, List.set_cons_succ]
                refine wpAnyH_take (i := 17) (v := ?_) rfl (by kernel_rfl) (by kernel_rfl) (by kernel_rfl) (fun _ _ _ h => h) (Or.inl ⟨by rfl, ?zcqy17⟩) (by assumption) ?zcqr17
                case zcqy17 =>
                  intro w hSw
                  (try dsimp only at hSw)
                  go_simp
                  all_goals with_reducible rfl
                try simp only [List.getElem_toArray, List.getElem_cons_zero, List.getElem_cons_succ, Act.put, List.setIfInBounds_toArray, List.set_cons_zero, List.set_cons_succ]
                refine wpAnyH_ready (rs := [13]) (by kernel_rfl) (by simp) ?_
                refine AllReadyH.cons rfl (fun KK hK => ?_) AllReadyH.nil
                go_simp
                with_reducible refine (PC2.out _ hT1).mono ?_
                rintro e Y2 ⟨rfl, hT2, hs2⟩
                try go_wp2_with fail
                have cp2 := hs2.trans cp1
                refine hK.out _ _ (⟨hT2.mem.cell 1 rfl 1, hT2.mem.cell 0 rfl 0, hT2.mem.cell 0 rfl 1, cp2⟩) (fun hHeld => ?_)
                clear hK KK
                try simp only [List.getElem_toArray, List.getElem_cons_zero, List.getElem_cons_succ, Act.put, List.setIfInBounds_toArray, List.set_cons_zero, List.set_cons_succ]
                refine wpAnyH_ready (rs := [18]) (by kernel_rfl) (by simp) ?_
                refine AllReadyH.cons rfl (fun KK hK => ?_) AllReadyH.nil
                go_simp
                with_reducible refine (PC3.out _ hT2).mono ?_
                rintro e Y3 ⟨rfl, hT3, hs3⟩
                try go_wp2_with fail
                have cp3 := hs3.trans cp2
                refine hK.out _ _ (⟨hT3.mem.cell 1 rfl 1, hT3.mem.cell 0 rfl 0, hT3.mem.cell 0 rfl 1, cp3⟩) (fun hHeld => ?_)
                clear hK KK
                try simp only [List.getElem_toArray, List.getElem_cons_zero, List.getElem_cons_succ, Act.put, List.setIfInBounds_toArray, List.set_cons_zero, List.set_cons_succ]
                refine wpAnyH_take (i := 19) (v := ?_) rfl (by kernel_rfl) (by kernel_rfl) (by kernel_rfl) (fun _ _ _ h => h) (Or.inl ⟨by rfl, ?zcqy19⟩) (by assumption) ?zcqr19
                case zcqy19 =>
                  intro w hSw
                  (try dsimp only at hSw)
                  go_simp
                  all_goals with_reducible rfl
                try simp only [List.getElem_toArray, List.getElem_cons_zero, List.getElem_cons_succ, Act.put, List.setIfInBounds_toArray, List.set_cons_zero, List.set_cons_succ]
                refine wpAnyH_take (i := 20) (v := ?_) rfl (by kernel_rfl) (by kernel_rfl) (by kernel_rfl) (fun _ _ _ h => h) (Or.inl ⟨by rfl, ?zcqy20⟩) (by assumption) ?zcqr20
                case zcqy20 =>
                  intro w hSw
                  (try dsimp only at hSw)
                  go_simp
                  all_goals with_reducible rfl
                try simp only [List.getElem_toArray, List.getElem_cons_zero, List.getElem_cons_succ, Act.put, List.setIfInBounds_toArray, List.set_cons_zero, List.set_cons_succ]
                refine wpAnyH_done (by kernel_rfl) ?_ _
                have HZ : Hid (∃ xs : List Mk, xs.length ≤ i + 1 ∧ (∀ m ∈ xs, MOk m) ∧ Two PS W pp pm xs xs Y3 []) := ⟨zs, HQ.out.1, HQ.out.2, hT3.sub.sub⟩
                clear hT0 hT1 hT2 hT3 PC1 PC2 PC3 HQ
                go_wp2_with fail
                go_roundw
                case rel => exact ⟨i + 1, by omega, by go_num, HZ.out⟩
                case measure => simp [intOf]; omega
      · have hlt' : ¬ ((i : Int) < n) := by omega
        have HB : Hid (Below W.heap.size W wr) := by
          obtain ⟨xs, -, -, hT⟩ := HR.out
          exact hT.mem.below
        clear HR HX
        go_wp2_with fail
        go_ret
        exact ⟨rfl, HB.out⟩
end
end Po
end Go.Proofs.YtkbjiackjefkkaaDoor
