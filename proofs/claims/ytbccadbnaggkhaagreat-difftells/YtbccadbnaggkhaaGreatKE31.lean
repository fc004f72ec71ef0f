/-
  What is changed: the names that stand in maps, in order, each once (names).
  What is changed: changes in a slice, tenants and changes that are appended to a list of the call's own.
-/
import Derived.Test.YtbccadbnaggkhaaGreatKE30
import Derived.Test.YtbccadbnaggkhaaGreatKE29
import Derived.Sort.OwnSorted
namespace Go.Proofs.YtbccadbnaggkhaaGreat
open Go.RowKit
open Sm
open Cf
open Df
open Go.Sort
set_option linter.unusedVariables false
set_option linter.unusedSimpArgs false
set_option maxRecDepth 20000

namespace Df
theorem info9 : (Tryz.prog.info? 9).map (fun i => (i.zero, i.size, i.bytes)) = some (some (.string ⟨#[]⟩), 1, 16) := by kernel_rfl
theorem sort_some (blk off cap : Nat) (ss : List (List UInt8)) (w : World) (hH : Holds encStr w blk off ss.toArray) (hblk : blk < w.heap.size) (hsz : ss.length < 4611686018427387904) :
    Calls Tryz.prog 32 #[.slice (some ⟨blk, off, none⟩) ss.length cap] w fun e w' =>
      e = .returned (.tuple #[]) ∧ ∃ n os, w' = grow (putRow encStr (Sort.ahead w n) blk off (ss.mergeSort fun x y => decide (x ≤ y)).toArray) os :=
  calls_of_every_depth fun D => AnyS.slices_Sort_string_in Tryz.lays190 D blk off cap ss w hH hblk hsz
theorem sort_none (p : Option Addr) (cap : Nat) (w : World) : Calls Tryz.prog 32 #[.slice p 0 cap] w fun e w' => e = .returned (.tuple #[]) ∧ w' = w :=
  Any.slices_Sort_string_none Tryz.lays190 p cap w
theorem comp_some (blk off cap : Nat) (zs : List (List UInt8)) (w : World) (hH : Holds encStr w blk off zs.toArray) (hsz : zs.length ≤ 9223372036854775807) (hcap : zs.length ≤ cap) :
    Calls Tryz.prog 33 #[.slice (some ⟨blk, off, none⟩) zs.length cap] w fun e w' => e = .returned (.slice (some ⟨blk, off, none⟩) (Lib.compact zs).length cap) ∧ ∃ q, w' = putRow encStr (Sort.ahead w q) blk off (Lib.compact zs ++ List.replicate (zs.length - (Lib.compact zs).length) []).toArray :=
  Any.slices_Compact_string Tryz.lays194 blk off cap zs w hH hsz hcap
theorem comp_none (p : Option Addr) (cap : Nat) (w : World) : Calls Tryz.prog 33 #[.slice p 0 cap] w fun e w' => e = .returned (.slice p 0 cap) ∧ w' = w :=
  Any.slices_Compact_string_empty Tryz.lays194 p cap w
theorem comp_le (zs : List (List UInt8)) : (Lib.compact zs).length ≤ zs.length := by
  unfold Lib.compact Lib.compactUpTo
  rw [List.length_map]
  have := List.length_filter_le (Lib.keeps zs.toArray) (List.range zs.length)
  simpa using this
theorem grow_nil (w : World) : grow w #[] = w := by unfold grow; simp
/-- A slice of names. -/
def NV (V : World) (v : Value) (ns : List (List UInt8)) : Prop := Rw V 1 v (ns.map fun n => [encStr n])
theorem own_names {V : World} {base g cap n : Nat} {ts ns rs : List (List UInt8)} (h : V.ownsRow base 9 1 (.slice (some ⟨g, 0, none⟩) n cap) n (ts.map encStr)) (e : ts = ns ++ rs) (hn : n = ts.length) : NV V (.slice (some ⟨g, 0, none⟩) ns.length cap) ns := by
  have hle : ns.length ≤ n := by rw [hn, e, List.length_append]; omega
  obtain ⟨hk, hh⟩ := h
  rcases hh with ⟨h0, _⟩ | ⟨g', cap', cur, hv, hbase, hb, h1, h2, h3, h4⟩
  · cases h0
  cases hv
  refine ⟨some ⟨g, 0, none⟩, cap, by rw [List.length_map], by rw [List.length_map]; omega, by unfold maxLen at h2; omega, nofun, Or.inr ⟨g, 0, rfl, fun i hi j u hj => ?_⟩⟩
  rw [List.length_map] at hi
  have hj' : ([encStr (ns.getD i [])])[j]? = some u := by
    rw [← hj]
    simp [List.getD, List.getElem?_eq_getElem hi]
  have hj0 : j = 0 := by
    have := (List.getElem?_eq_some_iff.mp hj').1
    simp at this
    exact this
  subst hj0
  simp only [List.getElem?_cons_zero, Option.some.injEq] at hj'
  rw [cell_of hb]
  have h5 : (cur.toList.take (n * 1))[i]? = (ts.map encStr)[i]? := by rw [h4]
  rw [List.getElem?_take_of_lt (by omega)] at h5
  rw [← Array.getElem?_toList]
  simp only [Nat.mul_one, Nat.zero_add, Nat.add_zero] at h5 ⊢
  rw [h5, e, ← hj']
  rw [List.map_append, List.getElem?_append_left (by rw [List.length_map]; exact hi)]
  simp [List.getD, List.getElem?_eq_getElem hi]
theorem ended {w wr : World} {b n : Nat} {M : List Tv} {left : Lit → Bool} {ss : List (List UInt8)} (hC : Collected (DM M) left ss) (h : MV wr b n M) (hl : ∀ kl, left kl = false) (x : List UInt8) : x ∈ ss ↔ x ∈ M.map fk := by
  have := hC.perm h.1 law9 Tryz.underlying9 hl
  rw [dm_keys] at this
  exact this.mem_iff
set_option maxHeartbeats 8000000 in
theorem names_any {w : World} {v : Value} {gs : List (Nat × Nat × List Tv)} (hr : Rw w 1 v (gs.map fun p => [.map (some p.1)])) (hm : ∀ p ∈ gs, MV w p.1 p.2.1 p.2.2) (hk : gs.length ≤ 2) (hn : ∀ p ∈ gs, p.2.1 ≤ 10000) (ns : List (List UInt8)) (hns : Srt id ns) (hmem : ∀ x, x ∈ ns ↔ ∃ p ∈ gs, x ∈ p.2.2.map fk) :
    Calls Tryz.prog 24 #[v] w fun e V => ∃ a c, e = .returned (.slice a ns.length c) ∧ NV V (.slice a ns.length c) ns ∧ Below w.heap.size w V := by
  have hr0 := hr
  obtain ⟨sa, sc, rfl, hlc, hcb, -⟩ := hr0
  rw [List.length_map] at hlc hr ⊢
  have HX : Hid (∀ i (hi : i < gs.length), (∃ b off, sa = some ⟨b, off, none⟩ ∧ ∀ V, Below w.heap.size w V → V.cell? ⟨b, off + i, none⟩ = some (.map (some gs[i].1))) ∧ MV w gs[i].1 gs[i].2.1 gs[i].2.2 ∧ gs[i].2.1 ≤ 10000) := by
    intro i hi
    have hz := List.getElem_mem hi
    obtain ⟨b, off, e1, hc⟩ := rw_at hr i (by rw [List.length_map]; exact hi)
    refine ⟨⟨b, off, e1, fun V hV => ?_⟩, hm _ hz, hn _ hz⟩
    have := hc 0 (.map (some gs[i].1)) (by simp [List.getD, List.getElem?_eq_getElem hi])
    rw [Nat.mul_one, Nat.add_zero] at this
    rw [hV.cell (p := ⟨b, off + i, none⟩) (cell_lt this)]
    exact this
  have HT : Hid (∀ i (hi : i < gs.length) (x : List UInt8), (∃ p ∈ gs.take (i + 1), x ∈ p.2.2.map fk) ↔ ((∃ p ∈ gs.take i, x ∈ p.2.2.map fk) ∨ x ∈ gs[i].2.2.map fk)) := by
    intro i hi x
    rw [List.take_add_one, List.getElem?_eq_getElem hi, Option.toList_some]
    simp only [List.mem_append, List.mem_singleton]
    constructor
    · rintro ⟨p, hp | hp, h⟩
      · exact Or.inl ⟨p, hp, h⟩
      · subst hp; exact Or.inr h
    · rintro (⟨p, hp, h⟩ | h)
      · exact ⟨p, Or.inl hp, h⟩
      · exact ⟨_, Or.inr rfl, h⟩
  have HE : Hid (∀ ss : List (List UInt8), (∀ x, x ∈ ss ↔ ∃ p ∈ gs.take gs.length, x ∈ p.2.2.map fk) → Lib.compact (ss.mergeSort (fun x y => decide (x ≤ y))) = ns) := by
    intro ss h
    refine names_of hns fun x => ?_
    rw [h x, hmem x, List.take_length]
  have HE0 : Hid ((∀ x : List UInt8, ¬ ∃ p ∈ gs.take gs.length, x ∈ p.2.2.map fk) → ns = []) := by
    intro h
    rw [List.take_length] at h
    cases hh : ns with
    | nil => rfl
    | cons x r => exact absurd ((hmem x).1 (by rw [hh]; simp)) (h x)
  clear hr hm hn hmem
  obtain ⟨i0, hi0, hz0, hz1, hz2⟩ := info_parts info9
  obtain ⟨N, hN⟩ : ∃ N, gs.length = N := ⟨_, rfl⟩
  rw [hN] at HE HE0 hlc hk
  simp only [hN] at HX HT ⊢
  have H0 : Hid (w.ownsRow w.heap.size 9 1 (.slice none 0 0) ([] : List (List UInt8)).length (([] : List (List UInt8)).map encStr) ∧ Below w.heap.size w w) := ⟨⟨rfl, Or.inl ⟨rfl, rfl⟩⟩, Below.refl _ _⟩
  go_enter Tryz.func24, Tryz.ntmps24
  go_wp2_with fail
  go_loopw [3, 9] (fun u3 u9 w' => ∃ (i : Nat) (ss : List (List UInt8)), i ≤ N ∧ u9 = .int .i64 i ∧ Hid (w'.ownsRow w.heap.size 9 1 u3 ss.length (ss.map encStr) ∧ ss.length ≤ 10000 * i ∧ (∀ x, x ∈ ss ↔ ∃ p ∈ gs.take i, x ∈ p.2.2.map fk) ∧ Below w.heap.size w w')) (fun u3 u9 w' => N - (intOf u9).toNat)
  case atStart => exact ⟨0, [], Nat.zero_le _, rfl, H0.out.1, Nat.zero_le _, by simp, H0.out.2⟩
  case round =>
    obtain ⟨i, ss, hi, rfl, HR⟩ := hrel
    clear H0
    by_cases hlt : i < N
    · have h1 : (i : Int) < N := by omega
      obtain ⟨⟨b, off, rfl, hc⟩, hMVw, hnb⟩ := HX.out i hlt
      have hT := HT.out i hlt
      have hcell := hc _ HR.out.2.2.2
      have HSS := HR.out.2.2.1
      have HLL := HR.out.2.1
      obtain ⟨hrow0, -, -, hbel0⟩ := HR.out
      have hMV := hMVw.below hbel0 (Nat.le_refl _)
      have hbl := hMVw.1.lt
      clear HX HT HE HE0 hc hMVw HR
      generalize hge : gs[i]'(by omega) = ge at *
      obtain ⟨bm, nm, M⟩ := ge
      simp only at hcell hMV hbl hT hnb
      obtain ⟨gr, hgr⟩ : ∃ g, wr.heap.size = g := ⟨_, rfl⟩
      have hml := hMV.size
      go_wp2_with (first | (at_range; refine wpList_range_own _ rfl _ 51 rfl 9 34 law9 Tryz.underlying51 _ bm nm (DM M) rfl hMV.1 ?_; intro w0 hrg0 hg0 hs0) | fail)
      go_frame
      have hsz0 := hbel0.size
      have hsz : Go.Maps.size (DM M) = M.length := by simp [DM, Go.Maps.size]
      rw [hgr] at hrg0 hsz0
      have HA : Hid (w0.ranges Tryz.prog 9 RH bm gr nm (DM M) (Go.Maps.has (DM M)) (Go.Maps.size (DM M)) ∧ w0.ownsRow w.heap.size 9 1 u3 (ss ++ []).length ((ss ++ []).map encStr) ∧ Below w.heap.size w w0) := by
        refine ⟨hrg0, by rw [List.append_nil]; exact hrow0.kept hg0 (by cases hbk : u3.ownBlock with | none => exact Or.inl rfl | some k => exact Or.inr (by simp)), hbel0.grown hg0 (by rw [hgr]; exact hsz0) (fun j hj => by cases hj)⟩
      simp only [hgr]
      clear hrg0 hg0 hs0 hrow0 hcell
      go_loopw [3] (fun v3 w' => ∃ (left : Lit → Bool) (cnt : Nat) (tt : List (List UInt8)), Hid (w'.ranges Tryz.prog 9 RH bm gr nm (DM M) left cnt ∧ tt.length + cnt ≤ M.length ∧ w'.ownsRow w.heap.size 9 1 v3 (ss ++ tt).length ((ss ++ tt).map encStr) ∧ Collected (DM M) left tt ∧ Below w.heap.size w w')) (fun _ w' => w'.rangeLeft bm gr)
      case atStart => exact ⟨_, _, [], HA.out.1, by rw [hsz]; simp, HA.out.2.1, Collected.start _, HA.out.2.2⟩
      case round =>
        obtain ⟨left, cnt, tt, HR⟩ := hrel
        clear HA
        obtain ⟨hrg, hcs, hrow, hC, hnx⟩ := HR.out
        clear HR
        go_wp2_with (first
          | (at_next; refine wpList_next_ranges _ rfl _ rfl 9 law9 RH encStr id (fun key kl hk => by obtain ⟨x, hx, _⟩ := Maps.keyOf_str Tryz.underlying9 hk; exact ⟨x, hx⟩) (fun v y hv => ⟨v, rfl⟩) bm gr nm _ _ _ rfl hrg ?_ ?_)
          | fail)
        · intro hc0 hl0
          have HF : Hid (wr.ownsRow w.heap.size 9 1 u3 (ss ++ tt).length ((ss ++ tt).map encStr) ∧ (ss ++ tt).length ≤ 10000 * (i + 1) ∧ (∀ x, x ∈ ss ++ tt ↔ ∃ p ∈ gs.take (i + 1), x ∈ p.2.2.map fk) ∧ Below w.heap.size w wr) := by
            refine ⟨hrow, by rw [List.length_append]; omega, fun x => ?_, hnx⟩
            rw [List.mem_append, HSS x, hT x, ended (w := w) hC ⟨hrg.owns, hMV.2⟩ hl0 x]
          clear hrg hrow hC hnx hT HSS hMV hl0
          go_wp2_with fail
          go_roundw
          case rel => exact ⟨i + 1, ss ++ tt, by omega, by go_num, HF⟩
          case measure => simp [intOf]; omega
        · intro x c kl yd yp w2 cnt2 hkey hlk hv hat hrg2 hlt2 hg2 hs2 hen
          obtain ⟨x', ex, rfl, _⟩ := Maps.keyOf_str Tryz.underlying9 hkey
          obtain rfl : x = x' := encStr_inj ex
          have hrow2 := hrow.kept hg2 (Or.inr (row_ne_iter hrow hrg).symm)
          clear hs2
          have hlen : (ss ++ tt).length ≤ 40000 := by rw [List.length_append]; omega
          go_wp2_with (first
            | (at_builtin; refine wpList_append_own _ rfl _ _ 53 rfl w.heap.size 9 i0 (.string ⟨#[]⟩) 1 16 Tryz.underlying53 hi0 hz0 hz1 hz2 rfl (by decide) _ _ _ rfl (hrow2.alloc _) ⟨w2.heap.size, 0, none⟩ 1 1 [encStr x] rfl rfl (cell_one_new _ _ _) (by simp [Value.oneCell', encStr]) (by unfold maxLen at *; omega) (by omega) (by have := hnx.size; have := hg2.size; simp; omega) ?_; intro v' w3 hown' hg3 hnil3)
            | fail)
          have hrg3 := (hrg2.alloc _).kept hg3 (row_ne_low hrow2 hbl) (row_ne_iter hrow2 hrg2)
          have HF : Hid (w3.ranges Tryz.prog 9 RH bm gr nm (DM M) (fun z => left z && !z.sameKey (.string x)) cnt2 ∧ (tt ++ [x]).length + cnt2 ≤ M.length ∧ w3.ownsRow w.heap.size 9 1 v' (ss ++ (tt ++ [x])).length ((ss ++ (tt ++ [x])).map encStr) ∧ Collected (DM M) (fun z => left z && !z.sameKey (.string x)) (tt ++ [x]) ∧ Below w.heap.size w w3) := by
            refine ⟨hrg3, by simp; omega, by simpa [Nat.add_assoc] using hown', hC.step hlk hat, ?_⟩
            exact ((hnx.grown hg2 hnx.size (fun j hj => by cases hj; omega)).alloc (by have := hnx.size; have := hg2.size; omega) _).grown hg3 (by have := hnx.size; have := hg2.size; simp; omega) (fun j hj => (hrow2.lt j hj).1)
          have e1 := hrg3.left_eq
          have e2 := hrg.left_eq
          clear hrg hrow hC hnx hT HSS hMV hrg2 hrg3 hown' hg3 hnil3 hrow2 hlk hat hen hg2 hv
          go_roundw
          case rel => exact ⟨_, cnt2, tt ++ [x], HF⟩
          case measure => rw [e1, e2]; exact hlt2
    · have h1 : ¬ ((i : Int) < N) := by omega
      obtain rfl : i = N := by omega
      obtain ⟨hrow, hll, hss, hnx⟩ := HR.out
      clear HX HT HR
      rcases hrow.2 with ⟨rfl, h0⟩ | ⟨g, cap, cur, rfl, hbase, hb, k1, k2, k3, k4⟩
      · have hs0 : ss = [] := List.eq_nil_of_length_eq_zero h0
        have hns0 : ns = [] := HE0.out fun x hx => by
          have := (hss x).2 hx
          rw [hs0] at this
          cases this
        subst hns0
        have HF : Hid (NV wr (.slice none 0 0) [] ∧ Below w.heap.size w wr) := ⟨⟨none, 0, rfl, Nat.le_refl _, by omega, fun _ => rfl, Or.inl rfl⟩, hnx⟩
        clear hrow hss hnx HE HE0
        go_wp2_with fail
        refine (sort_none none 0 wr).mono ?_
        rintro e w' ⟨rfl, rfl⟩
        go_wp2_with fail
        refine (comp_none none 0 w').mono ?_
        rintro e w'' ⟨rfl, rfl⟩
        go_wp2_with fail
        go_ret
        exact ⟨none, 0, rfl, HF.out.1, HF.out.2⟩
      · have hH : Holds encStr wr g 0 ss.toArray := holds_of_block hb (by simpa using k4)
        have hgl : g < wr.heap.size := (Array.getElem?_eq_some_iff.1 hb).1
        have C1 := sort_some g 0 cap ss wr hH hgl (by omega)
        have hcomp := HE.out ss hss
        have HB : Hid (Below w.heap.size w wr) := hnx
        clear hrow hss hnx HE HE0 hH
        go_wp2_with fail
        refine C1.mono ?_
        rintro e w' ⟨rfl, nn, os, hw'⟩
        clear C1
        have hrow' := ownsRow_sorted (n := nn) (os := os) (ss := ss) (ts := ss.mergeSort fun x y => decide (x ≤ y)) (by simp) hbase hb k1 k2 k3
        have hb' : wr.grownBy w' (some g) := by rw [hw']; exact grownBy_sorted _
        rw [← hw'] at hrow'
        clear hw' hb k3 k4
        have hlen : (ss.mergeSort fun x y => decide (x ≤ y)).length = ss.length := List.length_mergeSort ..
        generalize (ss.mergeSort fun x y => decide (x ≤ y)) = ts at *
        have HB2 : Hid (Below w.heap.size w w') := HB.out.grown hb' HB.out.size (fun j hj => by cases hj; exact hbase)
        have hrow2 := hrow'
        rcases hrow2.2 with ⟨h0, _⟩ | ⟨g', cap', cur', hv, hbase', hbk, j1, j2, j3, j4⟩
        · cases h0
        cases hv
        have hH : Holds encStr w' g 0 ts.toArray := holds_of_block hbk (by rw [hlen]; simpa using j4)
        have C2 := comp_some g 0 cap ts w' hH (by omega) (by omega)
        rw [hlen, hcomp] at C2
        have HF : Hid (∀ q V, V = putRow encStr (Sort.ahead w' q) g 0 (ns ++ List.replicate (ss.length - ns.length) []).toArray → NV V (.slice (some ⟨g, 0, none⟩) ns.length cap) ns ∧ Below w.heap.size w V) := by
          intro q V hV
          have hle : ns.length ≤ ss.length := by rw [← hcomp, ← hlen]; exact comp_le ts
          have hts : (ns ++ List.replicate (ss.length - ns.length) ([] : List UInt8)).length = ss.length := by simp; omega
          have o1 := ownsRow_sorted (n := q) (os := #[]) (ss := ss) (ts := ns ++ List.replicate (ss.length - ns.length) []) hts hbase hbk j1 j2 j3
          have o2 : w'.grownBy (grow (putRow encStr (Sort.ahead w' q) g 0 (ns ++ List.replicate (ss.length - ns.length) []).toArray) #[]) (some g) := grownBy_sorted _
          rw [grow_nil, ← hV] at o1 o2
          exact ⟨own_names o1 rfl hts.symm, HB2.out.grown o2 HB2.out.size (fun j hj => by cases hj; exact hbase)⟩
        clear hrow' hrow2 hb' HB HB2 hH hbk j3 j4 hcomp
        go_wp2_with fail
        refine C2.mono ?_
        rintro e w'' ⟨rfl, q, hw2⟩
        have HG := HF.out q w'' hw2
        clear HF hw2 C2
        go_wp2_with fail
        go_ret
        exact ⟨_, _, rfl, HG.1, HG.2⟩
end Df
end Go.Proofs.YtbccadbnaggkhaaGreat

namespace Go.Proofs.YtbccadbnaggkhaaGreat
open Go.RowKit
open Sm
open Cf
open Df
set_option linter.unusedVariables false
set_option linter.unusedSimpArgs false
set_option maxRecDepth 20000

namespace Df
abbrev Hv := Chg × Value × Value × Value
def yc (y : Hv) : List Value := hc y.1 y.2.1 y.2.2.1 y.2.2.2
def yz (y : Hv) : Tv := (y.1.t, y.2)
theorem yc_eq (y : Hv) : yc y = .bool y.1.put :: .string y.1.name :: zc (yz y) := rfl
theorem yc_len {y : Hv} (h : TLen y.1.t) : (yc y).length = 35 := by
  have := tc_len h y.2.1 y.2.2.1 y.2.2.2
  rw [yc_eq]
  simp only [List.length_cons]
  show (tc y.1.t y.2.1 y.2.2.1 y.2.2.2).length + 1 + 1 = 35
  omega
theorem yc_ne {ys : List Hv} : ∀ x ∈ ys.map yc, x ≠ [] := by
  intro x hx
  obtain ⟨y, -, rfl⟩ := List.mem_map.mp hx
  simp [yc_eq]
/-- Changes in a slice, each with its lists. -/
structure YV (w : World) (v : Value) (ys : List Hv) : Prop where
  row : Rw w 35 v (ys.map yc)
  each : ∀ y ∈ ys, TLen y.1.t ∧ Rws w (yz y)
theorem YV.at_ {w V : World} {v : Value} {ys : List Hv} (h : YV w v ys) (hb : Below w.heap.size w V) : YV V v ys := ⟨h.row.below yc_ne hb (Nat.le_refl _), fun y hy => ⟨(h.each y hy).1, Rws.at_ (h.each y hy).2 hb⟩⟩
theorem yc_all {w : World} {y : Hv} (h : Rws w (yz y)) : (yc y).toArray.all (·.oneCell') = true := by
  have := zc_all h
  rw [Array.all_eq_true_iff_forall_mem] at this ⊢
  intro x hx
  rw [yc_eq] at hx
  simp only [List.mem_toArray, List.mem_cons] at hx
  rcases hx with rfl | rfl | hx
  · rfl
  · rfl
  · exact this x (by simpa using hx)
theorem YV.parts {w : World} {v : Value} {ys : List Hv} (h : YV w v ys) : ∃ sa sc, v = .slice sa ys.length sc ∧ ys.length ≤ sc ∧ sc ≤ 9223372036854775807 ∧ ∀ i (hi : i < ys.length), ∃ b off, sa = some ⟨b, off, none⟩ ∧ ∀ V, Below w.heap.size w V → V.rangeAt b (off + i * 35) (yc ys[i]) := by
  obtain ⟨hr, hq⟩ := h
  have hrr := hr
  obtain ⟨sa, sc, rfl, hl, hb, -⟩ := hrr
  rw [List.length_map] at hl hr ⊢
  refine ⟨sa, sc, rfl, hl, hb, fun i hi => ?_⟩
  obtain ⟨b, off, e1, hc⟩ := rw_at hr i (by rw [List.length_map]; exact hi)
  refine ⟨b, off, e1, fun V hV j u hj => ?_⟩
  have hx : (ys.map yc).getD i [] = yc ys[i] := by simp [List.getD, List.getElem?_eq_getElem hi]
  rw [hx] at hc
  have h := hc j u hj
  rw [hV.cell (p := ⟨b, off + i * 35 + j, none⟩) (cell_lt h)]
  exact h
/-- One change, with the tenants' lists. -/
def stz (M : List Tv) (y : Hv) : List Tv := if y.1.put then put fk (yz y) true M else del fk y.1.name.data.toList M
def apz (zs : List Tv) (ys : List Hv) : List Tv := ys.foldl stz (byn fk zs)
theorem stz_fst (M : List Tv) (y : Hv) : (stz M y).map Prod.fst = stp (M.map Prod.fst) y.1 := by
  unfold stz stp
  split
  · exact map_put (f := fk) (g := nk) (h := Prod.fst) (fun _ => rfl) (yz y) true M
  · exact map_del (f := fk) (g := nk) (h := Prod.fst) (fun _ => rfl) _ M
theorem stzs_fst (ys : List Hv) : ∀ M : List Tv, (ys.foldl stz M).map Prod.fst = (ys.map Prod.fst).foldl stp (M.map Prod.fst) := by
  induction ys with
  | nil => intro M; rfl
  | cons y ys ih => intro M; rw [List.foldl_cons, ih, stz_fst]; rfl
theorem byz_fst (zs : List Tv) : (byn fk zs).map Prod.fst = byn nk (zs.map Prod.fst) := map_byn (f := fk) (g := nk) (h := Prod.fst) (fun _ => rfl) zs
theorem apz_fst (zs : List Tv) (ys : List Hv) : (apz zs ys).map Prod.fst = app (zs.map Prod.fst) (ys.map Prod.fst) := by
  unfold apz app
  rw [stzs_fst, byz_fst]
theorem apz_take {zs : List Tv} {ys : List Hv} {i : Nat} (hi : i < ys.length) : apz zs (ys.take (i + 1)) = stz (apz zs (ys.take i)) ys[i] := by
  unfold apz
  rw [List.take_add_one, List.getElem?_eq_getElem hi, Option.toList_some, List.foldl_append]
  rfl
theorem mem_stz {M : List Tv} {y : Hv} {x : Tv} (h : x ∈ stz M y) : x ∈ M ∨ x = yz y := by
  unfold stz at h
  split at h
  · rcases mem_put h with h | h
    · exact Or.inr h
    · exact Or.inl h
  · exact Or.inl (mem_del.1 h).1
theorem mem_apz {zs : List Tv} {ys : List Hv} {x : Tv} (h : x ∈ apz zs ys) : x ∈ zs ∨ ∃ y ∈ ys, x = yz y := by
  unfold apz at h
  have key : ∀ (ys : List Hv) (M : List Tv), x ∈ ys.foldl stz M → x ∈ M ∨ ∃ y ∈ ys, x = yz y := by
    intro ys
    induction ys with
    | nil => intro M h; exact Or.inl h
    | cons y ys ih =>
      intro M h
      rcases ih _ h with h | ⟨z, hz, e⟩
      · rcases mem_stz h with h | h
        · exact Or.inl h
        · exact Or.inr ⟨y, by simp, h⟩
      · exact Or.inr ⟨z, by simp [hz], e⟩
  rcases key ys _ h with h | h
  · exact Or.inl (mem_byn h)
  · exact Or.inr h
theorem _root_.Go.Proofs.YtbccadbnaggkhaaGreat.Ow.join {w W V : World} {e : TypeId} {sz n : Nat} {v : Value} {xs : List Value} {L K : List (Nat × Obj)} (h : Ow w W e sz v n xs L) (k : Mem W V K) : Ow w V e sz v n xs (L ++ K) := by
  refine ⟨h.1, ?_⟩
  rcases h.2 with ⟨rfl, rfl, hm⟩ | ⟨g, cap, cur, rfl, hm, r⟩
  · exact Or.inl ⟨rfl, rfl, hm.join k⟩
  · exact Or.inr ⟨g, cap, cur, rfl, hm.join k, r⟩
theorem flat33 {zs : List Tv} (h : ∀ z ∈ zs, TLen z.1) : (zs.map zc).flatten.length = zs.length * 33 := by
  induction zs with
  | nil => simp
  | cons z zs ih =>
    have e := tc_len (h z (by simp)) z.2.1 z.2.2.1 z.2.2.2
    have e' : (zc z).length = 33 := e
    rw [List.map_cons, List.flatten_cons, List.length_append, e', ih fun y hy => h y (by simp [hy]), List.length_cons]
    omega
theorem ow_ten {w W V : World} {v : Value} {xs : List Tv} {C C' : List (Nat × Obj)} {z : Tv} (hO : Ow w W 34 33 v xs.length (xs.map zc).flatten C) (hZ : ∀ z ∈ xs, ZB z C) (hM : Mem W V C') (hz : ZB z C') (hn : xs.length ≤ 100000) {gs : Nat} (hg : V.heap.size = gs) :
    ∃ a m c V', (Builtin.append_ #[22, 22] 22 #[v, .slice (some ⟨gs, 0, none⟩) 1 1]).run Tryz.prog (V.alloc (.cells (zc z).toArray 34)) = .ok (.slice a m c) V' ∧
      Ow w V' 34 33 (.slice a m c) (xs ++ [z]).length ((xs ++ [z]).map zc).flatten (C ++ C') ∧ ∀ y ∈ xs ++ [z], ZB y (C ++ C') := by
  subst hg
  have h1 := (hO.join hM).after ((Below.refl V.heap.size V).alloc (Nat.le_refl _) (.cells (zc z).toArray 34))
  obtain ⟨v', V', hr, hO'⟩ := ow_append (ty := 22) Tryz.underlying22 infoT (by kernel_rfl) (by decide) h1 ⟨V.heap.size, 0, none⟩ 1 1 (zc z) (by rw [show (zc z).length = 33 from tc_len hz.1 _ _ _]) (fun j u hj => by
    rw [Addr.add_mid, Nat.zero_add, World.cell?_alloc_new]
    simpa using hj) (zb_one hz) (by unfold maxLen; omega) (by omega)
  obtain ⟨B, hB, -⟩ := hO'.owb
  obtain ⟨a, m, c, rfl⟩ := owb_slice hB
  refine ⟨a, m, c, V', hr, ?_, fun y hy => ?_⟩
  · rw [List.length_append, List.map_append, List.flatten_append]
    simpa using hO'
  · rcases List.mem_append.1 hy with hy | hy
    · exact (hZ y hy).more fun x hx => by simp [hx]
    · rw [List.mem_singleton] at hy
      subst hy
      exact hz.more fun x hx => by simp [hx]
theorem ow_tsv {w W : World} {v : Value} {xs : List Tv} {C : List (Nat × Obj)} (hO : Ow w W 34 33 v xs.length (xs.map zc).flatten C) (hZ : ∀ z ∈ xs, ZB z C) : TSV W v (xs.map Prod.fst) := by
  obtain ⟨B, hB, hM⟩ := hO.owb
  exact tsb_tsv (B := B) (C := C) ⟨xs, rfl, hB, hZ⟩ fun x hx => hM.at_ x hx
end Df
end Go.Proofs.YtbccadbnaggkhaaGreat

