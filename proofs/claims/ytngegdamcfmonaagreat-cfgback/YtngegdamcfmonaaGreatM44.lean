/-
  Settings as bytes: the document's own Config and Change, at all settings and changes.
  What settings, a change, a list of tenants that come in are.
  What is written, cut off anywhere, isn't read (P12.1, P12.2), at every tenant that is light.
-/
import Derived.Test.YtngegdamcfmonaaGreatM35
import Derived.Test.YtngegdamcfmonaaGreatM43
import Derived.Test.YtngegdamcfmonaaGreatM41
import Derived.Test.YtngegdamcfmonaaGreatM32
import Derived.Test.YtngegdamcfmonaaGreatM42
import Derived.Test.YtngegdamcfmonaaGreatM36
import Derived.Test.YtngegdamcfmonaaGreatM31
namespace Go.Proofs.YtngegdamcfmonaaGreat
open Go.RowKit
open Sm
open Cf
set_option linter.unusedVariables false
set_option linter.unusedSimpArgs false
set_option maxRecDepth 20000

/-- The bytes of settings up to their tenants. -/
def chead (c : Cgf) : List Int := ((((((([] ++ be 4 c.ip) ++ c.mac) ++ c.omac) ++ c.nmac) ++ c.key) ++ be 4 c.drain) ++ [((min c.ten.length 255 : Nat) : Int)])
theorem cenc_eq (c : Cgf) : cenc c = chead c ++ cat (fun i => tenc (c.ten.getD i ten0)) (min c.ten.length 255) := rfl
theorem tsv_at {V : World} {a : Option Addr} {n c : Nat} {zs : List Tv} (hr : Rw V 33 (.slice a n c) (zs.map zc)) (hz : ∀ z ∈ zs, TLen z.1 ∧ Rws V z) (i : Nat) (hi : i < zs.length) : ∃ b off x, a = some ⟨b, off, none⟩ ∧ V.rangeAt b (off + i * 33) x ∧ x.length = 33 ∧ x.toArray.all (·.oneCell') = true ∧ TV V (.agg x.toArray) ((zs.map Prod.fst).getD i ten0) := by
  obtain ⟨b, off, rfl, hc⟩ := rw_at hr i (by rw [List.length_map]; exact hi)
  obtain ⟨z, hx⟩ : ∃ z, zs[i]? = some z := ⟨_, List.getElem?_eq_getElem hi⟩
  have hzm := hz z (List.mem_of_getElem? hx)
  have ex : (zs.map zc).getD i [] = zc z := by simp [List.getD, hx]
  rw [ex] at hc
  have et : (zs.map Prod.fst).getD i ten0 = z.1 := by simp [List.getD, hx]
  rw [et]
  exact ⟨b, off, zc z, rfl, fun j u hj => hc j u hj, tc_len hzm.1 _ _ _, zc_one hzm.2, hzm.1, z.2.1, z.2.2.1, z.2.2.2, rfl, hzm.2⟩
theorem Ob.none {w W : World} {u : Value} {l : List Int} {K : List (Nat × Obj)} {n : Nat} (h : Ob w W u l K n) : Ob w W u l [] n := ⟨h.1.none, h.2⟩
/-- Bytes that another call made, behind bytes of the call's own. -/
theorem out_other {w W W' : World} {v u : Value} {l k : List Int} {L : List (Nat × Obj)} {n m : Nat} (h : Ob w W v l L n) (h' : Ob W W' u k [] m) (hk : 0 < k.length) (hn : n + m ≤ 1000000000) (ty : TypeId) :
    ∃ v' W2, (Builtin.append_ #[40, 40] ty #[v, u]).run Tryz.prog W' = .ok v' W2 ∧ Ob w W2 v' (l ++ k) L (n + m) := by
  have h1 := h.2
  have h2 := h'.2
  obtain ⟨a, c, rfl, hS⟩ := h'.1.sl (by omega)
  rcases hS.row.cells with e | ⟨b, off, rfl, -⟩
  · rw [e] at hk; simp at hk
  · obtain ⟨v', W2, r1, r2⟩ := out_append (h.1.after h'.1.mem.below) ⟨b, off, none⟩ k.length c k rfl hS.row (by omega) ty
    exact ⟨v', W2, r1, r2, by rw [List.length_append]; omega⟩
theorem tenc_pos' (t : Ten) : 0 < (tenc t).length := by
  rw [tenc_eq]
  simp only [List.length_append, List.length_cons, List.length_nil]
  omega
set_option maxHeartbeats 8000000 in
theorem rconfig_any {w : World} {v : Value} {c : Cgf} (h : CV w v c) (hi : CIn c) (ht : ∀ t ∈ c.ten, TIn t) (hl : c.ten.length ≤ 1000000) :
    Calls Tryz.prog 14 #[v] w fun e w' => ∃ u, e = .returned u ∧ Ob w w' u (cenc c) [] 1500000 := by
  obtain ⟨hlen, u, rfl, zs, hz, hr, hq⟩ := h
  obtain ⟨g, hg⟩ : ∃ g, w.heap.size = g := ⟨_, rfl⟩
  have hM0 : Mem w (w.alloc (.cells (cc c u).toArray 28)) [(g, .cells (cc c u).toArray 28 (0, 0))] := (Mem.nil w).push1 hg.symm
  have HI := fun K (hm : (g, Obj.cells ([] ++ (cc c u ++ [])).toArray 28 (0, 0)) ∈ K) => IC_box (w := w) hi ht hz hr hq hm
  simp only [List.nil_append, List.append_nil, List.length_nil] at HI
  obtain ⟨L0, hL0⟩ : ∃ L0 : List (Nat × Obj), L0 = [(g, .cells (cc c u).toArray 28 (0, 0))] := ⟨_, rfl⟩
  have hm : (g, Obj.cells (cc c u).toArray 28 (0, 0)) ∈ L0 := by rw [hL0]; simp
  have gt : ∀ o v, (∀ ip a b cc1 d f g a1 b1 c1 d1 f1 g1 a2 b2 c2 d2 f2 g2 k1 k2 k3 k4 k5 k6 k7 k8 dr te, c = ⟨ip, [a, b, cc1, d, f, g], [a1, b1, c1, d1, f1, g1], [a2, b2, c2, d2, f2, g2], [k1, k2, k3, k4, k5, k6, k7, k8], dr, te⟩ → (cc c u)[o]? = some v) → ∀ V, Mem w V L0 → V.cell? ⟨g, o, none⟩ = some v := by
    intro o v hv V hV
    have := (HI L0 hm V hV).cell o (cget hlen hv)
    rwa [Nat.zero_add] at this
  have D0 : Hid (∀ V, Mem w V L0 → V.cell? ⟨g, 0, none⟩ = some (.int .u32 c.ip)) := gt 0 (.int .u32 c.ip) (by rintro ip a b cc1 d f g a1 b1 c1 d1 f1 g1 a2 b2 c2 d2 f2 g2 k1 k2 k3 k4 k5 k6 k7 k8 dr te rfl; rfl)
  have D27 : Hid (∀ V, Mem w V L0 → V.cell? ⟨g, 27, none⟩ = some (.int .u32 c.drain)) := gt 27 (.int .u32 c.drain) (by rintro ip a b cc1 d f g a1 b1 c1 d1 f1 g1 a2 b2 c2 d2 f2 g2 k1 k2 k3 k4 k5 k6 k7 k8 dr te rfl; rfl)
  have D28 : Hid (∀ V, Mem w V L0 → V.cell? ⟨g, 28, none⟩ = some u) := gt 28 u (by rintro ip a b cc1 d f g a1 b1 c1 d1 f1 g1 a2 b2 c2 d2 f2 g2 k1 k2 k3 k4 k5 k6 k7 k8 dr te rfl; rfl)
  have RK : Hid (∀ V, Mem w V L0 → Row V (some ⟨g, 1, none⟩) c.mac ∧ Row V (some ⟨g, 7, none⟩) c.omac ∧ Row V (some ⟨g, 13, none⟩) c.nmac ∧ Row V (some ⟨g, 19, none⟩) c.key) := by
    intro V hV
    have h := HI L0 hm V hV
    have a1 := h.row 1 c.mac hi.mac (by rw [hlen.mac]; omega) [.int .u32 c.ip] (c.omac.map (Value.int .u8) ++ (c.nmac.map (Value.int .u8) ++ (c.key.map (Value.int .u8) ++ [.int .u32 c.drain, u]))) rfl rfl
    have a2 := h.row 7 c.omac hi.omac (by rw [hlen.omac]; omega) (.int .u32 c.ip :: c.mac.map (Value.int .u8)) (c.nmac.map (Value.int .u8) ++ (c.key.map (Value.int .u8) ++ [.int .u32 c.drain, u])) (by simp [hlen.mac]) (by simp [cc])
    have a3 := h.row 13 c.nmac hi.nmac (by rw [hlen.nmac]; omega) (.int .u32 c.ip :: (c.mac.map (Value.int .u8) ++ c.omac.map (Value.int .u8))) (c.key.map (Value.int .u8) ++ [.int .u32 c.drain, u]) (by simp [hlen.mac, hlen.omac]) (by simp [cc])
    have a4 := h.row 19 c.key hi.key (by rw [hlen.key]; omega) (.int .u32 c.ip :: (c.mac.map (Value.int .u8) ++ (c.omac.map (Value.int .u8) ++ c.nmac.map (Value.int .u8)))) ([.int .u32 c.drain, u]) (by simp [hlen.mac, hlen.omac, hlen.nmac]) (by simp [cc])
    rw [Nat.zero_add] at a1 a2 a3 a4
    exact ⟨a1, a2, a3, a4⟩
  have HL : Hid (c.mac.length = 6 ∧ c.omac.length = 6 ∧ c.nmac.length = 6 ∧ c.key.length = 8) := ⟨hlen.mac, hlen.omac, hlen.nmac, hlen.key⟩
  obtain ⟨sa, sc, rfl, hrr⟩ := hr
  have hN0 : (zs.map zc).length = c.ten.length := by rw [List.length_map, ← hz, List.length_map]
  have HR : Hid (∀ i, i < c.ten.length → ∀ V, Mem w V L0 → ∃ b off x, sa = some ⟨b, off, none⟩ ∧ V.rangeAt b (off + i * 33) x ∧ x.length = 33 ∧ x.toArray.all (·.oneCell') = true ∧ TV V (.agg x.toArray) (c.ten.getD i ten0) ∧ TIn (c.ten.getD i ten0)) := by
    intro i hi V hV
    have h := HI L0 hm V hV
    have hil : i < zs.length := by rw [List.length_map] at hN0; omega
    obtain ⟨b, off, x, e1, e2, e3, e4, e5⟩ := tsv_at h.2.2.2.1 (fun z hz => ⟨(h.2.2.2.2 z hz).1.len, (h.2.2.2.2 z hz).2⟩) i hil
    rw [hz] at e5
    refine ⟨b, off, x, e1, e2, e3, e4, e5, ht _ ?_⟩
    rw [List.getD_eq_getElem?_getD, List.getElem?_eq_getElem hi, Option.getD_some]
    exact List.getElem_mem _
  rw [hN0] at D28
  rw [← hL0] at hM0
  clear HI gt hrr hq hlen hi hm ht hz
  generalize (cc c (.slice sa (zs.map zc).length sc)).toArray = tl at *
  clear hL0 hN0
  rw [cenc_eq]
  obtain ⟨N, hN⟩ : ∃ N, c.ten.length = N := ⟨_, rfl⟩
  obtain ⟨k, hk⟩ : ∃ k, min N 255 = k := ⟨_, rfl⟩
  have hch : chead c = (((((([] ++ be 4 c.ip) ++ c.mac) ++ c.omac) ++ c.nmac) ++ c.key) ++ be 4 c.drain) ++ [(k : Int)] := by rw [← hk, ← hN]; rfl
  have HCH : Hid (chead c = (((((([] ++ be 4 c.ip) ++ c.mac) ++ c.omac) ++ c.nmac) ++ c.key) ++ be 4 c.drain) ++ [(k : Int)]) := hch
  rw [hN] at D28 HR hl ⊢
  rw [hk]
  have HE : Hid (∀ i, cat (fun i => tenc (c.ten.getD i ten0)) (i + 1) = cat (fun i => tenc (c.ten.getD i ten0)) i ++ tenc (c.ten.getD i ten0)) := fun i => rfl
  generalize (fun i => tenc (c.ten.getD i ten0)) = enc at *
  have HK : Hid (k = min N 255 ∧ N ≤ 1000000) := ⟨hk.symm, hl⟩
  have hkb : k ≤ 255 := by omega
  clear hch hk hN hl
  go_enter Tryz.func14, Tryz.ntmps14
  go_upto_region 1 with fail
  refine wp_letter (fun V => Mem w V L0) hM0 ?_
  intro V0 hM
  clear hM0
  have HO0 : Hid (Ob w V0.drew (.slice none 0 0) [] L0 0) := ⟨Out.nil hM.drew, Nat.le_refl _⟩
  have c0 := D0.out _ hM
  go_region_held3 (fun V => V.cell? ⟨g, 0, none⟩ = some (.int .u32 c.ip)) (first | go_keep | exact D0.out _ hO1.mem | exact D0.out _ hO2.mem)
    (first
      | (go_at_call 32; with_reducible refine (rput32_any HO0.out c.ip (by omega)).mono ?_; rintro e W1 ⟨v1, rfl, hO1⟩)
      | (refine step_out rfl (.tmp 7) (.tmp 9) rfl (by simp [Act.eval]) ⟨g, 1, none⟩ 6 6 (by simp [Act.eval]) hO1 c.mac HL.out.1 (RK.out _ hO1.mem).1 (by omega) ?_; intro v2 W2 hO2)
      | fail)
  have HO2 : Hid (Ob w W2 v2 (([] ++ be 4 c.ip) ++ c.mac) L0 10) := hO2
  clear hO1 hO2 HO0 c0 hM D0
  go_upto_region 2 with fail
  go_region_held3 (fun V => True) (trivial)
    (first
      | (refine step_out rfl (.tmp 11) (.tmp 13) rfl (by simp [Act.eval]) ⟨g, 7, none⟩ 6 6 (by simp [Act.eval]) HO2.out.drew c.omac HL.out.2.1 (RK.out _ HO2.out.drew.mem).2.1 (by omega) ?_; intro v3 W3 hO3)
      | (refine step_out rfl (.tmp 14) (.tmp 16) rfl (by simp [Act.eval]) ⟨g, 13, none⟩ 6 6 (by simp [Act.eval]) hO3 c.nmac HL.out.2.2.1 (RK.out _ hO3.mem).2.2.1 (by omega) ?_; intro v4 W4 hO4)
      | fail)
  have HO4 : Hid (Ob w W4 v4 (((([] ++ be 4 c.ip) ++ c.mac) ++ c.omac) ++ c.nmac) L0 22) := hO4
  clear hO3 hO4 HO2
  have c27 := D27.out _ HO4.out.mem
  go_upto_region 3 with fail
  go_region_held3 (fun V => V.cell? ⟨g, 27, none⟩ = some (.int .u32 c.drain)) (first | go_keep | exact D27.out _ hO5.mem | exact D27.out _ hO6.mem)
    (first
      | (refine step_out rfl (.tmp 18) (.tmp 20) rfl (by simp [Act.eval]) ⟨g, 19, none⟩ 8 8 (by simp [Act.eval]) HO4.out.drew c.key HL.out.2.2.2 (RK.out _ HO4.out.drew.mem).2.2.2 (by omega) ?_; intro v5 W5 hO5)
      | (go_at_call 32; with_reducible refine (rput32_any hO5 c.drain (by omega)).mono ?_; rintro e W6 ⟨v6, rfl, hO6⟩)
      | fail)
  have HO6 : Hid (Ob w W6 v6 (((((([] ++ be 4 c.ip) ++ c.mac) ++ c.omac) ++ c.nmac) ++ c.key) ++ be 4 c.drain) L0 34) := hO6
  clear hO5 hO6 HO4 RK D27 HL c27
  go_upto_region 4 with fail
  go_cut [3] from 25 (fun u3 w' => Hid (Ob w w' u3 (chead c) L0 35))
  case first =>
    have hkk := HK.out
    have d1 : (((N : Int) ≤ 255 ∧ ¬ ((255 : Int) < N)) ∧ k = N) ∨ ((¬ ((N : Int) ≤ 255) ∧ (255 : Int) < N) ∧ k = 255) := by omega
    have e1 : IntKind.u8.wrap (k : Int) = k := by rw [wrapu8]; omega
    have f1 : (k : Int) % 256 = k := by omega
    obtain ⟨v7, W7, hr, hO⟩ := out_lits HO6.out.1 [(k : Int)] (bytes_cons (by omega) bytes_nil) 1 rfl (by have := HO6.out.2; omega) 40
    have HO7 : Hid (Ob w W7 v7 (chead c) L0 35) := by rw [HCH.out]; exact ⟨hO, by have := HO6.out.2; simp only [List.length_append] at this ⊢; simp; omega⟩
    simp only [List.map_cons, List.map_nil] at hr
    have c28 := D28.out _ HO6.out.mem
    clear hO HK HCH HE HR hkk HO6 D28
    rcases d1 with ⟨⟨m1, n1⟩, rfl⟩ | ⟨⟨m1, n1⟩, rfl⟩
    all_goals (try simp only [Int.cast_ofNat_Int] at hr e1 f1)
    all_goals
      go_wp2_with (at_builtin; refine wpList_append_run (.tmp 25) (.tmp 31) 40 40 (by with_reducible rfl) hr rfl rfl (by simp [Act.eval]) (by simp [Act.eval]) ?_)
      go_meet
      case rel => exact HO7
  case rest =>
    have HO7 : Hid (Ob w wc u3 (chead c) L0 35) := hcut
    clear hcut HCH HO6
    go_wp2_with fail
    go_loopw [3, 4] (fun u3 u4 w' => ∃ i : Nat, i ≤ k ∧ u4 = .int .i64 i ∧ Hid (Ob w w' u3 (chead c ++ cat enc i) L0 (35 + i * 5500))) (fun u3 u4 w' => k - (intOf u4).toNat)
    case atStart => exact ⟨0, Nat.zero_le _, rfl, by rw [cat, List.append_nil]; exact HO7⟩
    case round =>
      obtain ⟨i, hi, rfl, HRR⟩ := hrel
      clear HO7
      have c28 := D28.out _ HRR.out.mem
      have hkk := HK.out
      by_cases hlt : i < k
      · have h1 : (i : Int) < N := by omega
        have h2 : (i : Int) < 255 := by omega
        have h3 : i < N := by omega
        obtain ⟨b, off, x, rfl, hra, hsz, hone, hTV, hTI⟩ := HR.out i h3 _ HRR.out.mem
        have CT := rtenant_any hTV hTI
        have EE := HE.out i
        have hpos := tenc_pos' (c.ten.getD i ten0)
        generalize tenc (c.ten.getD i ten0) = T at *
        have HEE : Hid (cat enc (i + 1) = cat enc i ++ T) := EE
        have HP : Hid (0 < T.length) := hpos
        have hi33 : (Tryz.prog.info? 33).map (·.size) = some x.length := by rw [hsz]; kernel_rfl
        clear EE hTV hTI hkk hpos hone
        go_wp2_with (refine wpList_load_mid rfl 33 (.tmp 48) (by with_reducible rfl) b (off + i * 33) (by simp [Act.eval]) x _ hra Tryz.underlying33 rfl hi33 ?_)
        refine CT.mono ?_
        rintro e W1 ⟨u1, rfl, hO1⟩
        obtain ⟨v2, W2, hrun, hO2⟩ := out_other HRR.out hO1 HP.out (by omega) 40
        have HH : Hid (Ob w W2 v2 (chead c ++ cat enc (i + 1)) L0 (35 + (i + 1) * 5500)) := by
          rw [HEE.out, ← List.append_assoc]
          exact ⟨hO2.1, Nat.le_trans hO2.2 (by omega)⟩
        clear hO1 hO2 HRR HEE CT c28 hra
        go_wp2_with (at_builtin; refine wpList_append_run (.tmp 44) (.tmp 50) 40 40 (by with_reducible rfl) hrun rfl rfl (by simp [Act.eval]) (by simp [Act.eval]) ?_)
        go_roundw
        case rel => exact ⟨i + 1, by omega, by go_num, HH⟩
        case measure => simp [intOf]; omega
      · obtain rfl : i = k := by omega
        have HO15 : Hid (Ob w wr u3 (chead c ++ cat enc i) [] 1500000) := ⟨HRR.out.1.none, Nat.le_trans HRR.out.2 (by omega)⟩
        clear HRR HR HE
        by_cases hN : i < N
        · have h1 : (i : Int) < N := by omega
          have h2 : ¬ ((i : Int) < 255) := by omega
          clear hkk
          go_wp2_with fail
          go_ret
          exact ⟨_, rfl, HO15.out⟩
        · have h1 : ¬ ((i : Int) < N) := by omega
          clear hkk
          go_wp2_with fail
          go_ret
          exact ⟨_, rfl, HO15.out⟩
end Go.Proofs.YtngegdamcfmonaaGreat

namespace Go.Proofs.YtngegdamcfmonaaGreat
open Go.ChangeShapes Go.WideShapes Go.ChangeAt Go.RowKit Go.Joins
open Sm
open Cf
set_option linter.unusedVariables false
set_option maxRecDepth 100000

/-- A tenant's arrays are bytes. -/
structure TBy (t : Ten) : Prop where
  key : IsBytes t.key
  vmac : IsBytes t.vmac
  host : IsBytes t.host
/-- A tenant's numbers are as great as they may be. -/
structure TRg (t : Ten) : Prop where
  vni : 0 ≤ t.vni ∧ t.vni ≤ 4294967295
  vtep : 0 ≤ t.vtep ∧ t.vtep ≤ 4294967295
  lo : 0 ≤ t.lo ∧ t.lo ≤ 65535
  hi : 0 ≤ t.hi ∧ t.hi ≤ 65535
  filter : -9223372036854775808 ≤ t.filter ∧ t.filter ≤ 9223372036854775807
  sess : -9223372036854775808 ≤ t.sess ∧ t.sess ≤ 9223372036854775807
  queue : -9223372036854775808 ≤ t.queue ∧ t.queue ≤ 9223372036854775807
  rate : 0 ≤ t.rate ∧ t.rate ≤ 4294967295
  burst : 0 ≤ t.burst ∧ t.burst ≤ 4294967295
  pool : ∀ x ∈ t.pool, 0 ≤ x ∧ x ≤ 4294967295
  stat : ∀ x ∈ t.stat, (0 ≤ x.1 ∧ x.1 ≤ 4294967295) ∧ 0 ≤ x.2 ∧ x.2 ≤ 4294967295
  twi : ∀ x ∈ t.twi, (0 ≤ x.1 ∧ x.1 ≤ 4294967295) ∧ 0 ≤ x.2 ∧ x.2 ≤ 4294967295
section
variable {H : Type} {enc : TypeId × Value → H} {W : World} {base : Nat} {held : Bool}
theorem open_nums2 {fuel : Nat} {cs : List Value} {x : DataW H × List MemPlace} (h : DataW.trod enc Tryz.prog W base (fun _ => true) held fuel 29 cs = some x) :
    ∃ (v : Value) (l : List Int), cs = [v] ∧ Rw W 1 v (ux l) ∧ ∀ x ∈ l, 0 ≤ x ∧ x ≤ 4294967295 := by
  rcases open_ints Tryz.underlying29 Tryz.underlying22 (by kernel_rfl) h with ⟨rfl, _⟩ | ⟨a, len, cap, zs, rfl, _, hl, hm, hz, _, hcell, hwz⟩
  · exact ⟨_, [], rfl, ⟨none, 0, rfl, Nat.le_refl _, by omega, fun _ => rfl, Or.inl rfl⟩, by simp⟩
  · simp only [if_true] at hz
    have e : (ux (zs.take len)).length = len := by simp [ux]; omega
    refine ⟨_, zs.take len, rfl, ⟨some a, cap, by rw [e], by omega, hm, (fun e => by cases e), ?_⟩, fun x hx => bounds_u32 (hwz x (List.mem_of_mem_take hx))⟩
    by_cases h0 : len = 0
    · left
      subst h0
      simp [ux]
    · right
      obtain ⟨b, off, spot⟩ := a
      have hspot : spot = none := by
        have hc := hcell 0 (by omega)
        simpa [Addr.add] using World.cell?_spot hc
      subst hspot
      refine ⟨b, off, rfl, fun i hi j u hu => ?_⟩
      rw [e] at hi
      have hi' : i < (zs.take len).length := by simp; omega
      have hg : (ux (zs.take len)).getD i [] = [.int .u32 (zs.getD i 0)] := by
        rw [List.getD, ux, List.getElem?_map, List.getElem?_take, if_pos hi, List.getD, List.getElem?_eq_getElem (by omega)]
        rfl
      rw [hg] at hu
      match j, hu with
      | 0, hu =>
        simp at hu
        subst hu
        have hc := hcell i (by omega)
        rw [addr_add] at hc
        simpa using hc
theorem open_pairs2 {fuel : Nat} {cs : List Value} {x : DataW H × List MemPlace} (h : DataW.trod enc Tryz.prog W base (fun _ => true) held fuel 31 cs = some x) :
    ∃ (v : Value) (l : List (Int × Int)), cs = [v] ∧ Rw W 2 v (px l) ∧ ∀ x ∈ l, (0 ≤ x.1 ∧ x.1 ≤ 4294967295) ∧ 0 ≤ x.2 ∧ x.2 ≤ 4294967295 := by
  rcases Go.Deep.open_slice Tryz.underlying31 h with ⟨rfl, _⟩ | ⟨a, len, cap, m, n, D, Pl, rfl, _, hl, hm, hmm, _, hx⟩
  · exact ⟨_, [], rfl, ⟨none, 0, rfl, Nat.le_refl _, by omega, fun _ => rfl, Or.inl rfl⟩, by simp⟩
  · have hlm : len ≤ m := by simp at hmm; omega
    by_cases h0 : len = 0
    · subst h0
      exact ⟨_, [], rfl, ⟨some a, cap, rfl, Nat.zero_le _, hm, (fun e => by cases e), Or.inl rfl⟩, by simp⟩
    · rw [show Tryz.prog.cellsOf 142 = 2 by kernel_rfl] at hx
      obtain ⟨b, off, spot⟩ := a
      have hspot : spot = none := by
        obtain ⟨cs', h1, h2⟩ := hx 0 (by omega)
        obtain ⟨_, hlen, hcell⟩ := World.cells?_some h1
        have hc := hcell 0 (by omega)
        rw [List.getElem?_eq_getElem (by omega)] at hc
        simpa [Addr.add] using World.cell?_spot hc
      subst hspot
      obtain ⟨l, hll, hq⟩ := list_of (fun i (x : Int × Int) => W.cell? ⟨b, off + i * 2, none⟩ = some (.int .u32 x.1) ∧ W.cell? ⟨b, off + i * 2 + 1, none⟩ = some (.int .u32 x.2) ∧ (0 ≤ x.1 ∧ x.1 ≤ 4294967295) ∧ 0 ≤ x.2 ∧ x.2 ≤ 4294967295) len (fun i hi => by
        obtain ⟨cs', h1, h2⟩ := hx i (by omega)
        obtain ⟨_, hlen, hcell⟩ := World.cells?_some h1
        match cs', hlen with
        | [v0, v1], _ =>
          have e0 := hcell 0 (by omega)
          have e1 := hcell 1 (by omega)
          rw [Go.Deep.add_add] at e0 e1
          rw [addr_add] at e0 e1
          obtain ⟨y0, y1, n', g0, g1⟩ := trod_struct2 Tryz.underlying142 h2
          have k0 : DataW.trod enc Tryz.prog W base (fun _ => true) held n' 22 [v0] = some y0 := by
            have := g0; simp only [show Tryz.prog.cellsOf 22 = 1 by kernel_rfl] at this; exact this
          have k1 : DataW.trod enc Tryz.prog W base (fun _ => true) held n' 22 [v1] = some y1 := by
            have := g1; simp only [show Tryz.prog.cellsOf 22 = 1 by kernel_rfl] at this; exact this
          obtain ⟨x0, rfl, q0⟩ := open_cell Tryz.underlying22 k0
          obtain ⟨x1, rfl, q1⟩ := open_cell Tryz.underlying22 k1
          exact ⟨(x0, x1), by simpa using e0, by simpa [Nat.add_assoc] using e1, bounds_u32 q0, bounds_u32 q1⟩)
      have e : (px l).length = len := by simp [px, hll]
      refine ⟨_, l, rfl, ⟨some ⟨b, off, none⟩, cap, by rw [e], by omega, hm, (fun e => by cases e), Or.inr ⟨b, off, rfl, fun i hi j u hu => ?_⟩⟩, fun x hx => by
        obtain ⟨i, hi, rfl⟩ := List.getElem_of_mem hx
        exact (hq i _ (List.getElem?_eq_getElem hi)).2.2⟩
      rw [e] at hi
      have hg : (px l).getD i [] = [.int .u32 (l[i]'(by omega)).1, .int .u32 (l[i]'(by omega)).2] := by
        rw [List.getD, px, List.getElem?_map, List.getElem?_eq_getElem (by omega)]
        rfl
      rw [hg] at hu
      obtain ⟨q0, q1, -⟩ := hq i _ (List.getElem?_eq_getElem (by omega))
      match j, hu with
      | 0, hu =>
        simp at hu
        subst hu
        simpa using q0
      | 1, hu =>
        simp at hu
        subst hu
        exact q1
theorem open_cells2 {fuel : Nat} {cs : List Value} {x : DataW H × List MemPlace} (hf : DataW.trod enc Tryz.prog W base (fun _ => true) held fuel 33 cs = some x) :
    ∃ (t : Ten) (p s q : Value), cs = tc t p s q ∧ TLen t ∧ Rw W 1 p (ux t.pool) ∧ Rw W 2 s (px t.stat) ∧ Rw W 2 q (px t.twi) ∧ TBy t ∧ TRg t := by
  obtain ⟨n, hl, ⟨y0, g0⟩, ⟨y1, g1⟩, ⟨y2, g2⟩, ⟨y3, g3⟩, ⟨y4, g4⟩, ⟨y5, g5⟩, ⟨y6, g6⟩, ⟨y7, g7⟩, ⟨y8, g8⟩, ⟨y9, g9⟩, ⟨y10, g10⟩, ⟨y11, g11⟩, ⟨y12, g12⟩, ⟨y13, g13⟩, ⟨y14, g14⟩, ⟨y15, g15⟩⟩ := trod_struct16 Tryz.underlying33 hf
  rw [show Tryz.prog.cellsOf 33 = 33 by kernel_rfl] at hl
  have c1 : Tryz.prog.cellsOf 9 = 1 := by kernel_rfl
  have c2 : Tryz.prog.cellsOf 22 = 1 := by kernel_rfl
  have c3 : Tryz.prog.cellsOf 25 = 8 := by kernel_rfl
  have c4 : Tryz.prog.cellsOf 24 = 6 := by kernel_rfl
  have c5 : Tryz.prog.cellsOf 29 = 1 := by kernel_rfl
  have c6 : Tryz.prog.cellsOf 30 = 1 := by kernel_rfl
  have c7 : Tryz.prog.cellsOf 3 = 1 := by kernel_rfl
  have c8 : Tryz.prog.cellsOf 31 = 1 := by kernel_rfl
  simp only [c1, c2, c3, c4, c5, c6, c7, c8] at g0 g1 g2 g3 g4 g5 g6 g7 g8 g9 g10 g11 g12 g13 g14 g15
  obtain ⟨nm, e0, -⟩ := DataW.trod_string Tryz.underlying9 g0
  obtain ⟨vni, e1, -, w1⟩ := DataW.trod_int Tryz.underlying22 g1
  obtain ⟨key, e2, l2, b2⟩ := open_arr Tryz.underlying25 c3 g2
  obtain ⟨vtep, e3, -, w3⟩ := DataW.trod_int Tryz.underlying22 g3
  obtain ⟨vmac, e4, l4, b4⟩ := open_arr Tryz.underlying24 c4 g4
  obtain ⟨host, e5, l5, b5⟩ := open_arr Tryz.underlying24 c4 g5
  obtain ⟨p, pool, e6, r6, w6⟩ := open_nums2 g6
  obtain ⟨lo, e7, -, w7⟩ := DataW.trod_int Tryz.underlying30 g7
  obtain ⟨hi, e8, -, w8⟩ := DataW.trod_int Tryz.underlying30 g8
  obtain ⟨fi, e9, -, w9⟩ := DataW.trod_int Tryz.underlying3 g9
  obtain ⟨s, stat, e10, r10, w10⟩ := open_pairs2 g10
  obtain ⟨q, twi, e11, r11, w11⟩ := open_pairs2 g11
  obtain ⟨se, e12, -, w12⟩ := DataW.trod_int Tryz.underlying3 g12
  obtain ⟨qu, e13, -, w13⟩ := DataW.trod_int Tryz.underlying3 g13
  obtain ⟨ra, e14, -, w14⟩ := DataW.trod_int Tryz.underlying22 g14
  obtain ⟨bu, e15, -, w15⟩ := DataW.trod_int Tryz.underlying22 g15
  have step : ∀ o n o', o + n = o' → cs.drop o = (cs.drop o).take n ++ cs.drop o' := by
    intro o n o' e
    subst e
    rw [← List.drop_drop, List.take_append_drop]
  refine ⟨⟨nm, vni, key, vtep, vmac, host, pool, lo, hi, fi, stat, twi, se, qu, ra, bu⟩, p, s, q, ?_, ⟨l2, l4, l5⟩, r6, r10, r11, ⟨b2, b4, b5⟩, ⟨bounds_u32 w1, bounds_u32 w3, bounds_u16 w7, bounds_u16 w8, bounds_i64 w9, bounds_i64 w12, bounds_i64 w13, bounds_u32 w14, bounds_u32 w15, w6, w10, w11⟩⟩
  have hend : cs.drop 33 = [] := by rw [List.drop_eq_nil_iff]; omega
  refine (List.drop_zero (l := cs)).symm.trans ?_
  rw [step 0 1 1 rfl, e0, step 1 1 2 rfl, e1, step 2 8 10 rfl, e2, step 10 1 11 rfl, e3, step 11 6 17 rfl, e4, step 17 6 23 rfl, e5, step 23 1 24 rfl, e6, step 24 1 25 rfl, e7, step 25 1 26 rfl, e8, step 26 1 27 rfl, e9, step 27 1 28 rfl, e10, step 28 1 29 rfl, e11, step 29 1 30 rfl, e12, step 30 1 31 rfl, e13, step 31 1 32 rfl, e14, step 32 1 33 rfl, e15, hend]
  simp only [tc, List.cons_append, List.nil_append, List.append_nil]
theorem trod_struct3 {t : TypeId} {f0 f1 f2 : Field} {fuel : Nat} {cs : List Value} {x : DataW H × List MemPlace} (ht : Tryz.prog.underlying t = some (.struct #[f0, f1, f2])) (h : DataW.trod enc Tryz.prog W base (fun _ => true) held fuel t cs = some x) :
    ∃ n, cs.length = Tryz.prog.cellsOf t ∧ (∃ y, DataW.trod enc Tryz.prog W base (fun _ => true) held n f0.type ((cs.drop f0.offset).take (Tryz.prog.cellsOf f0.type)) = some y) ∧ (∃ y, DataW.trod enc Tryz.prog W base (fun _ => true) held n f1.type ((cs.drop f1.offset).take (Tryz.prog.cellsOf f1.type)) = some y) ∧ (∃ y, DataW.trod enc Tryz.prog W base (fun _ => true) held n f2.type ((cs.drop f2.offset).take (Tryz.prog.cellsOf f2.type)) = some y) := by
  obtain ⟨xs, n, _, _, hl, hlen, hf⟩ := DataW.trod_struct ht h
  have hlen' : xs.length = 3 := hlen
  exact ⟨n, hl, ⟨_, (hf 0 f0 rfl).trans (List.getElem?_eq_getElem (by omega))⟩, ⟨_, (hf 1 f1 rfl).trans (List.getElem?_eq_getElem (by omega))⟩, ⟨_, (hf 2 f2 rfl).trans (List.getElem?_eq_getElem (by omega))⟩⟩
theorem trod_struct7 {t : TypeId} {f0 f1 f2 f3 f4 f5 f6 : Field} {fuel : Nat} {cs : List Value} {x : DataW H × List MemPlace} (ht : Tryz.prog.underlying t = some (.struct #[f0, f1, f2, f3, f4, f5, f6])) (h : DataW.trod enc Tryz.prog W base (fun _ => true) held fuel t cs = some x) :
    ∃ n, cs.length = Tryz.prog.cellsOf t ∧ (∃ y, DataW.trod enc Tryz.prog W base (fun _ => true) held n f0.type ((cs.drop f0.offset).take (Tryz.prog.cellsOf f0.type)) = some y) ∧ (∃ y, DataW.trod enc Tryz.prog W base (fun _ => true) held n f1.type ((cs.drop f1.offset).take (Tryz.prog.cellsOf f1.type)) = some y) ∧ (∃ y, DataW.trod enc Tryz.prog W base (fun _ => true) held n f2.type ((cs.drop f2.offset).take (Tryz.prog.cellsOf f2.type)) = some y) ∧ (∃ y, DataW.trod enc Tryz.prog W base (fun _ => true) held n f3.type ((cs.drop f3.offset).take (Tryz.prog.cellsOf f3.type)) = some y) ∧ (∃ y, DataW.trod enc Tryz.prog W base (fun _ => true) held n f4.type ((cs.drop f4.offset).take (Tryz.prog.cellsOf f4.type)) = some y) ∧ (∃ y, DataW.trod enc Tryz.prog W base (fun _ => true) held n f5.type ((cs.drop f5.offset).take (Tryz.prog.cellsOf f5.type)) = some y) ∧ (∃ y, DataW.trod enc Tryz.prog W base (fun _ => true) held n f6.type ((cs.drop f6.offset).take (Tryz.prog.cellsOf f6.type)) = some y) := by
  obtain ⟨xs, n, _, _, hl, hlen, hf⟩ := DataW.trod_struct ht h
  have hlen' : xs.length = 7 := hlen
  exact ⟨n, hl, ⟨_, (hf 0 f0 rfl).trans (List.getElem?_eq_getElem (by omega))⟩, ⟨_, (hf 1 f1 rfl).trans (List.getElem?_eq_getElem (by omega))⟩, ⟨_, (hf 2 f2 rfl).trans (List.getElem?_eq_getElem (by omega))⟩, ⟨_, (hf 3 f3 rfl).trans (List.getElem?_eq_getElem (by omega))⟩, ⟨_, (hf 4 f4 rfl).trans (List.getElem?_eq_getElem (by omega))⟩, ⟨_, (hf 5 f5 rfl).trans (List.getElem?_eq_getElem (by omega))⟩, ⟨_, (hf 6 f6 rfl).trans (List.getElem?_eq_getElem (by omega))⟩⟩

/-- A list of tenants. -/
theorem open_tens {fuel : Nat} {cs : List Value} {x : DataW H × List MemPlace} (h : DataW.trod enc Tryz.prog W base (fun _ => true) held fuel 26 cs = some x) :
    ∃ (v : Value) (ts : List Ten), cs = [v] ∧ TSV W v ts ∧ ∀ t ∈ ts, TBy t ∧ TRg t := by
  rcases Go.Deep.open_slice Tryz.underlying26 h with ⟨rfl, _⟩ | ⟨a, len, cap, m, n, D, Pl, rfl, _, hl, hm, hmm, _, hx⟩
  · exact ⟨_, [], rfl, ⟨[], rfl, ⟨none, 0, rfl, Nat.le_refl _, by omega, fun _ => rfl, Or.inl rfl⟩, by simp⟩, by simp⟩
  · have hlm : len ≤ m := by simp at hmm; omega
    by_cases h0 : len = 0
    · subst h0
      exact ⟨_, [], rfl, ⟨[], rfl, ⟨some a, cap, rfl, Nat.zero_le _, hm, (fun e => by cases e), Or.inl rfl⟩, by simp⟩, by simp⟩
    · rw [show Tryz.prog.cellsOf 33 = 33 by kernel_rfl] at hx
      obtain ⟨b, off, spot⟩ := a
      have hspot : spot = none := by
        obtain ⟨cs', h1, h2⟩ := hx 0 (by omega)
        obtain ⟨_, hlen, hcell⟩ := World.cells?_some h1
        have hc := hcell 0 (by omega)
        rw [List.getElem?_eq_getElem (by omega)] at hc
        simpa [Addr.add] using World.cell?_spot hc
      subst hspot
      obtain ⟨zs, hll, hq⟩ := list_of (fun i (z : Tv) => (∀ j u, (zc z)[j]? = some u → W.cell? ⟨b, off + i * 33 + j, none⟩ = some u) ∧ (TLen z.1 ∧ Rws W z) ∧ TBy z.1 ∧ TRg z.1) len (fun i hi => by
        obtain ⟨cs', h1, h2⟩ := hx i (by omega)
        obtain ⟨_, hlen, hcell⟩ := World.cells?_some h1
        obtain ⟨t, p, s, q, e, k1, k2, k3, k4, k5, k6⟩ := open_cells2 h2
        refine ⟨(t, p, s, q), fun j u hj => ?_, ⟨k1, k2, k3, k4⟩, k5, k6⟩
        have hj' : cs'[j]? = some u := by rw [e]; exact hj
        have hjl : j < 33 := by
          have := (List.getElem?_eq_some_iff.1 hj').1
          omega
        have hc := hcell j hjl
        rw [hj', Go.Deep.add_add, addr_add] at hc
        simpa [Nat.add_assoc] using hc)
      have e : (zs.map zc).length = len := by simp [hll]
      refine ⟨_, zs.map Prod.fst, rfl, ⟨zs, rfl, ⟨some ⟨b, off, none⟩, cap, by rw [e], by omega, hm, (fun e => by cases e), Or.inr ⟨b, off, rfl, fun i hi j u hu => ?_⟩⟩, fun z hz => ?_⟩, fun t ht => ?_⟩
      · rw [e] at hi
        have hg : (zs.map zc).getD i [] = zc (zs[i]'(by omega)) := by
          rw [List.getD, List.getElem?_map, List.getElem?_eq_getElem (by omega)]
          rfl
        rw [hg] at hu
        exact (hq i _ (List.getElem?_eq_getElem (by omega))).1 j u hu
      · obtain ⟨i, hi, rfl⟩ := List.getElem_of_mem hz
        exact (hq i _ (List.getElem?_eq_getElem hi)).2.1
      · obtain ⟨z, hz, rfl⟩ := List.mem_map.mp ht
        obtain ⟨i, hi, rfl⟩ := List.getElem_of_mem hz
        exact (hq i _ (List.getElem?_eq_getElem hi)).2.2
/-- The numbers of settings. -/
structure CRg (c : Cgf) : Prop where
  ip : 0 ≤ c.ip ∧ c.ip ≤ 4294967295
  drain : 0 ≤ c.drain ∧ c.drain ≤ 4294967295
theorem open_config {r : Reach} {b0 : Nat} {v : Value} {d : DataW H} {p : List MemPlace} (hv : Value.okWide Tryz.prog W r b0 28 v) (h : DataW.Trod enc Tryz.prog W base (fun _ => true) held 28 v d p) :
    ∃ c : Cgf, CV W v c ∧ CIn c ∧ CRg c ∧ ∀ t ∈ c.ten, TBy t ∧ TRg t := by
  obtain ⟨ca, rfl, hsz⟩ := okWide_struct Tryz.underlying28 hv
  obtain ⟨fuel, hf⟩ := h
  obtain ⟨cs, hcs⟩ : ∃ cs, ca.toList = cs := ⟨_, rfl⟩
  have hf' : DataW.trod enc Tryz.prog W base (fun _ => true) held fuel 28 cs = some (d, p) := by rw [← hcs]; exact hf
  obtain ⟨n, hl, ⟨y0, g0⟩, ⟨y1, g1⟩, ⟨y2, g2⟩, ⟨y3, g3⟩, ⟨y4, g4⟩, ⟨y5, g5⟩, ⟨y6, g6⟩⟩ := trod_struct7 Tryz.underlying28 hf'
  rw [show Tryz.prog.cellsOf 28 = 29 by kernel_rfl] at hl
  have c2 : Tryz.prog.cellsOf 22 = 1 := by kernel_rfl
  have c3 : Tryz.prog.cellsOf 25 = 8 := by kernel_rfl
  have c4 : Tryz.prog.cellsOf 24 = 6 := by kernel_rfl
  have c5 : Tryz.prog.cellsOf 26 = 1 := by kernel_rfl
  simp only [c2, c3, c4, c5] at g0 g1 g2 g3 g4 g5 g6
  obtain ⟨ip, e0, -, w0⟩ := DataW.trod_int Tryz.underlying22 g0
  obtain ⟨mac, e1, l1, b1⟩ := open_arr Tryz.underlying24 c4 g1
  obtain ⟨om, e2, l2, b2⟩ := open_arr Tryz.underlying24 c4 g2
  obtain ⟨nmac, e3, l3, b3⟩ := open_arr Tryz.underlying24 c4 g3
  obtain ⟨key, e4, l4, b4⟩ := open_arr Tryz.underlying25 c3 g4
  obtain ⟨dr, e5, -, w5⟩ := DataW.trod_int Tryz.underlying22 g5
  obtain ⟨u, ts, e6, r6, w6⟩ := open_tens g6
  have step : ∀ o n o', o + n = o' → cs.drop o = (cs.drop o).take n ++ cs.drop o' := by
    intro o n o' e
    subst e
    rw [← List.drop_drop, List.take_append_drop]
  have hend : cs.drop 29 = [] := by rw [List.drop_eq_nil_iff]; omega
  refine ⟨⟨ip, mac, om, nmac, key, dr, ts⟩, ⟨⟨l1, l2, l3, l4⟩, u, ?_, r6⟩, ⟨⟨l1, l2, l3, l4⟩, b1, b2, b3, b4⟩, ⟨bounds_u32 w0, bounds_u32 w5⟩, w6⟩
  have e' : cs = cc ⟨ip, mac, om, nmac, key, dr, ts⟩ u := by
    refine (List.drop_zero (l := cs)).symm.trans ?_
    rw [step 0 1 1 rfl, e0, step 1 6 7 rfl, e1, step 7 6 13 rfl, e2, step 13 6 19 rfl, e3, step 19 8 27 rfl, e4, step 27 1 28 rfl, e5, step 28 1 29 rfl, e6, hend]
    simp only [cc, List.cons_append, List.nil_append, List.append_nil]
  rw [← e', ← hcs]
theorem open_change {r : Reach} {b0 : Nat} {v : Value} {d : DataW H} {p : List MemPlace} (hv : Value.okWide Tryz.prog W r b0 35 v) (h : DataW.Trod enc Tryz.prog W base (fun _ => true) held 35 v d p) :
    ∃ c : Chg, HV W v c ∧ TBy c.t ∧ TRg c.t := by
  obtain ⟨ca, rfl, hsz⟩ := okWide_struct Tryz.underlying35 hv
  obtain ⟨fuel, hf⟩ := h
  obtain ⟨cs, hcs⟩ : ∃ cs, ca.toList = cs := ⟨_, rfl⟩
  have hf' : DataW.trod enc Tryz.prog W base (fun _ => true) held fuel 35 cs = some (d, p) := by rw [← hcs]; exact hf
  obtain ⟨n, hl, ⟨y0, g0⟩, ⟨y1, g1⟩, ⟨y2, g2⟩⟩ := trod_struct3 Tryz.underlying35 hf'
  rw [show Tryz.prog.cellsOf 35 = 35 by kernel_rfl] at hl
  have c0 : Tryz.prog.cellsOf 4 = 1 := by kernel_rfl
  have c1 : Tryz.prog.cellsOf 9 = 1 := by kernel_rfl
  have c2 : Tryz.prog.cellsOf 33 = 33 := by kernel_rfl
  simp only [c0, c1, c2] at g0 g1 g2
  obtain ⟨put, e0, -⟩ := DataW.trod_bool Tryz.underlying4 g0
  obtain ⟨name, e1, -⟩ := DataW.trod_string Tryz.underlying9 g1
  obtain ⟨t, p', s, q, e2, k1, k2, k3, k4, k5, k6⟩ := open_cells2 g2
  have step : ∀ o n o', o + n = o' → cs.drop o = (cs.drop o).take n ++ cs.drop o' := by
    intro o n o' e
    subst e
    rw [← List.drop_drop, List.take_append_drop]
  have hend : cs.drop 35 = [] := by rw [List.drop_eq_nil_iff]; omega
  refine ⟨⟨put, name, t⟩, ⟨k1, p', s, q, ?_, k2, k3, k4⟩, k5, k6⟩
  have e' : cs = hc ⟨put, name, t⟩ p' s q := by
    refine (List.drop_zero (l := cs)).symm.trans ?_
    rw [step 0 1 1 rfl, e0, step 1 1 2 rfl, e1, step 2 33 35 rfl, e2, hend]
    simp only [hc, List.cons_append, List.nil_append, List.append_nil]
  rw [← e', ← hcs]
theorem open_tenants {r : Reach} {b0 : Nat} {v : Value} {d : DataW H} {p : List MemPlace} (hv : Value.okWide Tryz.prog W r b0 26 v) (h : DataW.Trod enc Tryz.prog W base (fun _ => true) held 26 v d p) :
    ∃ ts : List Ten, TSV W v ts ∧ ∀ t ∈ ts, TBy t ∧ TRg t := by
  obtain ⟨a, len, cap, rfl⟩ := okWide_slice Tryz.underlying26 hv
  obtain ⟨fuel, hf⟩ := h
  obtain ⟨v, ts, e, h1, h2⟩ := open_tens hf
  simp [Value.cells] at e
  subst e
  exact ⟨ts, h1, h2⟩
end
end Go.Proofs.YtngegdamcfmonaaGreat

namespace Go.Proofs.YtngegdamcfmonaaGreat
open Go.RowKit
open Sm
open Cf
set_option linter.unusedVariables false
set_option maxRecDepth 20000

/-- The first k bytes. -/
theorem sl_head {a : Option Addr} {l : List Int} {c : Nat} {w : World} (hS : Sl w a l c) (k : Int) (h0 : 0 ≤ k) (h1 : k ≤ l.length) : (∀ V, (Instr.slice 40 (.slice a l.length c) none (some (.int .i64 k)) none).run Tryz.prog V = .ok (.slice a (l.take k.toNat).length c) V) ∧ Sl w a (l.take k.toNat) c := by
  have hc := hS.le
  have hsz : ∀ V, (sizeOf (Tryz.prog.elem 40)).run Tryz.prog V = .ok 1 V := fun V => by kernel_rfl
  have hlen : (l.take k.toNat).length = k.toNat := by rw [List.length_take]; omega
  refine ⟨fun V => ?_, ?_, by omega, hS.big, hS.nil⟩
  · rw [run_slice_h (P := Tryz.prog) V 40 a l.length c (by kernel_rfl) .i64 k h0 (by omega), hsz, hlen]
    cases a with
    | none => simp [Result.andThen, sliced]
    | some p => simp [Result.andThen, sliced, Addr.add]
  · rcases hS.row.cells with e | ⟨b0, off, rfl, hcl⟩
    · subst e
      rw [List.take_nil]
      exact row_empty w _
    · have := hS.row.part 0 k.toNat (by omega)
      simpa using this
theorem cat_len_le (enc : Nat → List Int) (c : Nat) (h : ∀ i, (enc i).length ≤ c) : ∀ n, (cat enc n).length ≤ n * c
  | 0 => by simp [cat]
  | n + 1 => by
    have := cat_len_le enc c h n
    have := h n
    rw [cat, List.length_append, Nat.succ_mul]
    omega
theorem itm_len {α β : Type} [DecidableEq β] (d : β) (se : Sp β) (fl : α → List β) (fs : α → List β → α) (t : α) (h : ∀ y, (se.enc y).length ≤ 8) : ((spItm d se fl fs).enc t).length ≤ 2100 := by
  have := cat_len_le (fun i => se.enc ((fl t).getD i d)) 8 (fun i => h _) (min (fl t).length 255)
  simp only [spItm]
  omega
theorem num_len {α : Type} (sz : Nat) (fg : α → Int) (fs : α → Int → α) (t : α) (h : sz ≤ 2100) : ((spNum sz fg fs).enc t).length ≤ 2100 := by
  simp only [spNum, be_len]; exact h
theorem u_len (y : Int) : (spU.enc y).length ≤ 8 := by simp only [spU, spNum, be_len]; omega
theorem p_len (y : Int × Int) : (spP.enc y).length ≤ 8 := by
  simp only [spP, spAll, List.length_cons, List.length_nil, cat, List.getD_cons_zero, List.getD_cons_succ, spA, spB, spNum, List.length_append, be_len]
  omega
theorem tenc_le (t : Ten) (hl : TLen t) : (tenc t).length ≤ 39900 := by
  have h := cat_len_le (fun i => (tsp.getD i sp0).enc t) 2100 (fun i => by
    match i with
    | 0 => show (nm t.name).length ≤ 2100; simp only [nm, List.length_cons, List.length_take]; omega
    | 1 => exact (num_len 4 _ _ t (by omega) : (spVni.enc t).length ≤ 2100)
    | 2 => exact Nat.le_trans (Nat.le_of_eq hl.key) (by omega)
    | 3 => exact (num_len 4 _ _ t (by omega) : (spVtep.enc t).length ≤ 2100)
    | 4 => exact Nat.le_trans (Nat.le_of_eq hl.vmac) (by omega)
    | 5 => exact Nat.le_trans (Nat.le_of_eq hl.host) (by omega)
    | 6 => exact (num_len 2 _ _ t (by omega) : (spLo.enc t).length ≤ 2100)
    | 7 => exact (num_len 2 _ _ t (by omega) : (spHi.enc t).length ≤ 2100)
    | 8 => exact (num_len 1 _ _ t (by omega) : (spFilter.enc t).length ≤ 2100)
    | 9 => exact (num_len 2 _ _ t (by omega) : (spSess.enc t).length ≤ 2100)
    | 10 => exact (num_len 2 _ _ t (by omega) : (spQueue.enc t).length ≤ 2100)
    | 11 => exact (num_len 4 _ _ t (by omega) : (spRate.enc t).length ≤ 2100)
    | 12 => exact (num_len 4 _ _ t (by omega) : (spBurst.enc t).length ≤ 2100)
    | 13 => exact Nat.le_of_ble_eq_true rfl
    | 14 => exact Nat.le_of_ble_eq_true rfl
    | 15 => exact Nat.le_of_ble_eq_true rfl
    | 16 => exact (itm_len 0 spU _ _ t u_len : (spPoolI.enc t).length ≤ 2100)
    | 17 => exact (itm_len (0, 0) spP _ _ t p_len : (spStaticsI.enc t).length ≤ 2100)
    | 18 => exact (itm_len (0, 0) spP _ _ t p_len : (spTwicesI.enc t).length ≤ 2100)
    | n + 19 => exact Nat.zero_le _) 19
  exact h
theorem tenc_pos (t : Ten) (hl : TLen t) : 0 < (tenc t).length := by
  rcases Nat.eq_zero_or_pos (tenc t).length with h | h
  · have e : tenc t = [] := List.eq_nil_of_length_eq_zero h
    have := tdec_back t hl []
    rw [e] at this
    cases this
  · exact h
theorem hdec_cut (t : Ten) (hl : TLen t) (l : List Int) (h : l <+: 1 :: tenc t) (hs : l.length < (1 :: tenc t).length) : hdec l = none := by
  cases l with
  | nil => rfl
  | cons b r =>
    obtain ⟨rfl, h2⟩ := List.cons_prefix_cons.mp h
    have := tdec_cut t hl r h2 (by simpa using hs)
    simp [hdec, this]
theorem openChange_any {w : World} {a : Option Addr} {l : List Int} {c : Nat} (hS : Sl w a l c) : Calls Tryz.prog 23 #[.slice a l.length c] w (OCP w (hdec l)) := by
  by_cases h : l.head? = some 1
  · cases l with
    | nil => simp at h
    | cons b r =>
      obtain rfl : b = 1 := by simpa using h
      exact openChange_put hS
  · exact openChange_no hS h
theorem build_put2 (t : Ten) (h : TLen t) (p s q : Value) (V : World) : (Instr.build 35 #[(0, .bool true), (2, .agg (tc t p s q).toArray)]).run Tryz.prog V = .ok (.agg (hc ⟨true, ByteArray.empty, t⟩ p s q).toArray) V := by
  obtain ⟨n, vn, key, vt, vm, ho, po, lo, hi, fi, st, tw, se, qu, ra, bu⟩ := t
  obtain ⟨h1, h2, h3⟩ := h
  obtain ⟨a, b, c, d, f, g, x, y, rfl⟩ := eight8 h1
  obtain ⟨a1, b1, c1, d1, f1, g1, rfl⟩ := six6 h2
  obtain ⟨a2, b2, c2, d2, f2, g2, rfl⟩ := six6 h3
  kernel_rfl
end Go.Proofs.YtngegdamcfmonaaGreat

