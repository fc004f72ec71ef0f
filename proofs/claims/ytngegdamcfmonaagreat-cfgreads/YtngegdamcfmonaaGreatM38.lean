/-
  Settings as bytes: the document's own Config and Change, at all settings and changes.
  What is written, cut off anywhere, isn't read (P12.1, P12.2), at every tenant that is light.
-/
import Derived.Test.YtngegdamcfmonaaGreatM26
import Derived.Test.YtngegdamcfmonaaGreatM37
import Derived.Test.YtngegdamcfmonaaGreatM33
import Derived.Test.YtngegdamcfmonaaGreatM36
import Derived.Test.YtngegdamcfmonaaGreatM35
import Derived.Test.YtngegdamcfmonaaGreatM27
import Derived.Test.YtngegdamcfmonaaGreatM22
namespace Go.Proofs.YtngegdamcfmonaaGreat
open Go.RowKit
open Sm
open Cf
set_option linter.unusedVariables false
set_option linter.unusedSimpArgs false
set_option maxRecDepth 20000

/-- The bytes of settings up to their tenants. -/
def chead (c : Cgf) : List Int := ((((((([] ++ be 4 c.ip) ++ c.mac) ++ c.omac) ++ c.nmac) ++ c.key) ++ be 4 c.drain) ++ [((min c.ten.length 255 : Nat) : Int)])
theorem cenc_eq (c : Cgf) : cenc c = chead c ++ cat (fun i => tenc (c.ten.getD i ten0)) (min c.ten.length 255) := rfl
theorem tsv_at {V : World} {a : Option Addr} {n c : Nat} {zs : List Tv} (hr : Rw V 33 (.slice a n c) (zs.map zc)) (hz : ∀ z ∈ zs, TLen z.1 ∧ Rws V z) (i : Nat) (hi : i < zs.length) : ∃ b off x, a = some ⟨b, off, none⟩ ∧ V.rangeAt b (off + i * 33) x ∧ x.length = 33 ∧ x.toArray.all (·.oneCell') = true ∧ TV V (.agg x.toArray) ((zs.map Prod.fst).getD i ten0) := by
  obtain ⟨b, off, rfl, hc⟩ := rw_at hr i (by rw [List.length_map]; exact hi)
  obtain ⟨z, hx⟩ : ∃ z, zs[i]? = some z := ⟨_, List.getElem?_eq_getElem hi⟩
  have hzm := hz z (List.mem_of_getElem? hx)
  have ex : (zs.map zc).getD i [] = zc z := by simp [List.getD, hx]
  rw [ex] at hc
  have et : (zs.map Prod.fst).getD i ten0 = z.1 := by simp [List.getD, hx]
  rw [et]
  exact ⟨b, off, zc z, rfl, fun j u hj => hc j u hj, tc_len hzm.1 _ _ _, zc_one hzm.2, hzm.1, z.2.1, z.2.2.1, z.2.2.2, rfl, hzm.2⟩
theorem Ob.none {w W : World} {u : Value} {l : List Int} {K : List (Nat × Obj)} {n : Nat} (h : Ob w W u l K n) : Ob w W u l [] n := ⟨h.1.none, h.2⟩
/-- Bytes that another call made, behind bytes of the call's own. -/
theorem out_other {w W W' : World} {v u : Value} {l k : List Int} {L : List (Nat × Obj)} {n m : Nat} (h : Ob w W v l L n) (h' : Ob W W' u k [] m) (hk : 0 < k.length) (hn : n + m ≤ 1000000000) (ty : TypeId) :
    ∃ v' W2, (Builtin.append_ #[40, 40] ty #[v, u]).run Tryz.prog W' = .ok v' W2 ∧ Ob w W2 v' (l ++ k) L (n + m) := by
  have h1 := h.2
  have h2 := h'.2
  obtain ⟨a, c, rfl, hS⟩ := h'.1.sl (by omega)
  rcases hS.row.cells with e | ⟨b, off, rfl, -⟩
  · rw [e] at hk; simp at hk
  · obtain ⟨v', W2, r1, r2⟩ := out_append (h.1.after h'.1.mem.below) ⟨b, off, none⟩ k.length c k rfl hS.row (by omega) ty
    exact ⟨v', W2, r1, r2, by rw [List.length_append]; omega⟩
theorem tenc_pos' (t : Ten) : 0 < (tenc t).length := by
  rw [tenc_eq]
  simp only [List.length_append, List.length_cons, List.length_nil]
  omega
set_option maxHeartbeats 8000000 in
theorem rconfig_any {w : World} {v : Value} {c : Cgf} (h : CV w v c) (hi : CIn c) (ht : ∀ t ∈ c.ten, TIn t) (hl : c.ten.length ≤ 1000000) :
    Calls Tryz.prog 14 #[v] w fun e w' => ∃ u, e = .returned u ∧ Ob w w' u (cenc c) [] 1500000 := by
  obtain ⟨hlen, u, rfl, zs, hz, hr, hq⟩ := h
  obtain ⟨g, hg⟩ : ∃ g, w.heap.size = g := ⟨_, rfl⟩
  have hM0 : Mem w (w.alloc (.cells (cc c u).toArray 28)) [(g, .cells (cc c u).toArray 28 (0, 0))] := (Mem.nil w).push1 hg.symm
  have HI := fun K (hm : (g, Obj.cells ([] ++ (cc c u ++ [])).toArray 28 (0, 0)) ∈ K) => IC_box (w := w) hi ht hz hr hq hm
  simp only [List.nil_append, List.append_nil, List.length_nil] at HI
  obtain ⟨L0, hL0⟩ : ∃ L0 : List (Nat × Obj), L0 = [(g, .cells (cc c u).toArray 28 (0, 0))] := ⟨_, rfl⟩
  have hm : (g, Obj.cells (cc c u).toArray 28 (0, 0)) ∈ L0 := by rw [hL0]; simp
  have gt : ∀ o v, (∀ ip a b cc1 d f g a1 b1 c1 d1 f1 g1 a2 b2 c2 d2 f2 g2 k1 k2 k3 k4 k5 k6 k7 k8 dr te, c = ⟨ip, [a, b, cc1, d, f, g], [a1, b1, c1, d1, f1, g1], [a2, b2, c2, d2, f2, g2], [k1, k2, k3, k4, k5, k6, k7, k8], dr, te⟩ → (cc c u)[o]? = some v) → ∀ V, Mem w V L0 → V.cell? ⟨g, o, none⟩ = some v := by
    intro o v hv V hV
    have := (HI L0 hm V hV).cell o (cget hlen hv)
    rwa [Nat.zero_add] at this
  have D0 : Hid (∀ V, Mem w V L0 → V.cell? ⟨g, 0, none⟩ = some (.int .u32 c.ip)) := gt 0 (.int .u32 c.ip) (by rintro ip a b cc1 d f g a1 b1 c1 d1 f1 g1 a2 b2 c2 d2 f2 g2 k1 k2 k3 k4 k5 k6 k7 k8 dr te rfl; rfl)
  have D27 : Hid (∀ V, Mem w V L0 → V.cell? ⟨g, 27, none⟩ = some (.int .u32 c.drain)) := gt 27 (.int .u32 c.drain) (by rintro ip a b cc1 d f g a1 b1 c1 d1 f1 g1 a2 b2 c2 d2 f2 g2 k1 k2 k3 k4 k5 k6 k7 k8 dr te rfl; rfl)
  have D28 : Hid (∀ V, Mem w V L0 → V.cell? ⟨g, 28, none⟩ = some u) := gt 28 u (by rintro ip a b cc1 d f g a1 b1 c1 d1 f1 g1 a2 b2 c2 d2 f2 g2 k1 k2 k3 k4 k5 k6 k7 k8 dr te rfl; rfl)
  have RK : Hid (∀ V, Mem w V L0 → Row V (some ⟨g, 1, none⟩) c.mac ∧ Row V (some ⟨g, 7, none⟩) c.omac ∧ Row V (some ⟨g, 13, none⟩) c.nmac ∧ Row V (some ⟨g, 19, none⟩) c.key) := by
    intro V hV
    have h := HI L0 hm V hV
    have a1 := h.row 1 c.mac hi.mac (by rw [hlen.mac]; omega) [.int .u32 c.ip] (c.omac.map (Value.int .u8) ++ (c.nmac.map (Value.int .u8) ++ (c.key.map (Value.int .u8) ++ [.int .u32 c.drain, u]))) rfl rfl
    have a2 := h.row 7 c.omac hi.omac (by rw [hlen.omac]; omega) (.int .u32 c.ip :: c.mac.map (Value.int .u8)) (c.nmac.map (Value.int .u8) ++ (c.key.map (Value.int .u8) ++ [.int .u32 c.drain, u])) (by simp [hlen.mac]) (by simp [cc])
    have a3 := h.row 13 c.nmac hi.nmac (by rw [hlen.nmac]; omega) (.int .u32 c.ip :: (c.mac.map (Value.int .u8) ++ c.omac.map (Value.int .u8))) (c.key.map (Value.int .u8) ++ [.int .u32 c.drain, u]) (by simp [hlen.mac, hlen.omac]) (by simp [cc])
    have a4 := h.row 19 c.key hi.key (by rw [hlen.key]; omega) (.int .u32 c.ip :: (c.mac.map (Value.int .u8) ++ (c.omac.map (Value.int .u8) ++ c.nmac.map (Value.int .u8)))) ([.int .u32 c.drain, u]) (by simp [hlen.mac, hlen.omac, hlen.nmac]) (by simp [cc])
    rw [Nat.zero_add] at a1 a2 a3 a4
    exact ⟨a1, a2, a3, a4⟩
  have HL : Hid (c.mac.length = 6 ∧ c.omac.length = 6 ∧ c.nmac.length = 6 ∧ c.key.length = 8) := ⟨hlen.mac, hlen.omac, hlen.nmac, hlen.key⟩
  obtain ⟨sa, sc, rfl, hrr⟩ := hr
  have hN0 : (zs.map zc).length = c.ten.length := by rw [List.length_map, ← hz, List.length_map]
  have HR : Hid (∀ i, i < c.ten.length → ∀ V, Mem w V L0 → ∃ b off x, sa = some ⟨b, off, none⟩ ∧ V.rangeAt b (off + i * 33) x ∧ x.length = 33 ∧ x.toArray.all (·.oneCell') = true ∧ TV V (.agg x.toArray) (c.ten.getD i ten0) ∧ TIn (c.ten.getD i ten0)) := by
    intro i hi V hV
    have h := HI L0 hm V hV
    have hil : i < zs.length := by rw [List.length_map] at hN0; omega
    obtain ⟨b, off, x, e1, e2, e3, e4, e5⟩ := tsv_at h.2.2.2.1 (fun z hz => ⟨(h.2.2.2.2 z hz).1.len, (h.2.2.2.2 z hz).2⟩) i hil
    rw [hz] at e5
    refine ⟨b, off, x, e1, e2, e3, e4, e5, ht _ ?_⟩
    rw [List.getD_eq_getElem?_getD, List.getElem?_eq_getElem hi, Option.getD_some]
    exact List.getElem_mem _
  rw [hN0] at D28
  rw [← hL0] at hM0
  clear HI gt hrr hq hlen hi hm ht hz
  generalize (cc c (.slice sa (zs.map zc).length sc)).toArray = tl at *
  clear hL0 hN0
  rw [cenc_eq]
  obtain ⟨N, hN⟩ : ∃ N, c.ten.length = N := ⟨_, rfl⟩
  obtain ⟨k, hk⟩ : ∃ k, min N 255 = k := ⟨_, rfl⟩
  have hch : chead c = (((((([] ++ be 4 c.ip) ++ c.mac) ++ c.omac) ++ c.nmac) ++ c.key) ++ be 4 c.drain) ++ [(k : Int)] := by rw [← hk, ← hN]; rfl
  have HCH : Hid (chead c = (((((([] ++ be 4 c.ip) ++ c.mac) ++ c.omac) ++ c.nmac) ++ c.key) ++ be 4 c.drain) ++ [(k : Int)]) := hch
  rw [hN] at D28 HR hl ⊢
  rw [hk]
  have HE : Hid (∀ i, cat (fun i => tenc (c.ten.getD i ten0)) (i + 1) = cat (fun i => tenc (c.ten.getD i ten0)) i ++ tenc (c.ten.getD i ten0)) := fun i => rfl
  generalize (fun i => tenc (c.ten.getD i ten0)) = enc at *
  have HK : Hid (k = min N 255 ∧ N ≤ 1000000) := ⟨hk.symm, hl⟩
  have hkb : k ≤ 255 := by omega
  clear hch hk hN hl
  go_enter Tryz.func14, Tryz.ntmps14
  go_upto_region 1 with fail
  refine wp_letter (fun V => Mem w V L0) hM0 ?_
  intro V0 hM
  clear hM0
  have HO0 : Hid (Ob w V0.drew (.slice none 0 0) [] L0 0) := ⟨Out.nil hM.drew, Nat.le_refl _⟩
  have c0 := D0.out _ hM
  go_region_held3 (fun V => V.cell? ⟨g, 0, none⟩ = some (.int .u32 c.ip)) (first | go_keep | exact D0.out _ hO1.mem | exact D0.out _ hO2.mem)
    (first
      | (go_at_call 32; with_reducible refine (rput32_any HO0.out c.ip (by omega)).mono ?_; rintro e W1 ⟨v1, rfl, hO1⟩)
      | (refine step_out rfl (.tmp 7) (.tmp 9) rfl (by simp [Act.eval]) ⟨g, 1, none⟩ 6 6 (by simp [Act.eval]) hO1 c.mac HL.out.1 (RK.out _ hO1.mem).1 (by omega) ?_; intro v2 W2 hO2)
      | fail)
  have HO2 : Hid (Ob w W2 v2 (([] ++ be 4 c.ip) ++ c.mac) L0 10) := hO2
  clear hO1 hO2 HO0 c0 hM D0
  go_upto_region 2 with fail
  go_region_held3 (fun V => True) (trivial)
    (first
      | (refine step_out rfl (.tmp 11) (.tmp 13) rfl (by simp [Act.eval]) ⟨g, 7, none⟩ 6 6 (by simp [Act.eval]) HO2.out.drew c.omac HL.out.2.1 (RK.out _ HO2.out.drew.mem).2.1 (by omega) ?_; intro v3 W3 hO3)
      | (refine step_out rfl (.tmp 14) (.tmp 16) rfl (by simp [Act.eval]) ⟨g, 13, none⟩ 6 6 (by simp [Act.eval]) hO3 c.nmac HL.out.2.2.1 (RK.out _ hO3.mem).2.2.1 (by omega) ?_; intro v4 W4 hO4)
      | fail)
  have HO4 : Hid (Ob w W4 v4 (((([] ++ be 4 c.ip) ++ c.mac) ++ c.omac) ++ c.nmac) L0 22) := hO4
  clear hO3 hO4 HO2
  have c27 := D27.out _ HO4.out.mem
  go_upto_region 3 with fail
  go_region_held3 (fun V => V.cell? ⟨g, 27, none⟩ = some (.int .u32 c.drain)) (first | go_keep | exact D27.out _ hO5.mem | exact D27.out _ hO6.mem)
    (first
      | (refine step_out rfl (.tmp 18) (.tmp 20) rfl (by simp [Act.eval]) ⟨g, 19, none⟩ 8 8 (by simp [Act.eval]) HO4.out.drew c.key HL.out.2.2.2 (RK.out _ HO4.out.drew.mem).2.2.2 (by omega) ?_; intro v5 W5 hO5)
      | (go_at_call 32; with_reducible refine (rput32_any hO5 c.drain (by omega)).mono ?_; rintro e W6 ⟨v6, rfl, hO6⟩)
      | fail)
  have HO6 : Hid (Ob w W6 v6 (((((([] ++ be 4 c.ip) ++ c.mac) ++ c.omac) ++ c.nmac) ++ c.key) ++ be 4 c.drain) L0 34) := hO6
  clear hO5 hO6 HO4 RK D27 HL c27
  go_upto_region 4 with fail
  go_cut [3] from 25 (fun u3 w' => Hid (Ob w w' u3 (chead c) L0 35))
  case first =>
    have hkk := HK.out
    have d1 : (((N : Int) ≤ 255 ∧ ¬ ((255 : Int) < N)) ∧ k = N) ∨ ((¬ ((N : Int) ≤ 255) ∧ (255 : Int) < N) ∧ k = 255) := by omega
    have e1 : IntKind.u8.wrap (k : Int) = k := by rw [wrapu8]; omega
    have f1 : (k : Int) % 256 = k := by omega
    obtain ⟨v7, W7, hr, hO⟩ := out_lits HO6.out.1 [(k : Int)] (bytes_cons (by omega) bytes_nil) 1 rfl (by have := HO6.out.2; omega) 40
    have HO7 : Hid (Ob w W7 v7 (chead c) L0 35) := by rw [HCH.out]; exact ⟨hO, by have := HO6.out.2; simp only [List.length_append] at this ⊢; simp; omega⟩
    simp only [List.map_cons, List.map_nil] at hr
    have c28 := D28.out _ HO6.out.mem
    clear hO HK HCH HE HR hkk HO6 D28
    rcases d1 with ⟨⟨m1, n1⟩, rfl⟩ | ⟨⟨m1, n1⟩, rfl⟩
    all_goals (try simp only [Int.cast_ofNat_Int] at hr e1 f1)
    all_goals
      go_wp2_with (at_builtin; refine wpList_append_run (.tmp 25) (.tmp 31) 40 40 (by with_reducible rfl) hr rfl rfl (by simp [Act.eval]) (by simp [Act.eval]) ?_)
      go_meet
      case rel => exact HO7
  case rest =>
    have HO7 : Hid (Ob w wc u3 (chead c) L0 35) := hcut
    clear hcut HCH HO6
    go_wp2_with fail
    go_loopw [3, 4] (fun u3 u4 w' => ∃ i : Nat, i ≤ k ∧ u4 = .int .i64 i ∧ Hid (Ob w w' u3 (chead c ++ cat enc i) L0 (35 + i * 5500))) (fun u3 u4 w' => k - (intOf u4).toNat)
    case atStart => exact ⟨0, Nat.zero_le _, rfl, by rw [cat, List.append_nil]; exact HO7⟩
    case round =>
      obtain ⟨i, hi, rfl, HRR⟩ := hrel
      clear HO7
      have c28 := D28.out _ HRR.out.mem
      have hkk := HK.out
      by_cases hlt : i < k
      · have h1 : (i : Int) < N := by omega
        have h2 : (i : Int) < 255 := by omega
        have h3 : i < N := by omega
        obtain ⟨b, off, x, rfl, hra, hsz, hone, hTV, hTI⟩ := HR.out i h3 _ HRR.out.mem
        have CT := rtenant_any hTV hTI
        have EE := HE.out i
        have hpos := tenc_pos' (c.ten.getD i ten0)
        generalize tenc (c.ten.getD i ten0) = T at *
        have HEE : Hid (cat enc (i + 1) = cat enc i ++ T) := EE
        have HP : Hid (0 < T.length) := hpos
        have hi33 : (Tryz.prog.info? 33).map (·.size) = some x.length := by rw [hsz]; kernel_rfl
        clear EE hTV hTI hkk hpos hone
        go_wp2_with (refine wpList_load_mid rfl 33 (.tmp 48) (by with_reducible rfl) b (off + i * 33) (by simp [Act.eval]) x _ hra Tryz.underlying33 rfl hi33 ?_)
        refine CT.mono ?_
        rintro e W1 ⟨u1, rfl, hO1⟩
        obtain ⟨v2, W2, hrun, hO2⟩ := out_other HRR.out hO1 HP.out (by omega) 40
        have HH : Hid (Ob w W2 v2 (chead c ++ cat enc (i + 1)) L0 (35 + (i + 1) * 5500)) := by
          rw [HEE.out, ← List.append_assoc]
          exact ⟨hO2.1, Nat.le_trans hO2.2 (by omega)⟩
        clear hO1 hO2 HRR HEE CT c28 hra
        go_wp2_with (at_builtin; refine wpList_append_run (.tmp 44) (.tmp 50) 40 40 (by with_reducible rfl) hrun rfl rfl (by simp [Act.eval]) (by simp [Act.eval]) ?_)
        go_roundw
        case rel => exact ⟨i + 1, by omega, by go_num, HH⟩
        case measure => simp [intOf]; omega
      · obtain rfl : i = k := by omega
        have HO15 : Hid (Ob w wr u3 (chead c ++ cat enc i) [] 1500000) := ⟨HRR.out.1.none, Nat.le_trans HRR.out.2 (by omega)⟩
        clear HRR HR HE
        by_cases hN : i < N
        · have h1 : (i : Int) < N := by omega
          have h2 : ¬ ((i : Int) < 255) := by omega
          clear hkk
          go_wp2_with fail
          go_ret
          exact ⟨_, rfl, HO15.out⟩
        · have h1 : ¬ ((i : Int) < N) := by omega
          clear hkk
          go_wp2_with fail
          go_ret
          exact ⟨_, rfl, HO15.out⟩
end Go.Proofs.YtngegdamcfmonaaGreat

namespace Go.Proofs.YtngegdamcfmonaaGreat
open Go.RowKit
open Sm
open Cf
set_option linter.unusedVariables false
set_option maxRecDepth 20000

/-- The first k bytes. -/
theorem sl_head {a : Option Addr} {l : List Int} {c : Nat} {w : World} (hS : Sl w a l c) (k : Int) (h0 : 0 ≤ k) (h1 : k ≤ l.length) : (∀ V, (Instr.slice 40 (.slice a l.length c) none (some (.int .i64 k)) none).run Tryz.prog V = .ok (.slice a (l.take k.toNat).length c) V) ∧ Sl w a (l.take k.toNat) c := by
  have hc := hS.le
  have hsz : ∀ V, (sizeOf (Tryz.prog.elem 40)).run Tryz.prog V = .ok 1 V := fun V => by kernel_rfl
  have hlen : (l.take k.toNat).length = k.toNat := by rw [List.length_take]; omega
  refine ⟨fun V => ?_, ?_, by omega, hS.big, hS.nil⟩
  · rw [run_slice_h (P := Tryz.prog) V 40 a l.length c (by kernel_rfl) .i64 k h0 (by omega), hsz, hlen]
    cases a with
    | none => simp [Result.andThen, sliced]
    | some p => simp [Result.andThen, sliced, Addr.add]
  · rcases hS.row.cells with e | ⟨b0, off, rfl, hcl⟩
    · subst e
      rw [List.take_nil]
      exact row_empty w _
    · have := hS.row.part 0 k.toNat (by omega)
      simpa using this
theorem cat_len_le (enc : Nat → List Int) (c : Nat) (h : ∀ i, (enc i).length ≤ c) : ∀ n, (cat enc n).length ≤ n * c
  | 0 => by simp [cat]
  | n + 1 => by
    have := cat_len_le enc c h n
    have := h n
    rw [cat, List.length_append, Nat.succ_mul]
    omega
theorem itm_len {α β : Type} [DecidableEq β] (d : β) (se : Sp β) (fl : α → List β) (fs : α → List β → α) (t : α) (h : ∀ y, (se.enc y).length ≤ 8) : ((spItm d se fl fs).enc t).length ≤ 2100 := by
  have := cat_len_le (fun i => se.enc ((fl t).getD i d)) 8 (fun i => h _) (min (fl t).length 255)
  simp only [spItm]
  omega
theorem num_len {α : Type} (sz : Nat) (fg : α → Int) (fs : α → Int → α) (t : α) (h : sz ≤ 2100) : ((spNum sz fg fs).enc t).length ≤ 2100 := by
  simp only [spNum, be_len]; exact h
theorem u_len (y : Int) : (spU.enc y).length ≤ 8 := by simp only [spU, spNum, be_len]; omega
theorem p_len (y : Int × Int) : (spP.enc y).length ≤ 8 := by
  simp only [spP, spAll, List.length_cons, List.length_nil, cat, List.getD_cons_zero, List.getD_cons_succ, spA, spB, spNum, List.length_append, be_len]
  omega
theorem tenc_le (t : Ten) (hl : TLen t) : (tenc t).length ≤ 39900 := by
  have h := cat_len_le (fun i => (tsp.getD i sp0).enc t) 2100 (fun i => by
    match i with
    | 0 => show (nm t.name).length ≤ 2100; simp only [nm, List.length_cons, List.length_take]; omega
    | 1 => exact (num_len 4 _ _ t (by omega) : (spVni.enc t).length ≤ 2100)
    | 2 => exact Nat.le_trans (Nat.le_of_eq hl.key) (by omega)
    | 3 => exact (num_len 4 _ _ t (by omega) : (spVtep.enc t).length ≤ 2100)
    | 4 => exact Nat.le_trans (Nat.le_of_eq hl.vmac) (by omega)
    | 5 => exact Nat.le_trans (Nat.le_of_eq hl.host) (by omega)
    | 6 => exact (num_len 2 _ _ t (by omega) : (spLo.enc t).length ≤ 2100)
    | 7 => exact (num_len 2 _ _ t (by omega) : (spHi.enc t).length ≤ 2100)
    | 8 => exact (num_len 1 _ _ t (by omega) : (spFilter.enc t).length ≤ 2100)
    | 9 => exact (num_len 2 _ _ t (by omega) : (spSess.enc t).length ≤ 2100)
    | 10 => exact (num_len 2 _ _ t (by omega) : (spQueue.enc t).length ≤ 2100)
    | 11 => exact (num_len 4 _ _ t (by omega) : (spRate.enc t).length ≤ 2100)
    | 12 => exact (num_len 4 _ _ t (by omega) : (spBurst.enc t).length ≤ 2100)
    | 13 => exact Nat.le_of_ble_eq_true rfl
    | 14 => exact Nat.le_of_ble_eq_true rfl
    | 15 => exact Nat.le_of_ble_eq_true rfl
    | 16 => exact (itm_len 0 spU _ _ t u_len : (spPoolI.enc t).length ≤ 2100)
    | 17 => exact (itm_len (0, 0) spP _ _ t p_len : (spStaticsI.enc t).length ≤ 2100)
    | 18 => exact (itm_len (0, 0) spP _ _ t p_len : (spTwicesI.enc t).length ≤ 2100)
    | n + 19 => exact Nat.zero_le _) 19
  exact h
theorem tenc_pos (t : Ten) (hl : TLen t) : 0 < (tenc t).length := by
  rcases Nat.eq_zero_or_pos (tenc t).length with h | h
  · have e : tenc t = [] := List.eq_nil_of_length_eq_zero h
    have := tdec_back t hl []
    rw [e] at this
    cases this
  · exact h
theorem hdec_cut (t : Ten) (hl : TLen t) (l : List Int) (h : l <+: 1 :: tenc t) (hs : l.length < (1 :: tenc t).length) : hdec l = none := by
  cases l with
  | nil => rfl
  | cons b r =>
    obtain ⟨rfl, h2⟩ := List.cons_prefix_cons.mp h
    have := tdec_cut t hl r h2 (by simpa using hs)
    simp [hdec, this]
theorem openChange_any {w : World} {a : Option Addr} {l : List Int} {c : Nat} (hS : Sl w a l c) : Calls Tryz.prog 23 #[.slice a l.length c] w (OCP w (hdec l)) := by
  by_cases h : l.head? = some 1
  · cases l with
    | nil => simp at h
    | cons b r =>
      obtain rfl : b = 1 := by simpa using h
      exact openChange_put hS
  · exact openChange_no hS h
theorem build_put2 (t : Ten) (h : TLen t) (p s q : Value) (V : World) : (Instr.build 35 #[(0, .bool true), (2, .agg (tc t p s q).toArray)]).run Tryz.prog V = .ok (.agg (hc ⟨true, ByteArray.empty, t⟩ p s q).toArray) V := by
  obtain ⟨n, vn, key, vt, vm, ho, po, lo, hi, fi, st, tw, se, qu, ra, bu⟩ := t
  obtain ⟨h1, h2, h3⟩ := h
  obtain ⟨a, b, c, d, f, g, x, y, rfl⟩ := eight8 h1
  obtain ⟨a1, b1, c1, d1, f1, g1, rfl⟩ := six6 h2
  obtain ⟨a2, b2, c2, d2, f2, g2, rfl⟩ := six6 h3
  kernel_rfl
end Go.Proofs.YtngegdamcfmonaaGreat

