/-
  The walk of lychlaw5.TcpHeads: it answers true.
-/
import Derived.Test.YtemljieghamegaaTcpLaws
namespace Go.Proofs.Ytemljieghamegaa
open Go.RowKit
open Sm
set_option linter.unusedVariables false

theorem tlow4 (x : Int) (h0 : 0 ≤ x) (h1 : x ≤ 255) : bits .and .u8 x 15 = x % 16 := bits_mask .u8 8 (by decide) wraps_u8 4 (by decide) x h0 (by omega)
theorem tjoin4 (x y : Int) (h0 : 0 ≤ x) (h1 : x ≤ 15) (h2 : 0 ≤ y) (h3 : y ≤ 15) : bits .or .u8 (x * 16) y = x * 16 + y :=
  bits_join .u8 8 (by decide) wraps_u8 4 (x * 16) y (by omega) (by omega) (by omega) h2 (by omega) (by omega)

/-- A store into a block that is not among these. -/
theorem Mem.aside {w W : World} {L : List (Nat × Obj)} (h : Mem w W L) {g cap B : Nat} {l : List Int} (ho : OwnB W B g cap l) (hg : w.heap.size ≤ g) (hn : ∀ p ∈ L, p.1 ≠ g) (j : Nat) (v : Value) : Mem w (W.setCell ⟨g, j, none⟩ v) L := by
  obtain ⟨h1, h2⟩ := ho
  rcases h2 with ⟨e, -⟩ | ⟨g', cap', cur, e, -, hh, -⟩
  · cases e
  · simp only [Value.slice.injEq, Option.some.injEq, Addr.mk.injEq] at e
    obtain ⟨⟨rfl, -⟩, -⟩ := e
    rw [setCell_eq_setRow W g j cur 5 (0, 0) v hh]
    have k := wrote_setRow W g cur (cur.setIfInBounds j v) 5 hh
    exact ⟨k.below _ _ hg h.below, h.low, fun p hp => by rw [k.there p.1 (hn p hp)]; exact h.at_ p hp, h.apart⟩
theorem TcV.far {w : World} {B : Nat} {v : Value} {q : Sg} (h : TcV w B v q) {g : Nat} (hg : g < B) (j : Nat) (x : Value) : TcV (w.setCell ⟨g, j, none⟩ x) B v q := by
  obtain ⟨ao, co, bo, cb, e, h1, h2, h3, h4, h5, h6⟩ := h
  exact ⟨ao, co, bo, cb, e, h1.far (fun x hx => by have := h5 x hx; omega), h2.far (fun x hx => by have := h6 x hx; omega), h3, h4, h5, h6⟩

/-- The bytes with noughts behind them up to twenty, and x for byte 12. -/
def thl (l : List Int) (x : Int) : List Int := (l ++ List.replicate (20 - l.length) 0).set 12 x
theorem thl_len (l : List Int) (x : Int) : (thl l x).length = l.length + (20 - l.length) := by simp [thl]
theorem thl_get (l : List Int) (x : Int) (i : Nat) : (thl l x).getD i 0 = if i = 12 then x else (l ++ List.replicate (20 - l.length) 0).getD i 0 := getD_set _ _ _ _ (by simp; omega)
theorem thl_bytes {l : List Int} (h : IsBytes l) {x : Int} (hx : 0 ≤ x ∧ x ≤ 255) : IsBytes (thl l x) := by
  intro i
  rw [thl_get]
  split
  · exact hx
  · exact bytes_append h (bytes_noughts _) i
theorem thl_thd (l : List Int) (x : Int) : thd (thl l x) = 4 * (x / 16).toNat := by
  unfold thd
  rw [thl_get, if_pos rfl]
theorem thl_err (l : List Int) (x : Int) (N k : Nat) (hN : N = l.length + (20 - l.length)) (hk : x / 16 = k) : tcErr (thl l x) = if 4 * k < 20 then 21 else if N < 4 * k then 20 else 0 := by
  unfold tcErr
  rw [thl_thd, thl_len, ← hN, hk, if_neg (by omega)]
  rfl
theorem thl_res (l : List Int) (x y : Int) (h : x / 16 = y / 16) : tcRes (thl l x) = tcRes (thl l y) := by
  have e : tcErr (thl l x) = tcErr (thl l y) := by unfold tcErr; rw [thl_thd, thl_thd, thl_len, thl_len, h]
  have hd : ∀ k, 12 < k → (thl l x).drop k = (thl l y).drop k := fun k hk => by
    unfold thl; rw [List.drop_set_of_lt hk, List.drop_set_of_lt hk]
  unfold tcRes
  rw [e]
  by_cases c : tcErr (thl l y) = 0
  · rw [if_pos c, if_pos c]
    have ht : 20 ≤ thd (thl l y) := by
      unfold tcErr at c
      split at c
      · omega
      · split at c
        · omega
        · omega
    have ht' : thd (thl l x) = thd (thl l y) := by rw [thl_thd, thl_thd, h]
    unfold tcSg w32 w16
    simp only [thl_get, thl_len, ht', hd 20 (by omega), hd _ (show 12 < thd (thl l y) by omega)]
    rfl
  · rw [if_neg c, if_neg c]

set_option maxRecDepth 20000 in
set_option maxHeartbeats 1000000 in
theorem theads_long {w : World} (a : Option Addr) (n c : Nat) (t u : Int) (h : 500 < n) :
    Calls Try.prog 7 #[.slice a n c, .int .u8 t, .int .u8 u] w fun e w' => e = .returned (.bool true) ∧ Below w.heap.size w w' := by
  have h' : (500 : Int) < n := by omega
  have hk := tknown_any w
  clear h
  go_enter Try.func7, Try.ntmps7
  go_wp2_with fail
  refine hk.mono ?_
  rintro e w1 ⟨rfl, hb⟩
  go_wp2_with fail
  go_ret
  exact ⟨rfl, hb⟩

set_option maxRecDepth 20000 in
set_option maxHeartbeats 4000000 in
theorem theads_core {w : World} {a : Option Addr} {l : List Int} (hr : Row w a l) (n c : Nat) (hn : l.length = n) (hc : n ≤ c) (hnil : a = none → c = 0) (h5 : n ≤ 500) (t u : Int) (t0 : 0 ≤ t) (t1 : t ≤ 255) (u0 : 0 ≤ u) (u1 : u ≤ 255) :
    Calls Try.prog 7 #[.slice a n c, .int .u8 t, .int .u8 u] w fun e w' => e = .returned (.bool true) ∧ Below w.heap.size w w' := by
  have hk := tknown_any w
  have h5' : (n : Int) ≤ 500 := by omega
  obtain ⟨k, hkk⟩ : ∃ k : Nat, t % 16 = k := ⟨(t % 16).toNat, by omega⟩
  obtain ⟨x, hx⟩ : ∃ x : Nat, u % 16 = x := ⟨(u % 16).toNat, by omega⟩
  have z1 : IntKind.u8.wrap (t * 16) = (k : Int) * 16 := by rw [IntKind.wrap_u8']; omega
  have z2 : bits .and .u8 u 15 = (x : Int) := by rw [tlow4 u u0 u1]; exact hx
  have z3 : bits .or .u8 ((k : Int) * 16) (x : Int) = (k : Int) * 16 + x := tjoin4 _ _ (by omega) (by omega) (by omega) (by omega)
  have z4 : bits .and .u8 t 15 = (k : Int) := by rw [tlow4 t t0 t1]; exact hkk
  have z5 : IntKind.i64.wrap (k : Int) = k := wrap64_small _ (by omega) (by omega)
  have z6 : IntKind.i64.wrap ((k : Int) * 4) = (k : Int) * 4 := wrap64_small _ (by omega) (by omega)
  have z7 : IntKind.i64.wrap (20 - (n : Int)) = 20 - (n : Int) := by rw [IntKind.wrap_i64]; omega
  obtain ⟨m, hm⟩ : ∃ m : Nat, m = 20 - n := ⟨_, rfl⟩
  obtain ⟨N, hN⟩ : ∃ N : Nat, N = n + m := ⟨_, rfl⟩
  have HR : Hid (Row w a l ∧ l.length = n ∧ n ≤ c ∧ (a = none → c = 0) ∧ n ≤ 500 ∧ m = 20 - n ∧ N = n + m ∧ k ≤ 15 ∧ x ≤ 15) := ⟨hr, hn, hc, hnil, h5, hm, hN, by omega, by omega⟩
  clear hr hn hc h5 hnil hkk hx hm hN
  go_enter Try.func7, Try.ntmps7
  go_wp2_with fail
  refine hk.mono ?_
  rintro e w1 ⟨rfl, hb1⟩
  have HB1 : Hid _ := hb1
  clear hk hb1
  go_upto_region 5 with fail
  go_cut [7] from 16 (fun s7 wx => wx.ownsRow w1.heap.size 5 1 s7 N ((l ++ List.replicate m 0).map (Value.int .u8)) ∧ Below w1.heap.size w1 wx)
  case first =>
    have HE : Hid ((l ++ List.replicate m 0).map (Value.int .u8) = [] ++ l.map (Value.int .u8) ++ List.replicate m (.int .u8 0)) := by show _ = _; simp
    have HN : Hid (N = 0 + n + m) := by have := HR.out; show N = 0 + n + m; omega
    by_cases h20 : n < 20
    · have m1 : (0 : Int) < 20 - (n : Int) := by omega
      have m2 : (20 : Int) - n = m := by have := HR.out; omega
      clear h20
      go_wp2_with (first
        | (at_builtin; refine wpList_append_more _ rfl _ (.tmp 21) rfl w1.heap.size (.slice none 0 0) 0 [] rfl (World.ownsRow_nil _ _ _ _) a c n l rfl HR.out.2.1 HR.out.2.2.2.1 (HR.out.1.below HB1.out (Nat.le_refl _)) (by have := HR.out; omega) (Nat.le_refl _) ?_; intro v2 w2 hown2 hbel2)
        | (at_builtin; refine wpList_append_zeros Try.underlying3 w2 rfl (.tmp 22) (.tmp 26) rfl w1.heap.size v2 (0 + n) _ rfl hown2 _ m rfl (by omega) (by have := HR.out; omega) hbel2.size ?_; intro v3 w3 hown3 hgrow3))
      go_meet
      case rel => exact ⟨by rw [HE.out, HN.out]; exact hown3, hbel2.trans (own_grown hown2 hgrow3 hbel2.size)⟩
    · have m1 : (20 : Int) - (n : Int) ≤ 0 := by omega
      have m2 : m = 0 := by have := HR.out; omega
      go_wp2_with (first
        | (at_builtin; refine wpList_append_more _ rfl _ (.tmp 21) rfl w1.heap.size (.slice none 0 0) 0 [] rfl (World.ownsRow_nil _ _ _ _) a c n l rfl HR.out.2.1 HR.out.2.2.2.1 (HR.out.1.below HB1.out (Nat.le_refl _)) (by have := HR.out; omega) (Nat.le_refl _) ?_; intro v2 w2 hown2 hbel2)
        | (at_builtin; refine wpList_append_zeros Try.underlying3 w2 rfl (.tmp 22) (.tmp 26) rfl w1.heap.size v2 (0 + n) _ rfl hown2 _ m rfl (by omega) (by have := HR.out; omega) hbel2.size ?_; intro v3 w3 hown3 hgrow3))
      all_goals
        go_meet
        case rel => exact ⟨by rw [HE.out, HN.out]; exact hown3, hbel2.trans (own_grown hown2 hgrow3 hbel2.size)⟩
  case rest =>
  obtain ⟨hown, hb2⟩ := hcut
  have hlN : (l ++ List.replicate m 0).length = N := by have := HR.out; rw [List.length_append, List.length_replicate]; omega
  obtain ⟨g, cap, rfl, hg, hcap, hob⟩ := own_shape2 hown hlN (by have := HR.out; omega)
  have HB2 : Hid (Below w.heap.size w wc) := (((Mem.nil w).after HB1.out).after hb2).below
  have HG : Hid (w.heap.size ≤ g ∧ N ≤ cap ∧ g < wc.heap.size) := ⟨Nat.le_trans HB1.out.size hg, hcap, cell_lt (hob.cell 0 (by rw [hlN]; have := HR.out; omega))⟩
  have k12 : wc.cell? ⟨g, 12, none⟩ = some _ := hob.cell 12 (by rw [hlN]; have := HR.out; omega)
  have f12 := hob.free 12
  have HOB : Hid (OwnB (wc.setCell ⟨g, 12, none⟩ (.int .u8 ((k : Int) * 16 + x))) w1.heap.size g cap (thl l ((k : Int) * 16 + x))) := by
    have q := HR.out
    have h := hob.store 12 ((k : Int) * 16 + x)
    rw [q.2.2.2.2.2.1, ← q.2.1] at h
    exact h
  generalize (l ++ List.replicate m 0).getD 12 0 = z12 at k12
  have i12 : (12 : Int) < N := by have := HR.out; omega
  have hNb : (N : Int) ≤ 600 := by have := HR.out; omega
  clear hown hb2 hg hcap hob hlN HB1
  obtain ⟨E, eE⟩ : ∃ E, tcErr (thl l ((k : Int) * 16)) = E := ⟨_, rfl⟩
  obtain ⟨p, ep⟩ : ∃ p, tcRes (thl l ((k : Int) * 16)) = p := ⟨_, rfl⟩
  obtain ⟨no, eno⟩ : ∃ no, p.opts.length = no := ⟨_, rfl⟩
  obtain ⟨nb, enb⟩ : ∃ nb, p.body.length = nb := ⟨_, rfl⟩
  have HE : Hid (tcErr (thl l ((k : Int) * 16 + x)) = E ∧ tcErr (thl l ((k : Int) * 16)) = E ∧ tcRes (thl l ((k : Int) * 16 + x)) = p ∧ tcRes (thl l ((k : Int) * 16)) = p ∧ p.opts.length = no ∧ p.body.length = nb ∧ (E = if 4 * k < 20 then 21 else if N < 4 * k then 20 else 0)
      ∧ IsBytes (thl l ((k : Int) * 16 + x)) ∧ IsBytes (thl l ((k : Int) * 16)) ∧ (thl l ((k : Int) * 16 + x)).length = N ∧ (thl l ((k : Int) * 16)).length = N) := by
    obtain ⟨q1, q2, q3, q4, q5, q6, q7, q8, q9⟩ := HR.out
    have hN2 : N = l.length + (20 - l.length) := by omega
    have e1 := thl_err l ((k : Int) * 16 + x) N k hN2 (by omega)
    have e2 := thl_err l ((k : Int) * 16) N k hN2 (by omega)
    refine ⟨by rw [← eE, e1, e2], eE, by rw [← ep]; exact thl_res l _ _ (by omega), ep, eno, enb, by rw [← eE, e2], thl_bytes q1.bytes ⟨by omega, by omega⟩, thl_bytes q1.bytes ⟨by omega, by omega⟩, by rw [thl_len]; omega, by rw [thl_len]; omega⟩
  clear eE ep eno enb
  go_upto_region 7 with fail
  refine wp_letter (fun W => OwnB W w1.heap.size g cap (thl l ((k : Int) * 16 + x)) ∧ Mem w W [] ∧ g < W.heap.size) ⟨HOB.out, ⟨below_set HB2.out HG.out.1, fun p h => by simp at h, fun p h => by simp at h, by simp⟩, by simpa using HG.out.2.2⟩ ?_
  intro w3 ⟨hob3, hM3, hg3⟩
  have HO3 : Hid (OwnB w3 w1.heap.size g cap (thl l ((k : Int) * 16 + x)) ∧ Mem w w3 [] ∧ g < w3.heap.size) := ⟨hob3, hM3, hg3⟩
  have hp := tparse_out (hob3.row HE.out.2.2.2.2.2.2.2.1 (by have := HE.out; have := HR.out; omega)) HE.out.2.2.2.2.2.2.2.2.2.1 HG.out.2.1 HE.out.1 HE.out.2.2.1 HE.out.2.2.2.2.1 HE.out.2.2.2.2.2.1
  clear hob3 hM3 hg3 HOB HB2 k12 f12
  go_wp2_with fail
  refine hp.mono ?_
  rintro e w4 ⟨a1, o1, b1, c1, rfl, hv4, hb4⟩
  clear hp
  go_upto_region 8 with fail
  refine wp_letter (fun W => OwnB W w1.heap.size g cap (thl l ((k : Int) * 16 + x)) ∧ Mem w W [(w4.heap.size, .cells (tcB p a1 no o1 b1 nb c1) tcT)] ∧ TcV W w3.heap.size (.agg (tcB p a1 no o1 b1 nb c1)) p ∧ g < w4.heap.size)
    ⟨own_after (own_after HO3.out.1 hb4 (Nat.le_refl _)) ((Below.refl _ _).alloc (Nat.le_refl _) _) (Nat.le_refl _), (HO3.out.2.1.after hb4).push w4.heap.size _ rfl, tcv_box hv4 _, Nat.lt_of_lt_of_le HO3.out.2.2 hb4.size⟩ ?_
  intro w5 ⟨hob5, hM5, hv5, hg5⟩
  have HG3 : Hid (g < w3.heap.size) := HO3.out.2.2
  clear HO3 hv4 hb4
  generalize w4.heap.size = P at *
  generalize w3.heap.size = B3 at *
  have k12 : w5.cell? ⟨g, 12, none⟩ = some _ := hob5.cell 12 (by have := HE.out; have := HR.out; omega)
  have f12 := hob5.free 12
  generalize (thl l ((k : Int) * 16 + x)).getD 12 0 = z12 at k12
  have HO5 : Hid (OwnB (w5.setCell ⟨g, 12, none⟩ (.int .u8 ((k : Int) * 16))) w1.heap.size g cap (thl l ((k : Int) * 16)) ∧ Mem w (w5.setCell ⟨g, 12, none⟩ (.int .u8 ((k : Int) * 16))) [(P, .cells (tcB p a1 no o1 b1 nb c1) tcT)] ∧ TcV (w5.setCell ⟨g, 12, none⟩ (.int .u8 ((k : Int) * 16))) B3 (.agg (tcB p a1 no o1 b1 nb c1)) p) := by
    refine ⟨?_, hM5.aside hob5 HG.out.1 (fun p hp => by simp at hp; subst hp; exact Nat.ne_of_gt hg5) 12 _, hv5.far HG3.out 12 _⟩
    have h := hob5.store 12 ((k : Int) * 16)
    unfold thl at h
    rw [List.set_set] at h
    exact h
  clear hob5 hM5 hv5 hg5
  go_upto_region 9 with fail
  refine wp_letter (fun W => OwnB W w1.heap.size g cap (thl l ((k : Int) * 16)) ∧ Mem w W [(P, .cells (tcB p a1 no o1 b1 nb c1) tcT)] ∧ TcV W 0 (.agg (tcB p a1 no o1 b1 nb c1)) p) ⟨HO5.out.1, HO5.out.2.1, HO5.out.2.2.mono (Nat.zero_le _)⟩ ?_
  intro w6 ⟨hob6, hM6, hv6⟩
  have HO6 : Hid (OwnB w6 w1.heap.size g cap (thl l ((k : Int) * 16)) ∧ Mem w w6 [(P, .cells (tcB p a1 no o1 b1 nb c1) tcT)] ∧ TcV w6 0 (.agg (tcB p a1 no o1 b1 nb c1)) p) := ⟨hob6, hM6, hv6⟩
  have hp := tparse_out (hob6.row HE.out.2.2.2.2.2.2.2.2.1 (by have := HE.out; have := HR.out; omega)) HE.out.2.2.2.2.2.2.2.2.2.2 HG.out.2.1 HE.out.2.1 HE.out.2.2.2.1 HE.out.2.2.2.2.1 HE.out.2.2.2.2.2.1
  clear hob6 hM6 hv6 HO5 k12 f12
  go_wp2_with fail
  refine hp.mono ?_
  rintro e w7 ⟨a2, o2, b2, c2, rfl, hv7, hb7⟩
  clear hp
  go_upto_region 10 with fail
  refine wp_letter (fun W => OwnB W w1.heap.size g cap (thl l ((k : Int) * 16)) ∧ Mem w W [(P, .cells (tcB p a1 no o1 b1 nb c1) tcT), (w7.heap.size, .cells (tcB p a2 no o2 b2 nb c2) tcT)] ∧ TcV W 0 (.agg (tcB p a1 no o1 b1 nb c1)) p ∧ TcV W 0 (.agg (tcB p a2 no o2 b2 nb c2)) p)
    ⟨own_after (own_after HO6.out.1 hb7 (Nat.le_refl _)) ((Below.refl _ _).alloc (Nat.le_refl _) _) (Nat.le_refl _), (HO6.out.2.1.after hb7).push w7.heap.size _ rfl, tcv_box (HO6.out.2.2.below hb7 (Nat.le_refl _)) _, tcv_box (hv7.mono (Nat.zero_le _)) _⟩ ?_
  intro w8 ⟨hob8, hM8, hv8, hu8⟩
  clear HO6 hv7 hb7
  generalize w7.heap.size = P2 at *
  have HO8 : Hid (Mem w w8 [(P, .cells (tcB p a1 no o1 b1 nb c1) tcT), (P2, .cells (tcB p a2 no o2 b2 nb c2) tcT)] ∧ TcV w8 0 (.agg (tcB p a1 no o1 b1 nb c1)) p ∧ TcV w8 0 (.agg (tcB p a2 no o2 b2 nb c2)) p) := ⟨hM8, hv8, hu8⟩
  have hp := rtcp_out (hob8.row HE.out.2.2.2.2.2.2.2.2.1 (by have := HE.out; have := HR.out; omega)) HE.out.2.2.2.2.2.2.2.2.2.2 HG.out.2.1 (by have := HR.out; omega) HE.out.2.1 HE.out.2.2.2.1 HE.out.2.2.2.2.1 HE.out.2.2.2.2.2.1
  clear hob8 hM8 hv8 hu8
  go_wp2_with fail
  refine hp.mono ?_
  rintro e w9 ⟨a3, o3, b3, c3, rfl, hv9, hb9⟩
  clear hp
  go_upto_region 11 with fail
  refine wp_letter (fun W => Mem w W [(P, .cells (tcB p a1 no o1 b1 nb c1) tcT), (P2, .cells (tcB p a2 no o2 b2 nb c2) tcT), (w9.heap.size, .cells (tcB p a3 no o3 b3 nb c3) tcT)] ∧ TcV W 0 (.agg (tcB p a1 no o1 b1 nb c1)) p ∧ TcV W 0 (.agg (tcB p a2 no o2 b2 nb c2)) p ∧ TcV W 0 (.agg (tcB p a3 no o3 b3 nb c3)) p)
    ⟨(HO8.out.1.after hb9).push w9.heap.size _ rfl, tcv_box (HO8.out.2.1.below hb9 (Nat.le_refl _)) _, tcv_box (HO8.out.2.2.below hb9 (Nat.le_refl _)) _, tcv_box (hv9.mono (Nat.zero_le _)) _⟩ ?_
  intro w10 ⟨hM10, hv10, hu10, hr10⟩
  clear HO8 hv9 hb9
  generalize w9.heap.size = P3 at *
  have ka : ∀ i, w10.cell? ⟨P, i, none⟩ = (tcB p a1 no o1 b1 nb c1)[i]? := hM10.cell 0 rfl
  have kb : ∀ i, w10.cell? ⟨P2, i, none⟩ = (tcB p a2 no o2 b2 nb c2)[i]? := hM10.cell 1 rfl
  have HM10 : Hid _ := hM10
  have HV10 : Hid (TcV w10 0 (.agg (tcB p a2 no o2 b2 nb c2)) p ∧ TcV w10 0 (.agg (tcB p a3 no o3 b3 nb c3)) p) := ⟨hu10, hr10⟩
  have hh := htcp_yes hv10 hu10
  have hEE := HE.out.2.2.2.2.2.2.1
  clear hM10 hv10 hu10 hr10
  have fin : ∀ w11, Below w10.heap.size w10 w11 → Mem w w11 [(P, .cells (tcB p a1 no o1 b1 nb c1) tcT), (P2, .cells (tcB p a2 no o2 b2 nb c2) tcT), (P3, .cells (tcB p a3 no o3 b3 nb c3) tcT)] ∧ Calls Try.prog 11 #[.agg (tcB p a2 no o2 b2 nb c2), .agg (tcB p a3 no o3 b3 nb c3)] w11 fun e w' => e = .returned (.bool true) ∧ Below w11.heap.size w11 w' :=
    fun w11 hb => ⟨HM10.out.after hb, htcp_yes (HV10.out.1.below hb (Nat.le_refl _)) (HV10.out.2.below hb (Nat.le_refl _))⟩
  have FIN : Hid _ := fin
  clear fin HM10 HV10
  by_cases g1 : 4 * k < 20
  · rw [if_pos g1] at hEE
    subst hEE
    have g1' : (k : Int) * 4 < 20 := by omega
    go_wp2_with fail
    refine hh.mono ?_
    rintro e w11 ⟨rfl, hb11⟩
    obtain ⟨hM11, hh2⟩ := FIN.out w11 hb11
    have HB11 : Hid (Below w.heap.size w w11) := hM11.below
    have kb2 : ∀ i, w11.cell? ⟨P2, i, none⟩ = (tcB p a2 no o2 b2 nb c2)[i]? := hM11.cell 1 rfl
    have kc2 : ∀ i, w11.cell? ⟨P3, i, none⟩ = (tcB p a3 no o3 b3 nb c3)[i]? := hM11.cell 2 rfl
    clear hh hb11 hM11 ka kb
    go_wp2_with fail
    refine hh2.mono ?_
    rintro e w12 ⟨rfl, hb12⟩
    have HB12 : Hid (Below w.heap.size w w12) := HB11.out.trans (hb12.mono HB11.out.size)
    clear hh2 hb12 kb2 kc2
    go_wp2_with fail
    go_ret
    exact ⟨rfl, HB12.out⟩
  rw [if_neg g1] at hEE
  have g1' : (20 : Int) ≤ (k : Int) * 4 := by omega
  by_cases g2 : N < 4 * k
  · rw [if_pos g2] at hEE
    subst hEE
    have g2' : (N : Int) < (k : Int) * 4 := by omega
    go_wp2_with fail
    refine hh.mono ?_
    rintro e w11 ⟨rfl, hb11⟩
    obtain ⟨hM11, hh2⟩ := FIN.out w11 hb11
    have HB11 : Hid (Below w.heap.size w w11) := hM11.below
    have kb2 : ∀ i, w11.cell? ⟨P2, i, none⟩ = (tcB p a2 no o2 b2 nb c2)[i]? := hM11.cell 1 rfl
    have kc2 : ∀ i, w11.cell? ⟨P3, i, none⟩ = (tcB p a3 no o3 b3 nb c3)[i]? := hM11.cell 2 rfl
    clear hh hb11 hM11 ka kb
    go_wp2_with fail
    refine hh2.mono ?_
    rintro e w12 ⟨rfl, hb12⟩
    have HB12 : Hid (Below w.heap.size w w12) := HB11.out.trans (hb12.mono HB11.out.size)
    clear hh2 hb12 kb2 kc2
    go_wp2_with fail
    go_ret
    exact ⟨rfl, HB12.out⟩
  · rw [if_neg g2] at hEE
    subst hEE
    have g2' : (k : Int) * 4 ≤ N := by omega
    go_wp2_with fail
    refine hh.mono ?_
    rintro e w11 ⟨rfl, hb11⟩
    obtain ⟨hM11, hh2⟩ := FIN.out w11 hb11
    have HB11 : Hid (Below w.heap.size w w11) := hM11.below
    have kb2 : ∀ i, w11.cell? ⟨P2, i, none⟩ = (tcB p a2 no o2 b2 nb c2)[i]? := hM11.cell 1 rfl
    have kc2 : ∀ i, w11.cell? ⟨P3, i, none⟩ = (tcB p a3 no o3 b3 nb c3)[i]? := hM11.cell 2 rfl
    clear hh hb11 hM11 ka kb
    go_wp2_with fail
    refine hh2.mono ?_
    rintro e w12 ⟨rfl, hb12⟩
    have HB12 : Hid (Below w.heap.size w w12) := HB11.out.trans (hb12.mono HB11.out.size)
    clear hh2 hb12 kb2 kc2
    go_wp2_with fail
    go_ret
    exact ⟨rfl, HB12.out⟩
end Go.Proofs.Ytemljieghamegaa
