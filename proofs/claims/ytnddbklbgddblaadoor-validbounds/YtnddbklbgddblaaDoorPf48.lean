/-
  Which settings may be: lychlaw14's known is true.
  Each number's bound, in plain numbers: at it settings may be, one past it not.
-/
import Derived.Test.YtnddbklbgddblaaDoorPf47
namespace Go.Proofs.YtnddbklbgddblaaDoor
open Go.RowKit
open La (adr adr_range)
open Va
set_option linter.unusedVariables false
set_option linter.unusedSimpArgs false
set_option maxRecDepth 20000

theorem pool_put {t0 t1 : Ten} {p s0 q0 p1 s1 q1 : Value} (h0 : TLen t0) (h1 : TLen t1) (Y : List Value) : ((zc (t0, p, s0, q0) ++ zc (t1, p1, s1, q1)) ++ Y).toArray.setIfInBounds 56 p = ((zc (t0, p, s0, q0) ++ zc ({ t1 with pool := t0.pool }, p, s1, q1)) ++ Y).toArray := by
  have e0 : (zc (t0, p, s0, q0)).length = 33 := tc_len h0 _ _ _
  have e1 : (zc (t1, p1, s1, q1)).length = 33 := tc_len h1 _ _ _
  have := set_mid (zc (t0, p, s0, q0)) (zc (t1, p1, s1, q1)) Y 23 p (by omega)
  rw [e0] at this
  rw [List.append_assoc, List.append_assoc, this]
  have e2 : (zc (t1, p1, s1, q1)).set 23 p = zc ({ t1 with pool := t0.pool }, p, s1, q1) := tset (t := t1) (t' := { t1 with pool := t0.pool }) h1 (by rintro n vn a b c d f g x y vt a1 b1 c1 d1 f1 g1 a2 b2 c2 d2 f2 g2 po lo hi fi st tw se qu ra bu rfl; rfl)
  rw [e2]
theorem sq_taken {t0 t1 : Ten} (h0 : SQ 0 t0) (h1 : SQ 1 t1) (f : Int) (hf : f ≤ 1000) : chk (sc f [t0, { t1 with pool := t0.pool }]) = 92 := by
  have hG : GOk (sc f [t0, { t1 with pool := t0.pool }]) := ⟨by show adr 10 9 0 200 ≠ 0; decide, hf, by show 2 ≤ 16; omega⟩
  have ok1 : TOk { t1 with pool := t0.pool } := by
    have k := h1.ok
    refine ⟨k.r0, k.r1, h0.ok.r2, h0.ok.r3, k.r4, k.r5, k.r6, k.r7, k.r8, k.r9, ?_, ?_, k.r12, k.r13, k.r14, k.r15, k.r16⟩
    · apply any_none
      intro x hx
      obtain ⟨p, hp, rfl⟩ := List.mem_map.mp hx
      rw [Bool.eq_false_iff]
      intro e
      have e1 := h1.stat p hp
      rcases h0.pool _ (hs_iff.mp e) with e2 | e2 <;> (rw [e1] at e2; simp only [adr] at e2; omega)
    · apply any_none
      intro x hx
      obtain ⟨p, hp, rfl⟩ := List.mem_map.mp hx
      rw [Bool.eq_false_iff]
      intro e
      rw [owns_iff, List.mem_append] at e
      rcases h1.twi p hp with e1 | e1 <;> rcases e with e | e
      all_goals
        rw [e1] at e
        first
          | (rcases h0.pool _ e with e2 | e2 <;> (simp only [adr] at e2; omega))
          | (obtain ⟨q, hq, e2⟩ := List.mem_map.mp e
             rw [h1.stat q hq] at e2
             simp only [adr] at e2
             omega)
  have hp0 : pchk (sc f [t0, { t1 with pool := t0.pool }]) 0 = 0 := by
    refine (h0.place (f := f) (ts := [t0, { t1 with pool := t0.pool }]) (by omega) rfl (fun j o hj => absurd hj (by omega))).none (by show 0 < 2; omega) (fun x hx => ⟨fun e => ?_, fun o ho => absurd ho (by simp)⟩)
    have hx2 := h0.own (show x ∈ t0.pool ++ snd' t0.stat from hx)
    have e' : x = adr 10 9 0 200 := e
    simp only [adr] at hx2 e'
    omega
  refine chk_at hG (k := 1) (by show 1 < 2; omega) (by decide) ?_ (fun j hj => by
    obtain rfl : j = 0 := by omega
    exact hp0)
  refine POk.owned ⟨ok1, Or.inr ?_, fun o ho => ?_⟩ (by show 1 < 2; omega) (x := adr 5 5 (0 : Nat) 1) ?_ (Or.inr ⟨t0, by simp, ?_⟩)
  · show lss t0.name t1.name = true
    rw [h0.name, h1.name, lss_seat]; decide
  · have e : o = t0 := by simpa using ho
    subst e
    show o.vni ≠ t1.vni
    rw [h0.vni, h1.vni]; omega
  · exact List.mem_append_left _ h0.one
  · exact List.mem_append_left _ h0.one
set_option maxHeartbeats 16000000 in
theorem known14_any {w : World} (hw : Vs w) : Calls Tryd.prog 9 #[] w fun e w' => e = .returned (.bool true) ∧ Below w.heap.size w w' := by
  obtain ⟨gs, hgs⟩ : ∃ gs, w.heap.size = gs := ⟨_, rfl⟩
  have hM0 : Mem w (w.alloc (.cells #[.int .u16 500, .int .u16 3] 36 (0, 0))) [(gs, .cells #[.int .u16 500, .int .u16 3] 36 (0, 0))] := (Mem.nil w).push1 hgs.symm
  have CS := sconf14_any (w.alloc (.cells #[.int .u16 500, .int .u16 3] 36 (0, 0))) (some ⟨gs, 0, none⟩) 2 2 (fun i => if i = 0 then 500 else 3) (fun i hi => ⟨gs, 0, rfl, by
    have : i = 0 ∨ i = 1 := by omega
    rcases this with rfl | rfl
    · exact hM0.cell 0 rfl 0
    · exact hM0.cell 0 rfl 1, by split <;> omega, by split <;> omega⟩) 5 (by omega) (by omega)
  rw [show min 2 4 = 2 from rfl] at CS
  have HB0 : Hid (Below w.heap.size w (w.alloc (.cells #[.int .u16 500, .int .u16 3] 36 (0, 0)))) := hM0.below
  obtain ⟨w0, hw0⟩ : ∃ w0, w.alloc (.cells #[.int .u16 500, .int .u16 3] 36 (0, 0)) = w0 := ⟨_, rfl⟩
  have HW0 : Hid (w.alloc (.cells #[.int .u16 500, .int .u16 3] 36 (0, 0)) = w0) := hw0
  rw [hw0] at HB0
  rw [← hgs] at CS
  clear hM0 hgs hw0
  have C0 : ∀ X, Vs X → Calls Tryd.prog 11 #[.agg #[.int .u32 0, .int .u8 0, .int .u8 0, .int .u8 0, .int .u8 0, .int .u8 0, .int .u8 0, .int .u8 0, .int .u8 0, .int .u8 0, .int .u8 0, .int .u8 0, .int .u8 0, .int .u8 0, .int .u8 0, .int .u8 0, .int .u8 0, .int .u8 0, .int .u8 0, .int .u8 0, .int .u8 0, .int .u8 0, .int .u8 0, .int .u8 0, .int .u8 0, .int .u8 0, .int .u8 0, .int .u32 0, .slice none 0 0]] X fun e V => e = .returned (.int .i64 96) ∧ Below X.heap.size X V := by
    intro X hX
    have hcv : CV X (.agg cz) cfg0 := ⟨cfg0_len, nilV, rfl, [], rfl, ⟨none, 0, rfl, Nat.le_refl _, by omega, fun _ => rfl, Or.inl rfl⟩, by simp⟩
    have h := check_any hX hcv (by show 0 ≤ 1000000; omega) (by intro t ht; cases ht)
    rw [chk_gate (Or.inl rfl)] at h
    exact h
  have CA : ∀ X, Calls Tryd.prog 23 #[.int .u8 5, .int .u8 5, .int .u8 0, .int .u8 1] X fun e w' => e = .returned (.int .u32 (adr 5 5 (0 : Nat) 1)) ∧ X = w' := fun X => addr_any X 5 5 _ 1 (by omega) (by omega) (by omega) (by omega)
  go_enter Tryd.func9, Tryd.ntmps9
  go_wp2_with fail
  refine CS.mono ?_
  rintro e V1 ⟨f, ys, u, B, hf, rfl, hlen, hsq, hB, hzx, hM1⟩
  rw [HW0.out] at hM1
  obtain ⟨t0, p0, s0, q0, C0', t1, p1, s1, q1, C1', rfl⟩ := two_ys hlen
  have hS0 : SQ 0 t0 := (hsq 0 _ rfl).sq (by omega)
  have hS1 : SQ 1 t1 := (hsq 1 _ rfl).sq (by omega)
  have hz0 : ZX (t0, p0, s0, q0) C0' := hzx _ (List.mem_cons_self ..)
  have hz1 : ZX (t1, p1, s1, q1) C1' := hzx _ (List.mem_cons_of_mem _ (List.mem_cons_self ..))
  simp only [List.map_cons, List.map_nil, List.flatMap_cons, List.flatMap_nil, List.append_nil, List.flatten_cons, List.flatten_nil, List.length_cons, List.length_nil] at hB hM1
  obtain ⟨pa, pm, pc, hp0⟩ : ∃ a m c, p0 = .slice a m c := by obtain ⟨-, B1, B2, B3, -, h1, -⟩ := hz0; exact owb_slice h1
  subst hp0
  obtain ⟨gb, cap, Y, rfl, rfl, hcap1, hcap2, hY⟩ := owb_un hB (by omega)
  -- the letters
  obtain ⟨ts, hts⟩ : ∃ ts, [t0, t1] = ts := ⟨_, rfl⟩
  obtain ⟨A, hA⟩ : ∃ A, (cc (sc f [t0, t1]) (.slice (some ⟨gb, 0, none⟩) 2 cap)).toArray = A := ⟨_, rfl⟩
  have hA2 : ∀ ts, (cc (sc f ts) (.slice (some ⟨gb, 0, none⟩) 2 cap)).toArray = A := fun ts => by rw [← hA]; rfl
  have hsz : A.size = 29 := by rw [← hA, List.size_toArray]; exact cc_len (sc_len _ _) _
  have hone : A.all (·.oneCell') = true := by rw [← hA]; exact cc_one _ rfl
  have i29 : (Tryd.prog.info? 28).map (·.size) = some A.size := by rw [hsz]; kernel_rfl
  have hA28 : A[28]? = some (.slice (some ⟨gb, 0, none⟩) 2 cap) := by rw [← hA]; exact cc_at28 (sc_len _ _) _
  obtain ⟨X0, hX0⟩ : ∃ X, ((zc (t0, .slice pa pm pc, s0, q0) ++ zc (t1, p1, s1, q1)) ++ Y).toArray = X := ⟨_, rfl⟩
  obtain ⟨X1, hX1⟩ : ∃ X, ((zc (t0, .slice pa pm pc, s0, q0) ++ zc ({ t1 with pool := t0.pool }, .slice pa pm pc, s1, q1)) ++ Y).toArray = X := ⟨_, rfl⟩
  have hXX : X0.setIfInBounds 56 (.slice pa pm pc) = X1 := by rw [← hX0, ← hX1]; exact pool_put hz0.1 hz1.1 Y
  have hl0 : (zc (t0, .slice pa pm pc, s0, q0)).length = 33 := tc_len hz0.1 _ _ _
  have hl1 : (zc (t1, p1, s1, q1)).length = 33 := tc_len hz1.1 _ _ _
  have hl1' : (zc ({ t1 with pool := t0.pool }, Value.slice pa pm pc, s1, q1)).length = 33 := tc_len (t := { t1 with pool := t0.pool }) ⟨hz1.1.key, hz1.1.vmac, hz1.1.host⟩ _ _ _
  have hX23 : X0[23]? = some (.slice pa pm pc) := by
    rw [← hX0]
    have : (zc (t0, Value.slice pa pm pc, s0, q0))[23]? = some (.slice pa pm pc) := by
      obtain ⟨n, vn, key, vt, vm, ho, po, lo, hi, fi, st, tw, se, qu, ra, bu⟩ := t0
      obtain ⟨h1, h2, h3⟩ := hz0.1
      obtain ⟨a, b, c, d, f, g, x, y, rfl⟩ := eight8 h1
      obtain ⟨a1, b1, c1, d1, f1, g1, rfl⟩ := six6 h2
      obtain ⟨a2, b2, c2, d2, f2, g2, rfl⟩ := six6 h3
      rfl
    simp only [List.getElem?_toArray, List.append_assoc]
    rw [List.getElem?_append_left (by omega)]
    exact this
  have hX56 : ∃ v0, X0[56]? = some v0 := ⟨_, Array.getElem?_eq_getElem (by rw [← hX0, List.size_toArray]; simp; omega)⟩
  obtain ⟨v0, hX56⟩ := hX56
  -- what the worlds hold
  have HCV0 : Hid (∀ X, Mem w0 X ((gb, .cells X0 39 (0, 0)) :: (C0' ++ C1')) → CV X (.agg A) (sc f [t0, t1])) := by
    intro X hX
    rw [← hA]
    refine cv_ys (ys := [((t0, .slice pa pm pc, s0, q0), C0'), ((t1, p1, s1, q1), C1')]) (sc_len _ _) rfl (B := [(gb, .cells X0 39 (0, 0))]) (C := C0' ++ C1') ?_ (zx_zb hzx (by intro x hx; simpa using hx)) hX
    rw [← hX0]
    simpa using hB
  have HCV1 : Hid (∀ X, Mem w0 X ((gb, .cells X1 39 (0, 0)) :: (C0' ++ C1')) → CV X (.agg A) (sc f [t0, { t1 with pool := t0.pool }])) := by
    intro X hX
    rw [← hA2 [t0, { t1 with pool := t0.pool }]]
    refine cv_ys (ys := [((t0, .slice pa pm pc, s0, q0), C0'), (({ t1 with pool := t0.pool }, .slice pa pm pc, s1, q1), C1')]) (sc_len _ _) rfl (B := [(gb, .cells X1 39 (0, 0))]) (C := C0' ++ C1') ?_ ?_ hX
    · rw [← hX1]
      have := owb_mk (T := 39) (sz := 33) (n := 2) (cap := cap) (g := gb) (X := zc (t0, .slice pa pm pc, s0, q0) ++ zc ({ t1 with pool := t0.pool }, .slice pa pm pc, s1, q1)) (Y := Y) (by rw [List.length_append]; omega) hcap1 hcap2 (by rw [List.length_append] at hY ⊢; omega)
      simpa using this
    · intro y hy
      simp only [List.mem_cons, List.not_mem_nil, or_false] at hy
      rcases hy with rfl | rfl
      · exact hz0.zb (fun x hx => List.mem_append_left _ hx)
      · obtain ⟨k0, B1, B2, B3, e0, k1, k2, k3⟩ := hz0
        obtain ⟨j0, D1, D2, D3, e1, j1, j2, j3⟩ := hz1
        refine ⟨⟨j0.key, j0.vmac, j0.host⟩, B1, D2, D3, fun x hx => ?_, k1, j2, j3⟩
        rw [e0, e1]
        simp only [List.mem_append] at hx ⊢
        rcases hx with h | h | h
        · exact Or.inr (Or.inr (Or.inr h))
        · exact Or.inr (Or.inr (Or.inl h))
        · exact Or.inl (Or.inl h)
  have HCH : Hid (chk (sc f [t0, t1]) = 0 ∧ chk (sc f [t0, { t1 with pool := t0.pool }]) = 92 ∧ owns t0 (adr 5 5 (0 : Nat) 1) = true) := by
    refine ⟨chk_seat (by omega) (by show 2 ≤ 8; omega) (fun j t hj => ?_), sq_taken hS0 hS1 f (by omega), owns_iff.mpr (List.mem_append_left _ hS0.one)⟩
    match j, hj with
    | 0, hj => cases hj; exact hS0
    | 1, hj => cases hj; exact hS1
  have hsm0 : TSm t0 := ⟨by rw [hS0.name]; decide, by have := hS0.len; omega, by have := hS0.len; omega, by have := hS0.len; omega⟩
  have hsm1 : TSm t1 := ⟨by rw [hS1.name]; decide, by have := hS1.len; omega, by have := hS1.len; omega, by have := hS1.len; omega⟩
  have HSM : Hid (TSm t0 ∧ TSm t1 ∧ TSm { t1 with pool := t0.pool }) := ⟨hsm0, hsm1, hsm1.1, hsm0.2.1, hsm1.2.2.1, hsm1.2.2.2⟩
  have HTV : Hid (∀ X, Mem w0 X ((gb, .cells X1 39 (0, 0)) :: (C0' ++ C1')) → TV X (.agg (zc (t0, .slice pa pm pc, s0, q0)).toArray) t0 ∧ X.rangeAt gb 0 (zc (t0, .slice pa pm pc, s0, q0))) := by
    intro X hX
    refine ⟨zx_tv (K := [(gb, .cells X1 39 (0, 0))] ++ C1') hz0 (hX.perm (by
      classical
      rw [List.perm_iff_count]; intro z; simp only [List.count_append, List.count_cons, List.count_nil]; omega)), fun j u hj => ?_⟩
    · rw [Nat.zero_add, hX.cell 0 rfl j, ← hX1]
      have hj' := (List.getElem?_eq_some_iff.mp hj).1
      simp only [List.getElem?_toArray, List.append_assoc]
      rw [List.getElem?_append_left hj']
      exact hj
  have hcap : cap ≤ 9223372036854775807 := by unfold maxLen at hcap2; omega
  have hMB : Mem w0 V1 ((gb, .cells X0 39 (0, 0)) :: (C0' ++ C1')) := by rw [← hX0]; simpa using hM1
  obtain ⟨Z, hZ⟩ : ∃ Z, zc (t0, .slice pa pm pc, s0, q0) = Z := ⟨_, rfl⟩
  rw [hZ] at HTV
  have hZl : Z.length = 33 := by rw [← hZ]; exact hl0
  have hj33 : (Tryd.prog.info? 39).map (·.size) = some Z.length := by rw [hZl]; kernel_rfl
  have HMB : Hid (Mem w0 V1 ((gb, .cells X0 39 (0, 0)) :: (C0' ++ C1'))) := hMB
  have HVW : Hid (Vs w0 ∧ Below w.heap.size w w0) := ⟨hw.below HB0.out, HB0.out⟩
  have HGB : Hid (w0.heap.size ≤ gb) := hMB.low _ (List.mem_cons_self ..)
  have hA' : Value.agg (cc (sc f [t0, t1]) (.slice (some ⟨gb, 0, none⟩) 2 cap)).toArray = .agg A := by rw [hA]
  simp only [List.map_cons, List.map_nil]
  rw [hA']
  clear hA hA2 hA' hX0 hX1 hl0 hl1 hl1' hZ hZl hts hM1 hMB hB hzx hz0 hz1 hS0 hS1 hsm0 hsm1 hY hlen hsq hcap1 hcap2 CS HW0 HB0 hf
  obtain ⟨g1, hg1⟩ : ∃ g1, V1.heap.size = g1 := ⟨_, rfl⟩
  have hk1 : (V1.alloc (.cells cz 28)).heap[g1]? = some (.cells cz 28 (0, 0)) := by rw [← hg1]; exact heap_alloc_new _ _
  have e1 : (V1.alloc (.cells cz 28)).setRow g1 A = V1.alloc (.cells A 28) := by
    rw [← hg1]; exact World.setRow_alloc_new V1 cz A 28
  have HP : Hid (Mem w0 ((V1.alloc (.cells cz 28)).setRow g1 A) ((g1, .cells A 28 (0, 0)) :: (gb, .cells X0 39 (0, 0)) :: (C0' ++ C1'))) := by
    rw [e1]; exact HMB.out.front _ hg1.symm
  clear e1 HMB
  go_upto_region 2 with (refine wpList_store_row rfl 28 (.tmp 1) (.tmp 5) (by with_reducible rfl) g1 A (by simp [Act.eval]; try exact hg1) (by first | rfl | simp [Act.eval]) 28 cz hk1 i29 (by rw [hsz]; rfl) hone ?_)
  refine wp_letter (fun X => Mem w0 X ((g1, .cells A 28 (0, 0)) :: (gb, .cells X0 39 (0, 0)) :: (C0' ++ C1'))) (by exact HP.out) ?_
  intro V2 hM2
  try simp only [hg1]
  clear HP hg1 hk1 hsz hone
  have k1 : V2.heap[g1]? = some (.cells A 28 (0, 0)) := hM2.get 0 rfl
  have CK := check_any (HVW.out.1.below hM2.below) (HCV0.out V2 hM2.sub) (by show 2 ≤ 1000000; omega) (by
    intro t ht
    have : t = t0 ∨ t = t1 := by simpa using ht
    rcases this with rfl | rfl
    · exact HSM.out.1
    · exact HSM.out.2.1)
  rw [HCH.out.1] at CK
  have HM2 : Hid (Mem w0 V2 ((g1, .cells A 28 (0, 0)) :: (gb, .cells X0 39 (0, 0)) :: (C0' ++ C1'))) := hM2
  clear hM2
  go_wp2_with (refine wpList_load_row rfl 28 (.tmp 1) (by with_reducible rfl) g1 (by first | rfl | simp [Act.eval]) 28 A (0, 0) _ k1 Tryd.underlying28 rfl i29 ?_)
  refine CK.mono ?_
  rintro _ V3 ⟨rfl, hb3⟩
  have hM3 := HM2.out.after hb3
  have c28 : V3.cell? ⟨g1, 28, none⟩ = some (.slice (some ⟨gb, 0, none⟩) 2 cap) := (hM3.cell 0 rfl 28).trans hA28
  have c23 : V3.cell? ⟨gb, 23, none⟩ = some (.slice pa pm pc) := (hM3.cell 1 rfl 23).trans hX23
  have c56 : V3.drew.cell? ⟨gb, 56, none⟩ = some v0 := (hM3.cell 1 rfl 56).trans hX56
  have f56 : V3.drew.frozen? ⟨gb, 56, none⟩ = false := hM3.free 1 rfl 56
  have HM3 : Hid (Mem w0 (V3.drew.setCell ⟨gb, 56, none⟩ (.slice pa pm pc)) ((g1, .cells A 28 (0, 0)) :: (gb, .cells X1 39 (0, 0)) :: (C0' ++ C1'))) := by
    have := hM3.drew.set 1 rfl 56 (.slice pa pm pc)
    rw [hXX] at this
    exact this
  have HS9 : Hid ((V3.drew.setCell ⟨gb, 56, none⟩ (.slice pa pm pc)).cell? ⟨g1, 28, none⟩ = some (.slice (some ⟨gb, 0, none⟩) 2 cap) ∧ (V3.drew.setCell ⟨gb, 56, none⟩ (.slice pa pm pc)).cell? ⟨gb, 23, none⟩ = some (.slice pa pm pc)) := by
    refine ⟨(HM3.out.cell 0 rfl 28).trans hA28, (HM3.out.cell 1 rfl 23).trans ?_⟩
    rw [← hXX]
    rw [Array.getElem?_setIfInBounds_ne (by omega)]
    exact hX23
  clear hM3 hb3 CK k1 HM2
  go_upto_region 3 with fail
  refine wp_region_held_drew (S := fun X => X.cell? ⟨g1, 28, none⟩ = some (.slice (some ⟨gb, 0, none⟩) 2 cap) ∧ X.cell? ⟨gb, 23, none⟩ = some (.slice pa pm pc)) (by kernel_rfl) ⟨c28, c23⟩ (fun hHeld => ?_)
  refine wpAnyH_take (i := 0) (v := ?_) rfl (by kernel_rfl) (by kernel_rfl) (by kernel_rfl) (fun _ _ _ h => h) (Or.inl ⟨by rfl, ?qy0⟩) (by assumption) ?qr0
  case qy0 =>
    intro w hSw
    (try dsimp only at hSw)
    go_simp
    all_goals with_reducible rfl
  try simp only [List.getElem_toArray, List.getElem_cons_zero, List.getElem_cons_succ, Act.put, List.setIfInBounds_toArray, List.set_cons_zero, List.set_cons_succ]
  refine wpAnyH_take (i := 1) (v := ?_) rfl (by kernel_rfl) (by kernel_rfl) (by kernel_rfl) (fun _ _ _ h => h) (Or.inl ⟨by rfl, ?qy1⟩) (by assumption) ?qr1
  case qy1 =>
    intro w hSw
    (try dsimp only at hSw)
    go_simp
    all_goals with_reducible rfl
  try simp only [List.getElem_toArray, List.getElem_cons_zero, List.getElem_cons_succ, Act.put, List.setIfInBounds_toArray, List.set_cons_zero, List.set_cons_succ]
  refine wpAnyH_take (i := 2) (v := ?_) rfl (by kernel_rfl) (by kernel_rfl) (by kernel_rfl) (fun _ _ _ h => h) (Or.inl ⟨by rfl, ?qy2⟩) (by assumption) ?qr2
  case qy2 =>
    intro w hSw
    (try dsimp only at hSw)
    go_simp
    all_goals with_reducible rfl
  try simp only [List.getElem_toArray, List.getElem_cons_zero, List.getElem_cons_succ, Act.put, List.setIfInBounds_toArray, List.set_cons_zero, List.set_cons_succ]
  refine wpAnyH_take (i := 3) (v := ?_) rfl (by kernel_rfl) (by kernel_rfl) (by kernel_rfl) (fun _ _ _ h => h) (Or.inl ⟨by rfl, ?qy3⟩) (by assumption) ?qr3
  case qy3 =>
    intro w hSw
    (try dsimp only at hSw)
    go_simp
    all_goals with_reducible rfl
  try simp only [List.getElem_toArray, List.getElem_cons_zero, List.getElem_cons_succ, Act.put, List.setIfInBounds_toArray, List.set_cons_zero, List.set_cons_succ]
  refine wpAnyH_take (i := 4) (v := ?_) rfl (by kernel_rfl) (by kernel_rfl) (by kernel_rfl) (fun _ _ _ h => h) (Or.inl ⟨by rfl, ?qy4⟩) (by assumption) ?qr4
  case qy4 =>
    intro w hSw
    (try dsimp only at hSw)
    go_simp
    all_goals with_reducible rfl
  try simp only [List.getElem_toArray, List.getElem_cons_zero, List.getElem_cons_succ, Act.put, List.setIfInBounds_toArray, List.set_cons_zero, List.set_cons_succ]
  refine wpAnyH_take (i := 5) (v := ?_) rfl (by kernel_rfl) (by kernel_rfl) (by kernel_rfl) (fun _ _ _ h => h) (Or.inl ⟨by rfl, ?qy5⟩) (by assumption) ?qr5
  case qy5 =>
    intro w hSw
    (try dsimp only at hSw)
    go_simp
    all_goals with_reducible rfl
  try simp only [List.getElem_toArray, List.getElem_cons_zero, List.getElem_cons_succ, Act.put, List.setIfInBounds_toArray, List.set_cons_zero, List.set_cons_succ]
  refine wpAnyH_take (i := 6) (v := ?_) rfl (by kernel_rfl) (by kernel_rfl) (by kernel_rfl) (fun _ _ _ h => h) (Or.inl ⟨by rfl, ?qy6⟩) (by assumption) ?qr6
  case qy6 =>
    intro w hSw
    (try dsimp only at hSw)
    go_simp
    all_goals with_reducible rfl
  try simp only [List.getElem_toArray, List.getElem_cons_zero, List.getElem_cons_succ, Act.put, List.setIfInBounds_toArray, List.set_cons_zero, List.set_cons_succ]
  refine wpAnyH_take (i := 7) (v := ?_) rfl (by kernel_rfl) (by kernel_rfl) (by kernel_rfl) (fun _ _ _ h => h) (Or.inl ⟨by rfl, ?qy7⟩) (by assumption) ?qr7
  case qy7 =>
    intro w hSw
    (try dsimp only at hSw)
    go_simp
    all_goals with_reducible rfl
  try simp only [List.getElem_toArray, List.getElem_cons_zero, List.getElem_cons_succ, Act.put, List.setIfInBounds_toArray, List.set_cons_zero, List.set_cons_succ]
  refine wpAnyH_take (i := 8) (v := ?_) rfl (by kernel_rfl) (by kernel_rfl) (by kernel_rfl) (fun _ _ _ h => h) (Or.inl ⟨by rfl, ?qy8⟩) (by assumption) ?qr8
  case qy8 =>
    intro w hSw
    (try dsimp only at hSw)
    go_simp
    all_goals with_reducible rfl
  try simp only [List.getElem_toArray, List.getElem_cons_zero, List.getElem_cons_succ, Act.put, List.setIfInBounds_toArray, List.set_cons_zero, List.set_cons_succ]
  refine wpAnyH_ready (rs := [9]) (by kernel_rfl) (by simp) ?_
  refine AllReadyH.cons rfl (fun K hK => ?_) AllReadyH.nil
  go_simp
  refine hK.out _ _ HS9.out (fun hHeld => ?_)
  clear hK K
  try simp only [List.getElem_toArray, List.getElem_cons_zero, List.getElem_cons_succ, Act.put, List.setIfInBounds_toArray, List.set_cons_zero, List.set_cons_succ]
  refine wpAnyH_done (by kernel_rfl) ?_ _
  go_upto_region 4 with fail
  refine wp_letter (fun X => Mem w0 X ((g1, .cells A 28 (0, 0)) :: (gb, .cells X1 39 (0, 0)) :: (C0' ++ C1'))) (by exact HM3.out) ?_
  intro V4 hM4
  clear HM3 HS9 c28 c23 c56 f56 hX56 hXX hX23 v0 hHeld
  have k1 : V4.heap[g1]? = some (.cells A 28 (0, 0)) := hM4.get 0 rfl
  have CK := check_any (HVW.out.1.below hM4.below) (HCV1.out V4 hM4.sub) (by show 2 ≤ 1000000; omega) (by
    intro t ht
    have : t = t0 ∨ t = { t1 with pool := t0.pool } := by simpa using ht
    rcases this with rfl | rfl
    · exact HSM.out.1
    · exact HSM.out.2.2)
  rw [HCH.out.2.1] at CK
  have HM4 : Hid (Mem w0 V4 ((g1, .cells A 28 (0, 0)) :: (gb, .cells X1 39 (0, 0)) :: (C0' ++ C1'))) := hM4
  clear hM4
  go_wp2_with (refine wpList_load_row rfl 28 (.tmp 1) (by with_reducible rfl) g1 (by first | rfl | simp [Act.eval]) 28 A (0, 0) _ k1 Tryd.underlying28 rfl i29 ?_)
  refine CK.mono ?_
  rintro _ V5 ⟨rfl, hb5⟩
  have hM5 := HM4.out.after hb5
  have HX : Hid (∀ X, Below V5.heap.size V5 X → X.cell? ⟨g1, 28, none⟩ = some (.slice (some ⟨gb, 0, none⟩) 2 cap) ∧ X.rangeAt gb 0 Z) := by
    intro X hX
    have hM := hM5.after hX
    exact ⟨(hM.cell 0 rfl 28).trans hA28, (HTV.out X hM.sub).2⟩
  have HC0 : Hid (∀ X, Below V5.heap.size V5 X → Calls Tryd.prog 11 #[.agg #[.int .u32 0, .int .u8 0, .int .u8 0, .int .u8 0, .int .u8 0, .int .u8 0, .int .u8 0, .int .u8 0, .int .u8 0, .int .u8 0, .int .u8 0, .int .u8 0, .int .u8 0, .int .u8 0, .int .u8 0, .int .u8 0, .int .u8 0, .int .u8 0, .int .u8 0, .int .u8 0, .int .u8 0, .int .u8 0, .int .u8 0, .int .u8 0, .int .u8 0, .int .u8 0, .int .u8 0, .int .u32 0, .slice none 0 0]] X fun e V => e = .returned (.int .i64 96) ∧ Below V5.heap.size V5 V) := by
    intro X hX
    exact (C0 X (HVW.out.1.below (hM5.after hX).below)).mono (fun e V hh => ⟨hh.1, hX.trans (hh.2.mono hX.size)⟩)
  have HCO : Hid (∀ X, Below V5.heap.size V5 X → Calls Tryd.prog 18 #[.agg Z.toArray, .int .u32 (adr 5 5 (0 : Nat) 1)] X fun e V => e = .returned (.bool true) ∧ Below V5.heap.size V5 V) := by
    intro X hX
    have h := owns_any (HTV.out X (hM5.after hX).sub).1 HSM.out.1 (adr 5 5 (0 : Nat) 1)
    rw [HCH.out.2.2] at h
    exact h.mono (fun e V hh => ⟨hh.1, hX.trans (hh.2.mono hX.size)⟩)
  have HB5 : Hid (Below w.heap.size w V5) := HVW.out.2.trans (hM5.below.mono HVW.out.2.size)
  clear hM5 hb5 CK k1 HM4 HCV0 HCV1 HCH HSM HTV HVW HGB hA28 C0
  generalize adr 5 5 (0 : Nat) 1 = a1 at *
  go_upto_region 5 with fail
  refine wp_region_held_drew (S := fun X => X.cell? ⟨g1, 28, none⟩ = some (.slice (some ⟨gb, 0, none⟩) 2 cap) ∧ X.rangeAt gb 0 Z) (by kernel_rfl) (HX.out _ (Below.refl _ _).drew) (fun hHeld => ?_)
  refine wpAnyH_take (i := 0) (v := ?_) rfl (by kernel_rfl) (by kernel_rfl) (by kernel_rfl) (fun _ _ _ h => h) (Or.inl ⟨by rfl, ?zy0⟩) (by assumption) ?zr0
  case zy0 =>
    intro w hSw
    (try dsimp only at hSw)
    go_simp
    all_goals with_reducible rfl
  try simp only [List.getElem_toArray, List.getElem_cons_zero, List.getElem_cons_succ, Act.put, List.setIfInBounds_toArray, List.set_cons_zero, List.set_cons_succ]
  refine wpAnyH_take (i := 1) (v := ?_) rfl (by kernel_rfl) (by kernel_rfl) (by kernel_rfl) (fun _ _ _ h => h) (Or.inl ⟨by rfl, ?zy1⟩) (by assumption) ?zr1
  case zy1 =>
    intro w hSw
    (try dsimp only at hSw)
    go_simp
    all_goals with_reducible rfl
  try simp only [List.getElem_toArray, List.getElem_cons_zero, List.getElem_cons_succ, Act.put, List.setIfInBounds_toArray, List.set_cons_zero, List.set_cons_succ]
  refine wpAnyH_take (i := 2) (v := ?_) rfl (by kernel_rfl) (by kernel_rfl) (by kernel_rfl) (fun _ _ _ h => h) (Or.inl ⟨by rfl, ?zy2⟩) (by assumption) ?zr2
  case zy2 =>
    intro w hSw
    (try dsimp only at hSw)
    go_simp
    all_goals with_reducible rfl
  try simp only [List.getElem_toArray, List.getElem_cons_zero, List.getElem_cons_succ, Act.put, List.setIfInBounds_toArray, List.set_cons_zero, List.set_cons_succ]
  refine wpAnyH_take (i := 3) (v := ?_) rfl (by kernel_rfl) (by kernel_rfl) (by kernel_rfl) (fun _ _ _ h => h) (Or.inl ⟨by rfl, ?zy3⟩) (by assumption) ?zr3
  case zy3 =>
    intro w hSw
    (try dsimp only at hSw)
    go_simp
    all_goals with_reducible rfl
  try simp only [List.getElem_toArray, List.getElem_cons_zero, List.getElem_cons_succ, Act.put, List.setIfInBounds_toArray, List.set_cons_zero, List.set_cons_succ]
  refine wpAnyH_take (i := 4) (v := ?_) rfl (by kernel_rfl) (by kernel_rfl) (by kernel_rfl) (fun _ _ _ h => h) (Or.inl ⟨by rfl, ?zy4⟩) (by assumption) ?zr4
  case zy4 =>
    intro w hSw
    (try dsimp only at hSw)
    go_simp
    all_goals with_reducible rfl
  try simp only [List.getElem_toArray, List.getElem_cons_zero, List.getElem_cons_succ, Act.put, List.setIfInBounds_toArray, List.set_cons_zero, List.set_cons_succ]
  refine wpAnyH_take (i := 5) (v := ?_) rfl (by kernel_rfl) (by kernel_rfl) (by kernel_rfl) (fun _ _ _ h => h) (Or.inl ⟨by rfl, ?zy5⟩) (by assumption) ?zr5
  case zy5 =>
    intro w hSw
    (try dsimp only at hSw)
    go_simp
    all_goals with_reducible rfl
  try simp only [List.getElem_toArray, List.getElem_cons_zero, List.getElem_cons_succ, Act.put, List.setIfInBounds_toArray, List.set_cons_zero, List.set_cons_succ]
  refine wpAnyH_take (i := 6) (v := ?_) rfl (by kernel_rfl) (by kernel_rfl) (by kernel_rfl) (fun _ _ _ h => h) (Or.inl ⟨by rfl, ?zy6⟩) (by assumption) ?zr6
  case zy6 =>
    intro w hSw
    (try dsimp only at hSw)
    go_simp
    all_goals with_reducible rfl
  try simp only [List.getElem_toArray, List.getElem_cons_zero, List.getElem_cons_succ, Act.put, List.setIfInBounds_toArray, List.set_cons_zero, List.set_cons_succ]
  refine wpAnyH_take (i := 7) (v := ?_) rfl (by kernel_rfl) (by kernel_rfl) (by kernel_rfl) (fun _ _ _ h => h) (Or.inl ⟨by rfl, ?zy7⟩) (by assumption) ?zr7
  case zy7 =>
    intro w hSw
    (try dsimp only at hSw)
    go_simp
    all_goals with_reducible rfl
  try simp only [List.getElem_toArray, List.getElem_cons_zero, List.getElem_cons_succ, Act.put, List.setIfInBounds_toArray, List.set_cons_zero, List.set_cons_succ]
  refine wpAnyH_ready (rs := [8]) (by kernel_rfl) (by simp) ?_
  refine AllReadyH.cons rfl (fun K hK => ?_) AllReadyH.nil
  go_simp
  with_reducible refine (HC0.out _ (by first | exact Below.refl _ _ | exact (Below.refl _ _).drew)).mono ?_
  rintro _ V6 ⟨rfl, hb6⟩
  try go_wp2_with fail
  refine hK.out _ _ (HX.out V6 hb6) (fun hHeld => ?_)
  clear hK K
  try simp only [List.getElem_toArray, List.getElem_cons_zero, List.getElem_cons_succ, Act.put, List.setIfInBounds_toArray, List.set_cons_zero, List.set_cons_succ]
  refine wpAnyH_take (i := 9) (v := ?_) rfl (by kernel_rfl) (by kernel_rfl) (by kernel_rfl) (fun _ _ _ h => h) (Or.inl ⟨by rfl, ?zy9⟩) (by assumption) ?zr9
  case zy9 =>
    intro w hSw
    (try dsimp only at hSw)
    go_simp
    all_goals with_reducible rfl
  try simp only [List.getElem_toArray, List.getElem_cons_zero, List.getElem_cons_succ, Act.put, List.setIfInBounds_toArray, List.set_cons_zero, List.set_cons_succ]
  refine wpAnyH_take (i := 10) (v := ?_) rfl (by kernel_rfl) (by kernel_rfl) (by kernel_rfl) (fun _ _ _ h => h) (Or.inl ⟨by rfl, ?zy10⟩) (by assumption) ?zr10
  case zy10 =>
    intro w hSw
    (try dsimp only at hSw)
    go_simp
    all_goals with_reducible rfl
  try simp only [List.getElem_toArray, List.getElem_cons_zero, List.getElem_cons_succ, Act.put, List.setIfInBounds_toArray, List.set_cons_zero, List.set_cons_succ]
  refine wpAnyH_take (i := 11) (v := ?_) rfl (by kernel_rfl) (by kernel_rfl) (by kernel_rfl) (fun _ _ _ h => h) (Or.inl ⟨by rfl, ?zy11⟩) (by assumption) ?zr11
  case zy11 =>
    intro w hSw
    (try dsimp only at hSw)
    go_simp
    all_goals with_reducible rfl
  try simp only [List.getElem_toArray, List.getElem_cons_zero, List.getElem_cons_succ, Act.put, List.setIfInBounds_toArray, List.set_cons_zero, List.set_cons_succ]
  refine wpAnyH_take (i := 12) (v := ?_) rfl (by kernel_rfl) (by kernel_rfl) (by kernel_rfl) (fun _ _ _ h => h) (Or.inl ⟨by rfl, ?zy12⟩) (by assumption) ?zr12
  case zy12 =>
    intro w hSw
    (try dsimp only at hSw)
    go_simp
    all_goals with_reducible rfl
  try simp only [List.getElem_toArray, List.getElem_cons_zero, List.getElem_cons_succ, Act.put, List.setIfInBounds_toArray, List.set_cons_zero, List.set_cons_succ]
  refine wpAnyH_take (i := 13) (v := ?_) rfl (by kernel_rfl) (by kernel_rfl) (by kernel_rfl) (fun _ _ _ h => h) (Or.inl ⟨by rfl, ?zy13⟩) (by assumption) ?zr13
  case zy13 =>
    intro w hSw
    (try dsimp only at hSw)
    go_simp
    all_goals with_reducible rfl
  try simp only [List.getElem_toArray, List.getElem_cons_zero, List.getElem_cons_succ, Act.put, List.setIfInBounds_toArray, List.set_cons_zero, List.set_cons_succ]
  refine wpAnyH_take (i := 14) (v := ?_) rfl (by kernel_rfl) (by kernel_rfl) (by kernel_rfl) (fun _ _ _ h => h) (Or.inl ⟨by rfl, ?zy14⟩) (by assumption) ?zr14
  case zy14 =>
    intro w hSw
    (try dsimp only at hSw)
    go_simp
    all_goals with_reducible rfl
  try simp only [List.getElem_toArray, List.getElem_cons_zero, List.getElem_cons_succ, Act.put, List.setIfInBounds_toArray, List.set_cons_zero, List.set_cons_succ]
  refine wpAnyH_take (i := 15) (v := _) rfl (by kernel_rfl) (by kernel_rfl) (by kernel_rfl) (fun _ _ _ h => h) (yieldsIf_load_mid (by rfl) _ _ rfl _ _ rfl _ _ ?zs15 Tryd.underlying39 rfl hj33) (by assumption) ?zr15
  case zs15 =>
    intro w hSw
    (try dsimp only at hSw)
    go_split_ands
    assumption
  try simp only [List.getElem_toArray, List.getElem_cons_zero, List.getElem_cons_succ, Act.put, List.setIfInBounds_toArray, List.set_cons_zero, List.set_cons_succ]
  refine wpAnyH_ready (rs := [16]) (by kernel_rfl) (by simp) ?_
  refine AllReadyH.cons rfl (fun K hK => ?_) AllReadyH.nil
  go_simp
  with_reducible refine (CA _).mono ?_
  rintro _ _ ⟨rfl, rfl⟩
  try go_wp2_with fail
  refine hK.out _ _ (HX.out V6 hb6) (fun hHeld => ?_)
  clear hK K
  try simp only [List.getElem_toArray, List.getElem_cons_zero, List.getElem_cons_succ, Act.put, List.setIfInBounds_toArray, List.set_cons_zero, List.set_cons_succ]
  refine wpAnyH_ready (rs := [17]) (by kernel_rfl) (by simp) ?_
  refine AllReadyH.cons rfl (fun K hK => ?_) AllReadyH.nil
  go_simp
  with_reducible refine (HCO.out V6 hb6).mono ?_
  rintro _ V7 ⟨rfl, hb7⟩
  try go_wp2_with fail
  refine hK.out _ _ (HX.out V7 hb7) (fun hHeld => ?_)
  clear hK K
  try simp only [List.getElem_toArray, List.getElem_cons_zero, List.getElem_cons_succ, Act.put, List.setIfInBounds_toArray, List.set_cons_zero, List.set_cons_succ]
  refine wpAnyH_take (i := 18) (v := ?_) rfl (by kernel_rfl) (by kernel_rfl) (by kernel_rfl) (fun _ _ _ h => h) (Or.inl ⟨by rfl, ?zy18⟩) (by assumption) ?zr18
  case zy18 =>
    intro w hSw
    (try dsimp only at hSw)
    go_simp
    all_goals with_reducible rfl
  try simp only [List.getElem_toArray, List.getElem_cons_zero, List.getElem_cons_succ, Act.put, List.setIfInBounds_toArray, List.set_cons_zero, List.set_cons_succ]
  refine wpAnyH_take (i := 19) (v := ?_) rfl (by kernel_rfl) (by kernel_rfl) (by kernel_rfl) (fun _ _ _ h => h) (Or.inl ⟨by rfl, ?zy19⟩) (by assumption) ?zr19
  case zy19 =>
    intro w hSw
    (try dsimp only at hSw)
    go_simp
    all_goals with_reducible rfl
  try simp only [List.getElem_toArray, List.getElem_cons_zero, List.getElem_cons_succ, Act.put, List.setIfInBounds_toArray, List.set_cons_zero, List.set_cons_succ]
  refine wpAnyH_done (by kernel_rfl) ?_ _
  go_wp2_with fail
  go_ret
  exact ⟨rfl, HB5.out.trans (hb7.mono HB5.out.size)⟩
end Go.Proofs.YtnddbklbgddblaaDoor

namespace Go.Proofs.YtnddbklbgddblaaDoor
open Go.RowKit
open La (adr)
open Ad (nam)
open Va
set_option linter.unusedVariables false
set_option linter.unusedSimpArgs false
set_option maxRecDepth 20000

namespace Va
/-- One past the bound: the error; at it: none. -/
def bdv (o e : Int) : Int := if o = 1 then e else 0
theorem bd_ok {f : Int} (hf : f ≤ 1000) {t : Ten} (h : TOk t) (ho : ∀ x ∈ t.pool ++ snd' t.stat, x ≠ adr 10 9 0 200) : chk (sc f [t]) = 0 := by
  refine chk_ok ⟨by show adr 10 9 0 200 ≠ 0; decide, hf, by show 1 ≤ 16; omega⟩ (fun j hj => ?_)
  obtain rfl : j = 0 := by have : j < 1 := hj; omega
  exact POk.none ⟨h, Or.inl rfl, fun o ho => absurd ho (by simp)⟩ hj (fun z hz => ⟨ho z hz, fun o ho => absurd ho (by simp)⟩)
theorem bd_no {f e : Int} (hf : f ≤ 1000) {t : Ten} (he : e ≠ 0) (h : tchk t = e) : chk (sc f [t]) = e :=
  chk_tenant ⟨by show adr 10 9 0 200 ≠ 0; decide, hf, by show 1 ≤ 16; omega⟩ (by show 0 < 1; omega) he h
/-- The seat's tenant of this statement. -/
structure B7 (t : Ten) : Prop where
  ok : TOk t
  pool : t.pool = [adr 5 5 (0 : Nat) 1, adr 5 5 (0 : Nat) 2]
  stat : t.stat = []
  twi : t.twi = []
theorem b7_of {t : Ten} (h : SeatQ 0 7 t) : B7 t := by
  have hs := h.sq (by omega)
  obtain ⟨lo, hi, fi, se, qu, ra, bu, rfl, r⟩ := h
  exact ⟨hs.ok, rfl, rfl, rfl⟩
theorem b7_own {t : Ten} (h : B7 t) : ∀ x ∈ t.pool ++ snd' t.stat, x ≠ adr 10 9 0 200 := by
  rw [h.pool, h.stat]; decide
theorem bd_vni {f o : Int} (hf : f ≤ 1000) (ho : o = 0 ∨ o = 1) {t : Ten} (h : B7 t) : chk (sc f [{ t with vni := 16777215 + o }]) = bdv o 91 := by
  have k := h.ok
  rcases ho with rfl | rfl
  · exact bd_ok hf ⟨k.r0, by rfl, k.r2, k.r3, k.r4, k.r5, k.r6, k.r7, k.r8, k.r9, k.r10, k.r11, k.r12, k.r13, k.r14, k.r15, k.r16⟩ (b7_own (t := t) h)
  · refine bd_no hf (by decide) ?_
    unfold tchk Va.trs
    rw [k.r0]; rfl
theorem bd_ports {f o : Int} (hf : f ≤ 1000) (ho : o = 0 ∨ o = 1) {t : Ten} (h : B7 t) : chk (sc f [{ t with lo := 5 + o, hi := 5 }]) = bdv o 93 := by
  have k := h.ok
  rcases ho with rfl | rfl
  · exact bd_ok hf ⟨k.r0, k.r1, k.r2, k.r3, by rfl, k.r5, k.r6, k.r7, k.r8, k.r9, k.r10, k.r11, k.r12, k.r13, k.r14, k.r15, k.r16⟩ (b7_own (t := t) h)
  · refine bd_no hf (by decide) ?_
    unfold tchk Va.trs
    rw [k.r0, k.r1, k.r2, k.r3]; rfl
theorem bd_sess {f o : Int} (hf : f ≤ 1000) (ho : o = 0 ∨ o = 1) {t : Ten} (h : B7 t) : chk (sc f [{ t with sess := 256 + o }]) = bdv o 95 := by
  have k := h.ok
  rcases ho with rfl | rfl
  · exact bd_ok hf ⟨k.r0, k.r1, k.r2, k.r3, k.r4, k.r5, k.r6, k.r7, k.r8, k.r9, k.r10, k.r11, by rfl, k.r13, k.r14, k.r15, k.r16⟩ (b7_own (t := t) h)
  · refine bd_no hf (by decide) ?_
    unfold tchk Va.trs
    rw [k.r0, k.r1, k.r2, k.r3, k.r4, k.r5, k.r6, k.r7, k.r8, k.r9, k.r10, show (fst' t.twi).any (owns { t with sess := 256 + 1 }) = false from k.r11]; rfl
theorem bd_queue {f o : Int} (hf : f ≤ 1000) (ho : o = 0 ∨ o = 1) {t : Ten} (h : B7 t) : chk (sc f [{ t with queue := 64 + o }]) = bdv o 95 := by
  have k := h.ok
  rcases ho with rfl | rfl
  · exact bd_ok hf ⟨k.r0, k.r1, k.r2, k.r3, k.r4, k.r5, k.r6, k.r7, k.r8, k.r9, k.r10, k.r11, k.r12, by rfl, k.r14, k.r15, k.r16⟩ (b7_own (t := t) h)
  · refine bd_no hf (by decide) ?_
    unfold tchk Va.trs
    rw [k.r0, k.r1, k.r2, k.r3, k.r4, k.r5, k.r6, k.r7, k.r8, k.r9, k.r10, show (fst' t.twi).any (owns { t with queue := 64 + 1 }) = false from k.r11, k.r12]; rfl
theorem bd_rate {f o : Int} (hf : f ≤ 1000) (ho : o = 0 ∨ o = 1) {t : Ten} (h : B7 t) : chk (sc f [{ t with rate := 1000000 + o }]) = bdv o 95 := by
  have k := h.ok
  rcases ho with rfl | rfl
  · exact bd_ok hf ⟨k.r0, k.r1, k.r2, k.r3, k.r4, k.r5, k.r6, k.r7, k.r8, k.r9, k.r10, k.r11, k.r12, k.r13, by rfl, k.r15, k.r16⟩ (b7_own (t := t) h)
  · refine bd_no hf (by decide) ?_
    unfold tchk Va.trs
    rw [k.r0, k.r1, k.r2, k.r3, k.r4, k.r5, k.r6, k.r7, k.r8, k.r9, k.r10, show (fst' t.twi).any (owns { t with rate := 1000000 + 1 }) = false from k.r11, k.r12, k.r13]; rfl
theorem bd_burst {f o : Int} (hf : f ≤ 1000) (ho : o = 0 ∨ o = 1) {t : Ten} (h : B7 t) : chk (sc f [{ t with burst := 1000000 + o }]) = bdv o 95 := by
  have k := h.ok
  rcases ho with rfl | rfl
  · exact bd_ok hf ⟨k.r0, k.r1, k.r2, k.r3, k.r4, k.r5, k.r6, k.r7, k.r8, k.r9, k.r10, k.r11, k.r12, k.r13, k.r14, by rfl, k.r16⟩ (b7_own (t := t) h)
  · refine bd_no hf (by decide) ?_
    unfold tchk Va.trs
    rw [k.r0, k.r1, k.r2, k.r3, k.r4, k.r5, k.r6, k.r7, k.r8, k.r9, k.r10, show (fst' t.twi).any (owns { t with burst := 1000000 + 1 }) = false from k.r11, k.r12, k.r13, k.r14]; rfl
theorem bd_drain {f o : Int} (hf : f = 1000 + o) (ho : o = 0 ∨ o = 1) {t : Ten} (h : B7 t) : chk (sc f [t]) = bdv o 96 := by
  rcases ho with rfl | rfl
  · exact bd_ok (by omega) h.ok (b7_own (t := t) h)
  · exact chk_gate (Or.inr (Or.inl (by show 1000 < f; omega)))
/-- 1, 2 .. n. -/
def ups (n : Nat) : List Int := (List.range n).map (fun i : Nat => (i : Int) + 1)
theorem ups_snoc (n : Nat) : ups (n + 1) = ups n ++ [(n : Int) + 1] := by unfold ups; rw [List.range_succ, List.map_append]; rfl
theorem ups_len (n : Nat) : (ups n).length = n := by simp [ups]
theorem ups8 : ups 8 = [1, 2, 3, 4, 5, 6, 7, 8] := by simp [ups, List.range_succ]
def prs1 (n : Nat) : List (Int × Int) := (ups n).map (fun x => (x, x))
theorem prs1_snoc (n : Nat) : prs1 (n + 1) = prs1 n ++ [((n : Int) + 1, (n : Int) + 1)] := by unfold prs1; rw [ups_snoc, List.map_append]; rfl
theorem prs1_len (n : Nat) : (prs1 n).length = n := by simp [prs1, ups_len]
theorem prs16 : prs1 16 = [(1, 1), (2, 2), (3, 3), (4, 4), (5, 5), (6, 6), (7, 7), (8, 8), (9, 9), (10, 10), (11, 11), (12, 12), (13, 13), (14, 14), (15, 15), (16, 16)] := by simp [prs1, ups, List.range_succ]
theorem bd_pool {f : Int} {o : Nat} (hf : f ≤ 1000) (ho : o = 0 ∨ o = 1) {t : Ten} (h : B7 t) : chk (sc f [{ t with pool := ups (8 + o) }]) = bdv o 92 := by
  have k := h.ok
  rcases ho with rfl | rfl
  · refine bd_ok hf ⟨k.r0, k.r1, by show decide (((ups 8).length : Int) ≤ 8) = true; rw [ups_len]; rfl, by show unl (ups 8) = true; rw [ups8]; decide, k.r4, k.r5, k.r6, k.r7, k.r8, k.r9, ?_, ?_, k.r12, k.r13, k.r14, k.r15, k.r16⟩ ?_
    · show (snd' t.stat).any _ = false
      rw [h.stat]; rfl
    · show (fst' t.twi).any _ = false
      rw [h.twi]; rfl
    · show ∀ x ∈ ups 8 ++ snd' t.stat, x ≠ adr 10 9 0 200
      rw [h.stat, ups8]; decide
  · refine bd_no hf (by decide) ?_
    unfold tchk Va.trs
    rw [k.r0, k.r1, show decide (((ups (8 + 1)).length : Int) ≤ 8) = false by rw [ups_len]; rfl]; rfl
theorem bd_stat {f : Int} {o : Nat} (hf : f ≤ 1000) (ho : o = 0 ∨ o = 1) {t : Ten} (h : B7 t) : chk (sc f [{ t with stat := prs1 (16 + o) }]) = bdv o 94 := by
  have k := h.ok
  rcases ho with rfl | rfl
  · refine bd_ok hf ⟨k.r0, k.r1, k.r2, k.r3, k.r4, k.r5, by show decide (((prs1 16).length : Int) ≤ 16) = true; rw [prs1_len]; rfl, k.r7, by show (unl (fst' (prs1 16)) && unl (snd' (prs1 16))) = true; rw [prs16]; decide, k.r9, ?_, ?_, k.r12, k.r13, k.r14, k.r15, k.r16⟩ ?_
    · show (snd' (prs1 16)).any (hs t.pool) = false
      rw [h.pool, prs16]; decide
    · show (fst' t.twi).any _ = false
      rw [h.twi]; rfl
    · show ∀ x ∈ t.pool ++ snd' (prs1 16), x ≠ adr 10 9 0 200
      rw [h.pool, prs16]; decide
  · refine bd_no hf (by decide) ?_
    unfold tchk Va.trs
    rw [k.r0, k.r1, k.r2, k.r3, k.r4, k.r5, show decide (((prs1 (16 + 1)).length : Int) ≤ 16) = false by rw [prs1_len]; rfl]; rfl
/-- A name of two letters. -/
def tnm (j : Nat) : ByteArray := ⟨#[116, UInt8.ofNat (97 + j)]⟩
theorem tnm_ok : ∀ j, j < 17 → nam (tnm j).data.toList = true := by
  have : ∀ m : Fin 17, nam [116, UInt8.ofNat (97 + m.val)] = true := by decide
  intro j hj
  exact this ⟨j, hj⟩
theorem tnm_lss : ∀ j, j < 17 → 0 < j → lss (tnm (j - 1)) (tnm j) = true := by
  have key : ∀ m : Fin 17, 0 < m.val → Op.bytesLess [116, UInt8.ofNat (97 + (m.val - 1))] [116, UInt8.ofNat (97 + m.val)] = true := by decide
  intro j hj h0
  unfold lss tnm
  rw [Lib.toList_data, Lib.toList_data]
  exact key ⟨j, hj⟩ h0
/-- The tenants of many. -/
def Tns (ts : List Ten) : Prop := ∀ j t, ts[j]? = some t → ∃ x, SQ j x ∧ t = { x with name := tnm j }
theorem bd_many {f : Int} {o : Nat} (hf : f ≤ 1000) (ho : o = 0 ∨ o = 1) {ts : List Ten} (hl : ts.length = 16 + o) (h : Tns ts) : chk (sc f ts) = bdv o 96 := by
  rcases ho with rfl | rfl
  · refine chk_ok ⟨by show adr 10 9 0 200 ≠ 0; decide, hf, by show ts.length ≤ 16; omega⟩ (fun j hj => ?_)
    have hj' : j < ts.length := hj
    obtain ⟨t, ht⟩ : ∃ t, ts[j]? = some t := ⟨_, List.getElem?_eq_getElem hj'⟩
    obtain ⟨x, hx, rfl⟩ := h j t ht
    have e := getD_some ht
    have k := hx.ok
    refine POk.none ⟨?_, ?_, fun o ho => ?_⟩ hj (fun z hz => ⟨fun e' => ?_, fun o ho hm => ?_⟩)
    · show TOk (ts.getD j ten0)
      rw [e]
      exact ⟨tnm_ok j (by omega), k.r1, k.r2, k.r3, k.r4, k.r5, k.r6, k.r7, k.r8, k.r9, k.r10, k.r11, k.r12, k.r13, k.r14, k.r15, k.r16⟩
    · by_cases h0 : j = 0
      · exact Or.inl h0
      · right
        obtain ⟨u, hu⟩ : ∃ u, ts[j - 1]? = some u := ⟨_, List.getElem?_eq_getElem (by omega)⟩
        obtain ⟨y, hy, rfl⟩ := h _ _ hu
        show lss (ts.getD (j - 1) ten0).name (ts.getD j ten0).name = true
        rw [e, getD_some hu]
        exact tnm_lss j (by omega) (by omega)
    · obtain ⟨i, hi, hio⟩ := mem_take ho
      obtain ⟨y, hy, rfl⟩ := h _ _ hio
      show y.vni ≠ (ts.getD j ten0).vni
      rw [e]
      show y.vni ≠ x.vni
      rw [hx.vni, hy.vni]; omega
    · have hz' : z ∈ x.pool ++ snd' x.stat := by
        have : z ∈ (ts.getD j ten0).pool ++ snd' (ts.getD j ten0).stat := hz
        rw [e] at this; exact this
      have hz2 := hx.own hz'
      have e2 : z = adr 10 9 0 200 := e'
      simp only [adr] at hz2 e2
      omega
    · have hz' : z ∈ x.pool ++ snd' x.stat := by
        have : z ∈ (ts.getD j ten0).pool ++ snd' (ts.getD j ten0).stat := hz
        rw [e] at this; exact this
      have hz2 := hx.own hz'
      obtain ⟨i, hi, hio⟩ := mem_take ho
      obtain ⟨y, hy, rfl⟩ := h _ _ hio
      have hz3 := hy.own hm
      simp only [adr] at hz2 hz3
      omega
  · exact chk_gate (Or.inr (Or.inr (by show (16 : Int) < ts.length; omega)))
end Va
end Go.Proofs.YtnddbklbgddblaaDoor

