/-
  What package log's Open answers.
-/
import Derived.Test.YtbmpjlgfbiakoaaDoorLgKept2
namespace Go.Proofs.YtbmpjlgfbiakoaaDoor
open Go.RowKit
open Sm
set_option linter.unusedVariables false

abbrev lgT : TypeId := 66
abbrev lgA (p : Nat) (t c : Int) (v : Value) : Array Value := #[.pointer (some ⟨p, 0, none⟩), .int .u64 t, .int .i64 c, v]
/-- A log's box, and its last record. -/
structure Lg where
  t : Int
  c : Int
  r : List Int
theorem fd_len (bl : List (List Int)) : (fd bl).length ≤ 2 := by
  unfold fd
  split <;> try simp
  split <;> simp
theorem ro_len {bl : List (List Int)} {slot k i : Nat} {t : Int} {acc r : List Int} {m : Nat} (hb : ∀ b ∈ bl, b.length = m ∧ IsBytes b) (hm : 256 ≤ m) (h : rdL bl slot t k i acc = some r) : r.length ≤ acc.length + k * m := by
  induction k generalizing i acc with
  | zero => rw [rdL] at h; cases h; simp
  | succ k ih =>
    rw [rdL] at h
    split at h
    · cases h
    · rename_i q hq
      split at h
      · have := ih h
        rw [List.length_append] at this
        have hqb : q.b.length ≤ m := by
          unfold rp at hq
          split at hq
          · cases hq
          · rename_i q' hu
            split at hq
            · cases hq
            · simp only [Option.some.injEq] at hq; subst hq
              by_cases hz : slot * sbk bl.length + i < bl.length
              · have e : bl.getD (slot * sbk bl.length + i) [] = bl[slot * sbk bl.length + i] := by simp [List.getD, hz]
                rw [e] at hu
                have o := hb _ (List.getElem_mem hz)
                have := (unf_facts hu o.1 hm o.2).2.1
                omega
              · have e : bl.getD (slot * sbk bl.length + i) [] = [] := by simp [List.getD, Nat.le_of_not_lt hz]
                rw [e] at hu
                simp [unf] at hu
        rw [Nat.succ_mul]; omega
      · cases h
theorem rd_len {bl : List (List Int)} {slot : Nat} {x : En} {m : Nat} (hb : ∀ b ∈ bl, b.length = m ∧ IsBytes b) (hm : 256 ≤ m) (hm1 : m ≤ 65536) (h4 : bl.length ≤ 64) (h : rd bl slot = some x) : x.r.length ≤ 1000000000 := by
  unfold rd at h
  split at h
  · cases h
  · rename_i f hf
    simp only [Option.map_eq_some_iff] at h
    obtain ⟨r, hr, rfl⟩ := h
    have h1 := ro_len hb hm hr
    have h2 : (f.n.toNat - 1) * m ≤ 31 * 65536 := Nat.mul_le_mul (by have := (rp_n hf).2; unfold sbk at this; omega) hm1
    have h3 : f.b.length ≤ 65536 := by
      have hq := ro_len (k := 1) (i := 0) (acc := []) (r := f.b) (t := f.t) hb hm (by rw [rdL, hf]; simp [rdL])
      simp at hq; omega
    simp only; omega
theorem fd_mem {bl : List (List Int)} {x : En} (h : x ∈ fd bl) : rd bl 0 = some x ∨ rd bl 1 = some x := by
  unfold fd at h
  split at h
  · simp at h
  · rename_i a h0 h1; simp at h; subst h; exact Or.inl h0
  · rename_i a h0 h1; simp at h; subst h; exact Or.inr h1
  · rename_i a b h0 h1
    split at h <;> simp at h <;> rcases h with e | e <;> subst e
    · exact Or.inr h1
    · exact Or.inl h0
    · exact Or.inl h0
    · exact Or.inr h1

section
variable {w W : World} {p h m : Nat} {D : Dk} {hc : Array Value} {ks : List Bk} {L : List (Nat × Obj)}
theorem DkAt.rows (H : DkAt w W p h m D hc ks L) : ∀ b ∈ ks.map Bk.b, b.length = m ∧ IsBytes b := by
  intro b hb
  obtain ⟨k, hk, rfl⟩ := List.mem_map.mp hb
  have o := H.st.ok k hk
  exact ⟨o.len, o.bytes⟩
/-- Too few blocks, or too small ones. -/
theorem open_small (H : DkAt w W p h m D hc ks L) (hno : ¬ (4 ≤ ks.length ∧ 256 ≤ m)) :
    Calls Tryd.prog 14 #[.pointer (some ⟨p, 0, none⟩)] W fun e W' => e = .returned (.tuple #[.pointer none, .slice none 0 0, .int .i64 50]) ∧ W = W' := by
  have hf := lfits_any H
  rw [show (decide (4 ≤ ks.length) && decide (256 ≤ m)) = false by simp; omega] at hf
  clear H
  go_enter Tryd.func14, Tryd.ntmps14
  go_wp2_with fail
  refine hf.mono ?_
  rintro e w' ⟨rfl, rfl⟩
  go_wp2
  exact bodyPost_ret (v := .tuple #[.pointer none, .slice none 0 0, .int .i64 50]) (by simp [results, Tryd.results14, go_sem]) rfl ⟨rfl, rfl⟩
theorem open_dead (H : DkAt w W p h m D hc ks L) {a : Addr} (hG : Gl W a) (hd : D.dead = true) (hn : 4 ≤ ks.length) (hm : 256 ≤ m) :
    Calls Tryd.prog 14 #[.pointer (some ⟨p, 0, none⟩)] W fun e W' => e = .returned (.tuple #[.pointer none, .slice none 0 0, .int .i64 42]) ∧ ∃ K, Mem W W' K := by
  have hf := lfits_any H
  rw [show (decide (4 ≤ ks.length) && decide (256 ≤ m)) = true by simp [hn, hm]] at hf
  have hfd := find_dead H hG hd
  clear H hG
  go_enter Tryd.func14, Tryd.ntmps14
  go_wp2_with fail
  refine hf.mono ?_
  rintro e w' ⟨rfl, rfl⟩
  go_wp2_with fail
  refine hfd.mono ?_
  rintro e w2 ⟨rfl, h2⟩
  go_wp2
  exact bodyPost_ret (v := .tuple #[.pointer none, .slice none 0 0, .int .i64 42]) (by simp [results, Tryd.results14, go_sem]) rfl ⟨rfl, h2⟩

set_option maxRecDepth 20000 in
set_option maxHeartbeats 2000000 in
theorem open_live (H : DkAt w W p h m D hc ks L) {a : Addr} (hG : Gl W a) (hd : D.dead = false) (hn : 4 ≤ ks.length) (hm : 256 ≤ m) :
    Calls Tryd.prog 14 #[.pointer (some ⟨p, 0, none⟩)] W fun e W' => ∃ pl v', e = .returned (.tuple #[.pointer (some ⟨pl, 0, none⟩), v', .int .i64 0]) ∧ ∃ vr X, OwnV vr (nw (fd (ks.map Bk.b))).r X ∧ ∃ Y, RS v' (kp (fd (ks.map Bk.b))) Y ∧ ∃ K,
      Mem W W' ((pl, .cells (lgA p (nw (fd (ks.map Bk.b))).t (nw (fd (ks.map Bk.b))).c vr) lgT (0, 0)) :: (X ++ (Y ++ K))) := by
  have hf := lfits_any H
  rw [show (decide (4 ≤ ks.length) && decide (256 ≤ m)) = true by simp [hn, hm]] at hf
  have hfd := find_live H hG hd hn hm
  have HB : Hid (∀ x ∈ fd (ks.map Bk.b), x.r.length ≤ 1000000000) := by
    intro x hx
    rcases fd_mem hx with e | e <;> exact rd_len H.rows hm H.mhi (by rw [List.length_map]; exact H.top) e
  have HL := fd_len (ks.map Bk.b)
  generalize fd (ks.map Bk.b) = FD at *
  generalize hq : nw FD = q
  obtain ⟨qs, qt, qc, qr⟩ := q
  have HQ : Hid (nw FD = ⟨qs, qt, qc, qr⟩) := hq
  show Calls _ _ _ _ fun e W' => ∃ pl v', e = .returned (.tuple #[.pointer (some ⟨pl, 0, none⟩), v', .int .i64 0]) ∧ ∃ vr X, OwnV vr qr X ∧ ∃ Y, RS v' (kp FD) Y ∧ ∃ K, Mem W W' ((pl, .cells (lgA p qt qc vr) lgT (0, 0)) :: (X ++ (Y ++ K)))
  clear H hG hq
  go_enter Tryd.func14, Tryd.ntmps14
  go_wp2_with fail
  refine hf.mono ?_
  rintro e w' ⟨rfl, rfl⟩
  go_wp2_with fail
  refine hfd.mono ?_
  rintro e w2 ⟨v, rfl, l, hl, Y, hE, K, hM⟩
  have hll : l.length ≤ 2 := by rw [← List.length_map (f := Prod.fst), hl]; exact HL
  have hN := newest_any hE hM hll
  have hlb : ∀ x ∈ l, x.1.r.length ≤ 1000000000 := fun x hx => HB.out _ (by rw [← hl]; exact List.mem_map_of_mem hx)
  have hlast : ∃ X R, OwnV (lastE l).2 (lastE l).1.r X ∧ Y.Perm (X ++ R) := by
    rcases List.eq_nil_or_concat l with e | ⟨l', x, e⟩
    · subst e
      rcases hE with ⟨_, _, rfl⟩ | ⟨g, cap, cur, Xs, _, h0, _⟩
      · exact ⟨[], [], Or.inl ⟨rfl, rfl, rfl⟩, List.Perm.refl _⟩
      · simp at h0
    · subst e
      have : lastE (l'.concat x) = x := by simp [lastE]
      rw [this]
      exact es_own hE (by simp)
  obtain ⟨X, R, ho, pm⟩ := hlast
  have hnw := lastE_nw l
  rw [hl, HQ.out] at hnw
  have HKE : Hid (∀ V K', Mem w2 V K' → Calls Tryd.prog 31 #[v] V fun e W' => ∃ v', e = .returned v' ∧ ∃ Y', RS v' (kp FD) Y' ∧ ∃ K', Mem V W' (Y' ++ K')) := fun V K' hV => by
    have := kept_any hE (K := K ++ K') (by have := hM.join hV; rw [List.append_assoc] at this; exact this) hll hlb
    rwa [hl] at this
  have hM2 : Mem W w2 (X ++ (R ++ K)) := by
    have := hM.perm (pm.append_right K)
    rwa [List.append_assoc] at this
  rw [hnw] at hN ho
  generalize (lastE l).2 = lv at *
  obtain ⟨av, cv, ev, -⟩ := ho.shape
  subst ev
  have hN2 : Calls Tryd.prog 30 #[v] w2 fun e W' => e = .returned (.agg (enA qs qt qc (.slice av qr.length cv))) ∧ ∃ K', Mem w2 W' K' := hN
  have HO : Hid (OwnV (.slice av qr.length cv) qr X) := ho
  have HM2 : Hid (Mem W w2 (X ++ (R ++ K))) := hM2
  obtain ⟨ae, ce, ee⟩ := hE.shape
  subst ee
  clear hE hM hN ho pm hfd hf hnw hl hlb HL HB hM2 hll
  go_wp2_with fail
  refine hN2.mono ?_
  rintro e w3 ⟨rfl, K3, h3⟩
  go_upto_region 7 with fail
  refine wp_letter (fun V => Mem w2 V (K3 ++ [(w3.heap.size, .cells (enA qs qt qc (.slice av qr.length cv)) enT (0, 0))])) (h3.alloc _) ?_
  intro wx hx
  have kb : ∀ j, wx.cell? ⟨w3.heap.size, j, none⟩ = (enA qs qt qc (.slice av qr.length cv))[j]? := fun j => cell_of (hx.at_ (w3.heap.size, _) (List.mem_append_right _ (List.mem_singleton.mpr rfl))) j
  have k1 := kb 1
  have k2 := kb 2
  have k3 := kb 3
  simp at k1 k2 k3
  have hb7 : w3.heap.size < wx.heap.size := cell_lt k1
  have HX : Hid (Mem w2 wx (K3 ++ [(w3.heap.size, .cells (enA qs qt qc (.slice av qr.length cv)) enT (0, 0))])) := hx
  clear h3 hx kb hN2
  generalize w3.heap.size = b7 at *
  go_cut [2, 3, 4] from 8 (fun s2 s3 s4 wy => s4 = .int .i64 0 ∧ ∃ pl, s2 = .pointer (some ⟨pl, 0, none⟩) ∧ ∃ Y', RS s3 (kp FD) Y' ∧ ∃ K', Mem wx wy ((pl, .cells (lgA p qt qc (.slice av qr.length cv)) lgT (0, 0)) :: (Y' ++ K')))
  case first =>
    have HK0 : Hid (∀ V K', Mem wx V K' → Calls Tryd.prog 31 #[.slice ae l.length ce] V fun e W' => ∃ v', e = .returned v' ∧ ∃ Y', RS v' (kp FD) Y' ∧ ∃ K', Mem V W' (Y' ++ K')) := fun V K' hV => HKE.out V _ (HX.out.join hV)
    have hLG : ∀ (V : World), Mem V (V.alloc (.cells (lgA p qt qc (.slice av qr.length cv)) lgT)) [(V.heap.size, .cells (lgA p qt qc (.slice av qr.length cv)) lgT (0, 0))] := fun V => (Mem.nil V).push1 rfl
    have HLG : Hid (∀ (V : World), Mem V (V.alloc (.cells (lgA p qt qc (.slice av qr.length cv)) lgT)) [(V.heap.size, .cells (lgA p qt qc (.slice av qr.length cv)) lgT (0, 0))]) := hLG
    clear hLG
    have HKA : Hid (Calls Tryd.prog 31 #[.slice ae l.length ce] (wx.alloc (.cells (lgA p qt qc (.slice av qr.length cv)) lgT)).drew fun e W' => ∃ v', e = .returned v' ∧ ∃ Y', RS v' (kp FD) Y' ∧ ∃ K', Mem (wx.alloc (.cells (lgA p qt qc (.slice av qr.length cv)) lgT)).drew W' (Y' ++ K')) := HK0.out _ _ (HLG.out wx).drew
    have HKB : Hid (Calls Tryd.prog 31 #[.slice ae l.length ce] wx.drew fun e W' => ∃ v', e = .returned v' ∧ ∃ Y', RS v' (kp FD) Y' ∧ ∃ K', Mem wx.drew W' (Y' ++ K')) := HK0.out _ _ (Mem.nil wx).drew
    have HS : Hid (∀ V K, Mem wx V K → V.cell? ⟨b7, 1, none⟩ = some (.int .u64 qt) ∧ V.cell? ⟨b7, 2, none⟩ = some (.int .i64 qc) ∧ V.cell? ⟨b7, 3, none⟩ = some (.slice av qr.length cv)) := fun V K hV => ⟨(hV.old hb7).trans k1, (hV.old hb7).trans k2, (hV.old hb7).trans k3⟩
    clear HK0
    go_region_held3 (fun w' => w'.cell? ⟨b7, 1, none⟩ = some (.int .u64 qt) ∧ w'.cell? ⟨b7, 2, none⟩ = some (.int .i64 qc) ∧ w'.cell? ⟨b7, 3, none⟩ = some (.slice av qr.length cv))
      (first | go_keep | assumption | exact HS.out _ _ ((HLG.out wx).drew.join q5) | exact HS.out _ _ ((Mem.nil wx).drew.join q5) | exact HS.out _ _ ((HLG.out wx)))
      (first
        | (go_at_call 31; with_reducible refine HKA.out.mono ?_; rintro e w5 ⟨v5, rfl, Y5, r5, K5, q5⟩)
        | (go_at_call 31; with_reducible refine HKB.out.mono ?_; rintro e w5 ⟨v5, rfl, Y5, r5, K5, q5⟩))
    all_goals
      go_wp2_with fail
      go_meet
      case rel => first
        | exact ⟨rfl, wx.heap.size, rfl, Y5, r5, K5, (HLG.out wx).drew.join q5⟩
        | exact ⟨rfl, w5.heap.size, rfl, Y5, r5, K5, (((Mem.nil wx).drew.join q5).join (HLG.out w5)).perm List.perm_append_comm⟩
  case rest =>
    obtain ⟨rfl, pl, rfl, Y', hR, K', hM'⟩ := hcut
    have HE : Hid (Mem W wc ((pl, .cells (lgA p qt qc (.slice av qr.length cv)) lgT (0, 0)) :: (X ++ (Y' ++ (K' ++ (R ++ K ++ (K3 ++ [(b7, .cells (enA qs qt qc (.slice av qr.length cv)) enT (0, 0))]))))))) := by
      have h9 := (HM2.out.join HX.out).join hM'
      refine h9.perm ?_
      have e : ∀ (P : Nat × Obj) (A B C Y K : List (Nat × Obj)), ((A ++ B) ++ C ++ (P :: (Y ++ K))).Perm (P :: (A ++ (Y ++ (K ++ (B ++ C))))) := by
        intro P A B C Y K
        refine List.perm_middle.trans (List.Perm.cons P ?_)
        simp only [List.append_assoc]
        refine List.Perm.append_left A ?_
        have h1 : (B ++ (C ++ (Y ++ K))) = (B ++ C) ++ (Y ++ K) := by simp
        have h2 : (Y ++ (K ++ (B ++ C))) = (Y ++ K) ++ (B ++ C) := by simp
        rw [h1, h2]; exact List.perm_append_comm
      exact e _ _ _ _ _ _
    clear hM' HM2 HX HKE k1 k2 k3
    go_wp2
    exact bodyPost_ret (v := .tuple #[.pointer (some ⟨pl, 0, none⟩), u3, .int .i64 0]) (by simp [results, Tryd.results14, go_sem]) rfl ⟨pl, u3, rfl, _, X, HO.out, Y', hR, _, HE.out⟩
end
end Go.Proofs.YtbmpjlgfbiakoaaDoor
