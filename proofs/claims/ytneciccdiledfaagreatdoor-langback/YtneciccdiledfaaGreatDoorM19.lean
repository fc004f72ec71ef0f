/-
  Settings as bytes: a tenant in memory, as it is written, read, held against another.
  Settings as bytes: where a tenant's fields lie: the program's own functions in a list.
  Settings as bytes: the fields of a tenant, each as the program makes it.
  Settings as bytes: the program's tenant(): all fields of a tenant, in their order.
-/
import Derived.Test.YtneciccdiledfaaGreatDoorM18
import Derived.Test.YtneciccdiledfaaGreatDoorM15
import Derived.Test.YtneciccdiledfaaGreatDoorM16
import Derived.Test.YtneciccdiledfaaGreatDoorM14
namespace Go.Proofs.YtneciccdiledfaaGreatDoor
open Go.RowKit
open Sm
open Cf
set_option linter.unusedVariables false
set_option maxRecDepth 20000

/-- What is known of a tenant that comes in. -/
structure TIn (t : Ten) : Prop where
  len : TLen t
  key : IsBytes t.key
  vmac : IsBytes t.vmac
  host : IsBytes t.host
  name : t.name.size ≤ 1000000
  pool : t.pool.length ≤ 1000000
  stat : t.stat.length ≤ 1000000
  twi : t.twi.length ≤ 1000000
/-- A tenant that lies at a place, its lists the values r. -/
def IT : Rp Ten (Value × Value × Value) := fun t r V g off =>
  TIn t ∧ V.rangeAt g off (tc t r.1 r.2.1 r.2.2) ∧ Rw V 1 r.1 (ux t.pool) ∧ Rw V 2 r.2.1 (px t.stat) ∧ Rw V 2 r.2.2 (px t.twi)
/-- A list of the call's own, in a block of its own, or none. -/
def lv (h : Nat) : List (List Value) → Value
  | [] => nilV
  | x :: xs => .slice (some ⟨h, 0, none⟩) (x :: xs).length (x :: xs).length
def lb (h : Nat) (T : TypeId) : List (List Value) → List (Nat × Obj)
  | [] => []
  | x :: xs => [(h, .cells (x :: xs).flatten.toArray T (0, 0))]
/-- A tenant that is being read. -/
def JT : St' Ten := fun w t g T pre post V K => TLen t ∧ (t.pool.length ≤ 255 ∧ t.stat.length ≤ 255 ∧ t.twi.length ≤ 255) ∧ ∃ hp hs hq,
  Mem w V ((g, .cells (pre ++ (tc t (lv hp (ux t.pool)) (lv hs (px t.stat)) (lv hq (px t.twi)) ++ post)).toArray T (0, 0)) ::
    (lb hp 23 (ux t.pool) ++ (lb hs 96 (px t.stat) ++ (lb hq 96 (px t.twi) ++ K))))
theorem Mem.subl {w V : World} {L K : List (Nat × Obj)} (h : Mem w V L) (hs : K.Sublist L) : Mem w V K :=
  ⟨h.below, fun p hp => h.low p (hs.subset hp), fun p hp => h.at_ p (hs.subset hp), h.apart.sublist (hs.map _)⟩
theorem Mem.dropA {w V : World} {A K : List (Nat × Obj)} (h : Mem w V (A ++ K)) : Mem w V K := h.subl (List.sublist_append_right A K)
theorem lv_len {h : Nat} {xs ys : List (List Value)} (e : xs.length = ys.length) : lv h xs = lv h ys := by
  cases xs with
  | nil => cases ys with
    | nil => rfl
    | cons y ys => simp at e
  | cons x xs => cases ys with
    | nil => simp at e
    | cons y ys => simp only [lv, e]
theorem tset {t t' : Ten} {p s q p' s' q' : Value} {o : Nat} {v : Value} (h : TLen t) (e : ∀ n vn a b c d f g x y vt a1 b1 c1 d1 f1 g1 a2 b2 c2 d2 f2 g2 po lo hi fi st tw se qu ra bu,
    t = ⟨n, vn, [a, b, c, d, f, g, x, y], vt, [a1, b1, c1, d1, f1, g1], [a2, b2, c2, d2, f2, g2], po, lo, hi, fi, st, tw, se, qu, ra, bu⟩ → (tc t p s q).set o v = tc t' p' s' q') : (tc t p s q).set o v = tc t' p' s' q' := by
  obtain ⟨n, vn, key, vt, vm, ho, po, lo, hi, fi, st, tw, se, qu, ra, bu⟩ := t
  obtain ⟨h1, h2, h3⟩ := h
  obtain ⟨a, b, c, d, f, g, x, y, rfl⟩ := eight8 h1
  obtain ⟨a1, b1, c1, d1, f1, g1, rfl⟩ := six6 h2
  obtain ⟨a2, b2, c2, d2, f2, g2, rfl⟩ := six6 h3
  exact e n vn a b c d f g x y vt a1 b1 c1 d1 f1 g1 a2 b2 c2 d2 f2 g2 po lo hi fi st tw se qu ra bu rfl
theorem tget {t : Ten} {p s q : Value} {o : Nat} {v : Value} (h : TLen t) (e : ∀ n vn a b c d f g x y vt a1 b1 c1 d1 f1 g1 a2 b2 c2 d2 f2 g2 po lo hi fi st tw se qu ra bu,
    t = ⟨n, vn, [a, b, c, d, f, g, x, y], vt, [a1, b1, c1, d1, f1, g1], [a2, b2, c2, d2, f2, g2], po, lo, hi, fi, st, tw, se, qu, ra, bu⟩ → (tc t p s q)[o]? = some v) : (tc t p s q)[o]? = some v := by
  obtain ⟨n, vn, key, vt, vm, ho, po, lo, hi, fi, st, tw, se, qu, ra, bu⟩ := t
  obtain ⟨h1, h2, h3⟩ := h
  obtain ⟨a, b, c, d, f, g, x, y, rfl⟩ := eight8 h1
  obtain ⟨a1, b1, c1, d1, f1, g1, rfl⟩ := six6 h2
  obtain ⟨a2, b2, c2, d2, f2, g2, rfl⟩ := six6 h3
  exact e n vn a b c d f g x y vt a1 b1 c1 d1 f1 g1 a2 b2 c2 d2 f2 g2 po lo hi fi st tw se qu ra bu rfl
/-- One cell of a tenant that is being read. -/
theorem lens_T {β : Type} {w : World} (o : Nat) (ho : o < 33) (old : Ten → Value) (nv : β → Value) (fs : Ten → β → Ten) (hget : ∀ t p s q, TLen t → (tc t p s q)[o]? = some (old t)) (hset : ∀ t y p s q, TLen t → (tc t p s q).set o (nv y) = tc (fs t y) p s q)
    (hk : ∀ t y, TLen t → TLen (fs t y)) (hp : ∀ t y, (fs t y).pool = t.pool ∧ (fs t y).stat = t.stat ∧ (fs t y).twi = t.twi) :
    ∀ t g T pre post V K, JT w t g T pre post V K → ∃ A M, Lens w JT o t g T pre post V K M A ∧ A[pre.length + o]? = some (old t) ∧
      ∀ y V', Mem w V' ((g, .cells (A.setIfInBounds (pre.length + o) (nv y)) T (0, 0)) :: M) → JT w (fs t y) g T pre post V' K := by
  rintro t g T pre post V K ⟨hl, hb, hp', hs, hq, hM⟩
  refine ⟨_, _, ⟨hM, fun q hq => ?_, fun V' h => h.dropA.dropA.dropA⟩, get_mid _ _ _ o _ (hget _ _ _ _ hl), fun y V' hV => ?_⟩
  · exact List.mem_append_right _ (List.mem_append_right _ (List.mem_append_right _ hq))
  · rw [set_mid _ _ _ o _ (by rw [tc_len hl]; exact ho), hset _ _ _ _ _ hl] at hV
    obtain ⟨e1, e2, e3⟩ := hp t y
    refine ⟨hk t y hl, ⟨by rw [e1]; exact hb.1, by rw [e2]; exact hb.2.1, by rw [e3]; exact hb.2.2⟩, hp', hs, hq, ?_⟩
    rw [e1, e2, e3]
    exact hV
theorem spl_mid (pre a b c post : List Value) (y : List Int) (hb : b.length = y.length) : spl (pre ++ ((a ++ (b ++ c)) ++ post)).toArray (pre.length + a.length) y = (pre ++ ((a ++ (y.map (Value.int .u8) ++ c)) ++ post)).toArray := by
  unfold spl
  simp only [List.append_assoc]
  congr 1
  have e1 : (pre ++ (a ++ (b ++ (c ++ post)))).take (pre.length + a.length) = pre ++ a := by
    rw [← List.append_assoc]; exact List.take_left' (by simp)
  have e2 : (pre ++ (a ++ (b ++ (c ++ post)))).drop (pre.length + a.length + y.length) = c ++ post := by
    rw [← List.append_assoc, ← List.append_assoc]; exact List.drop_left' (by simp [hb]; omega)
  rw [e1, e2]
  simp only [List.append_assoc]
/-- An array of a tenant that is being read. -/
theorem lens_TO {w : World} (o n : Nat) (fs : Ten → List Int → Ten) (hcut : ∀ t p s q, TLen t → ∃ a b c, a.length = o ∧ b.length = n ∧ tc t p s q = a ++ (b ++ c) ∧ ∀ y, tc (fs t y) p s q = a ++ (y.map (Value.int .u8) ++ c))
    (hk : ∀ t y, y.length = n → TLen t → TLen (fs t y)) (hp : ∀ t y, (fs t y).pool = t.pool ∧ (fs t y).stat = t.stat ∧ (fs t y).twi = t.twi) :
    ∀ t g T pre post V K, JT w t g T pre post V K → ∃ A M, Lens w JT o t g T pre post V K M A ∧ pre.length + o + n ≤ A.size ∧
      ∀ y V', y.length = n → IsBytes y → Mem w V' ((g, .cells (spl A (pre.length + o) y) T (0, 0)) :: M) → JT w (fs t y) g T pre post V' K := by
  rintro t g T pre post V K ⟨hl, hb, hp', hs, hq, hM⟩
  obtain ⟨a, b, c, ha, hbn, e, hfs⟩ := hcut t (lv hp' (ux t.pool)) (lv hs (px t.stat)) (lv hq (px t.twi)) hl
  refine ⟨_, _, ⟨hM, fun q hq => ?_, fun V' h => h.dropA.dropA.dropA⟩, ?_, fun y V' hy _ hV => ?_⟩
  · exact List.mem_append_right _ (List.mem_append_right _ (List.mem_append_right _ hq))
  · rw [e]; simp [ha, hbn]; omega
  · rw [e, ← ha, spl_mid pre a b c post y (by omega), ← hfs y] at hV
    obtain ⟨e1, e2, e3⟩ := hp t y
    refine ⟨hk t y hy hl, ⟨by rw [e1]; exact hb.1, by rw [e2]; exact hb.2.1, by rw [e3]; exact hb.2.2⟩, hp', hs, hq, ?_⟩
    rw [e1, e2, e3]
    exact hV
theorem made_U (m : Nat) (hm : 0 < m) : madeCells (Value.int .u32 0).cells (m * 1) = (ux (List.replicate m 0)).flatten.toArray := by
  apply Array.toList_inj.mp
  have := madeCells_flat (Value.int .u32 0).cells m (by decide)
  rw [show (Value.int IntKind.u32 0).cells.size = 1 from rfl] at this
  rw [this]
  simp [ux, Value.cells]
theorem made_P (m : Nat) (hm : 0 < m) : madeCells (Value.agg #[.int .u32 0, .int .u32 0]).cells (m * 2) = (px (List.replicate m (0, 0))).flatten.toArray := by
  apply Array.toList_inj.mp
  have := madeCells_flat (Value.agg #[.int .u32 0, .int .u32 0]).cells m (by decide)
  rw [show (Value.agg #[Value.int .u32 0, .int .u32 0]).cells.size = 2 from rfl] at this
  rw [this]
  simp [px, Value.cells]
theorem lb_one {h : Nat} {T : TypeId} {xs : List (List Value)} (e : xs ≠ []) : lb h T xs = [(h, .cells xs.flatten.toArray T (0, 0))] := by
  cases xs with
  | nil => exact absurd rfl e
  | cons x xs => rfl
theorem lv_one {h : Nat} {xs : List (List Value)} (e : xs ≠ []) : lv h xs = .slice (some ⟨h, 0, none⟩) xs.length xs.length := by
  cases xs with
  | nil => exact absurd rfl e
  | cons x xs => rfl
def set_pool (t : Ten) (m : Nat) : Ten := if m = 0 then t else { t with pool := List.replicate m 0 }
theorem lens_Cpool {w : World} : ∀ t g T pre post V K, JT w t g T pre post V K → ∃ A M y, Lens w JT 23 t g T pre post V K M A ∧ A[pre.length + 23]? = some y ∧
      ∀ m V', m ≤ 255 → CMade_TU w V' g A T (pre.length + 23) M m → JT w (set_pool t m) g T pre post V' K := by
  rintro t g T pre post V K ⟨hl, hb, hp, hs, hq, hM⟩
  refine ⟨_, _, _, ⟨hM, fun q hq => ?_, fun V' h => h.dropA.dropA.dropA⟩, get_mid _ _ _ 23 _ (tget (v := lv hp (ux t.pool)) hl (by rintro n vn a b c d f g x y vt a1 b1 c1 d1 f1 g1 a2 b2 c2 d2 f2 g2 po lo hi fi st tw se qu ra bu rfl; rfl)), fun m V' hm hV => ?_⟩
  · exact List.mem_append_right _ (List.mem_append_right _ (List.mem_append_right _ hq))
  · rcases hV with ⟨rfl, hV⟩ | ⟨h0, h, hV⟩
    · exact ⟨hl, hb, hp, hs, hq, hV⟩
    · have hne : ux (List.replicate m 0) ≠ [] := by
        cases m with
        | zero => omega
        | succ m => simp [ux, List.replicate_succ]
      have hlen : (ux (List.replicate m 0)).length = m := by simp [ux]
      rw [set_mid _ _ _ 23 _ (by rw [tc_len hl]; omega), made_U m h0] at hV
      unfold set_pool
      rw [if_neg (by omega)]
      refine ⟨⟨hl.key, hl.vmac, hl.host⟩, ?_, h, hs, hq, ?_⟩
      · simp only [List.length_replicate]; exact ⟨hm, hb.2.1, hb.2.2⟩
      · have e : (tc t (lv hp (ux t.pool)) (lv hs (px t.stat)) (lv hq (px t.twi))).set 23 (.slice (some ⟨h, 0, none⟩) m m) = tc { t with pool := List.replicate m 0 } (lv h (ux (List.replicate m 0))) (lv hs (px t.stat)) (lv hq (px t.twi)) := by
          rw [lv_one hne, hlen]
          exact tset hl (by rintro n vn a b c d f g x y vt a1 b1 c1 d1 f1 g1 a2 b2 c2 d2 f2 g2 po lo hi fi st tw se qu ra bu rfl; rfl)
        rw [e] at hV
        simp only at hV ⊢
        rw [lb_one hne]
        exact hV.subl ((List.sublist_append_right _ _).cons_cons _ |>.cons_cons _)
theorem lens_Ipool {w : World} : ∀ t g T pre post V K, JT w t g T pre post V K → t.pool.length ≤ 255 ∧ ∃ hb M sa sc, (0 < t.pool.length → sa = some ⟨hb, 0, none⟩) ∧ Sub K M ∧ (∀ V', Mem w V' M → Mem w V' K) ∧ V.cell? ⟨g, pre.length + 23, none⟩ = some (.slice sa t.pool.length sc) ∧
      IMU w hb M V t.pool ∧ ∀ ys V', ys.length = t.pool.length → IMU w hb M V' ys → JT w { t with pool := ys } g T pre post V' K := by
  rintro t g T pre post V K ⟨hl, hb, hp, hs, hq, hM⟩
  have hcell : V.cell? ⟨g, pre.length + 23, none⟩ = some (lv hp (ux t.pool)) := by
    rw [hM.cell 0 rfl]
    exact get_mid _ _ _ 23 _ (tget hl (by rintro n vn a b c d f g x y vt a1 b1 c1 d1 f1 g1 a2 b2 c2 d2 f2 g2 po lo hi fi st tw se qu ra bu rfl; rfl))
  have hlen : ∀ l, (ux l).length = l.length := by intro l; simp [ux]
  have hnil : ∀ l, ux l = [] ↔ l = [] := by intro l; simp [ux]
  obtain ⟨G, hG⟩ : ∃ G : Nat × Obj, G = (g, .cells (pre ++ (tc t (lv hp (ux t.pool)) (lv hs (px t.stat)) (lv hq (px t.twi)) ++ post)).toArray T (0, 0)) := ⟨_, rfl⟩
  rw [← hG] at hM
  have hMp : Mem w V (lb hp 23 (ux t.pool) ++ (G :: ((lb hs 96 (px t.stat)) ++ ((lb hq 96 (px t.twi)) ++ K)))) := hM.perm (List.perm_middle (l₁ := _)).symm
  have hpm : ∀ ys V', ys.length = t.pool.length → Mem w V' (lb hp 23 (ux ys) ++ (G :: ((lb hs 96 (px t.stat)) ++ ((lb hq 96 (px t.twi)) ++ K)))) → JT w { t with pool := ys } g T pre post V' K := by
    intro ys V' hy hV
    refine ⟨⟨hl.key, hl.vmac, hl.host⟩, ⟨by rw [hy]; exact hb.1, hb.2.1, hb.2.2⟩, hp, hs, hq, ?_⟩
    have e : lv hp (ux ys) = lv hp (ux t.pool) := lv_len (by rw [hlen, hlen, hy])
    have e2 : tc { t with pool := ys } (lv hp (ux ys)) (lv hs (px t.stat)) (lv hq (px t.twi)) = tc t (lv hp (ux t.pool)) (lv hs (px t.stat)) (lv hq (px t.twi)) := by rw [e]; rfl
    simp only at e2 ⊢
    rw [e2, ← hG]
    exact hV.perm (List.perm_middle (l₁ := _))
  by_cases h0 : t.pool = []
  · refine ⟨hb.1, hp, (G :: ((lb hs 96 (px t.stat)) ++ ((lb hq 96 (px t.twi)) ++ K))), none, 0, fun h => by rw [h0] at h; simp at h, ?_, fun V' h => h.sub.dropA.dropA, ?_, ?_, ?_⟩
    · exact fun q hq => List.mem_cons_of_mem _ (List.mem_append_right _ (List.mem_append_right _ hq))
    · rw [hcell, (hnil _).mpr h0, h0]; rfl
    · unfold IMU; rw [if_pos h0]; rw [(hnil _).mpr h0] at hMp; exact hMp
    · intro ys V' hy hV
      have hy0 : ys = [] := by rw [h0] at hy; exact List.eq_nil_of_length_eq_zero hy
      unfold IMU at hV
      rw [if_pos hy0] at hV
      refine hpm ys V' hy ?_
      rw [(hnil _).mpr hy0]
      exact hV
  · have hne : ux t.pool ≠ [] := fun e => h0 ((hnil _).mp e)
    refine ⟨hb.1, hp, (G :: ((lb hs 96 (px t.stat)) ++ ((lb hq 96 (px t.twi)) ++ K))), some ⟨hp, 0, none⟩, t.pool.length, fun _ => rfl, ?_, fun V' h => h.sub.dropA.dropA, ?_, ?_, ?_⟩
    · exact fun q hq => List.mem_cons_of_mem _ (List.mem_append_right _ (List.mem_append_right _ hq))
    · rw [hcell, lv_one hne, hlen]
    · unfold IMU; rw [if_neg h0]; rw [lb_one hne] at hMp; exact hMp
    · intro ys V' hy hV
      have hy0 : ys ≠ [] := by rintro rfl; simp at hy; exact h0 (List.eq_nil_of_length_eq_zero hy.symm)
      unfold IMU at hV
      rw [if_neg hy0] at hV
      refine hpm ys V' hy ?_
      rw [lb_one (fun e => hy0 ((hnil _).mp e))]
      exact hV
def set_stat (t : Ten) (m : Nat) : Ten := if m = 0 then t else { t with stat := List.replicate m (0, 0) }
theorem lens_Cstat {w : World} : ∀ t g T pre post V K, JT w t g T pre post V K → ∃ A M y, Lens w JT 27 t g T pre post V K M A ∧ A[pre.length + 27]? = some y ∧
      ∀ m V', m ≤ 255 → CMade_TP w V' g A T (pre.length + 27) M m → JT w (set_stat t m) g T pre post V' K := by
  rintro t g T pre post V K ⟨hl, hb, hp, hs, hq, hM⟩
  refine ⟨_, _, _, ⟨hM, fun q hq => ?_, fun V' h => h.dropA.dropA.dropA⟩, get_mid _ _ _ 27 _ (tget (v := lv hs (px t.stat)) hl (by rintro n vn a b c d f g x y vt a1 b1 c1 d1 f1 g1 a2 b2 c2 d2 f2 g2 po lo hi fi st tw se qu ra bu rfl; rfl)), fun m V' hm hV => ?_⟩
  · exact List.mem_append_right _ (List.mem_append_right _ (List.mem_append_right _ hq))
  · rcases hV with ⟨rfl, hV⟩ | ⟨h0, h, hV⟩
    · exact ⟨hl, hb, hp, hs, hq, hV⟩
    · have hne : px (List.replicate m (0, 0)) ≠ [] := by
        cases m with
        | zero => omega
        | succ m => simp [px, List.replicate_succ]
      have hlen : (px (List.replicate m (0, 0))).length = m := by simp [px]
      rw [set_mid _ _ _ 27 _ (by rw [tc_len hl]; omega), made_P m h0] at hV
      unfold set_stat
      rw [if_neg (by omega)]
      refine ⟨⟨hl.key, hl.vmac, hl.host⟩, ?_, hp, h, hq, ?_⟩
      · simp only [List.length_replicate]; exact ⟨hb.1, hm, hb.2.2⟩
      · have e : (tc t (lv hp (ux t.pool)) (lv hs (px t.stat)) (lv hq (px t.twi))).set 27 (.slice (some ⟨h, 0, none⟩) m m) = tc { t with stat := List.replicate m (0, 0) } (lv hp (ux t.pool)) (lv h (px (List.replicate m (0, 0)))) (lv hq (px t.twi)) := by
          rw [lv_one hne, hlen]
          exact tset hl (by rintro n vn a b c d f g x y vt a1 b1 c1 d1 f1 g1 a2 b2 c2 d2 f2 g2 po lo hi fi st tw se qu ra bu rfl; rfl)
        rw [e] at hV
        simp only at hV ⊢
        rw [lb_one hne]
        exact (hV.subl ((((List.sublist_append_right _ _).append_left _).cons_cons _).cons_cons _)).perm ((List.perm_middle (l₁ := _)).symm.cons _)
theorem lens_Istat {w : World} : ∀ t g T pre post V K, JT w t g T pre post V K → t.stat.length ≤ 255 ∧ ∃ hb M sa sc, (0 < t.stat.length → sa = some ⟨hb, 0, none⟩) ∧ Sub K M ∧ (∀ V', Mem w V' M → Mem w V' K) ∧ V.cell? ⟨g, pre.length + 27, none⟩ = some (.slice sa t.stat.length sc) ∧
      IMP w hb M V t.stat ∧ ∀ ys V', ys.length = t.stat.length → IMP w hb M V' ys → JT w { t with stat := ys } g T pre post V' K := by
  rintro t g T pre post V K ⟨hl, hb, hp, hs, hq, hM⟩
  have hcell : V.cell? ⟨g, pre.length + 27, none⟩ = some (lv hs (px t.stat)) := by
    rw [hM.cell 0 rfl]
    exact get_mid _ _ _ 27 _ (tget hl (by rintro n vn a b c d f g x y vt a1 b1 c1 d1 f1 g1 a2 b2 c2 d2 f2 g2 po lo hi fi st tw se qu ra bu rfl; rfl))
  have hlen : ∀ l, (px l).length = l.length := by intro l; simp [px]
  have hnil : ∀ l, px l = [] ↔ l = [] := by intro l; simp [px]
  obtain ⟨G, hG⟩ : ∃ G : Nat × Obj, G = (g, .cells (pre ++ (tc t (lv hp (ux t.pool)) (lv hs (px t.stat)) (lv hq (px t.twi)) ++ post)).toArray T (0, 0)) := ⟨_, rfl⟩
  rw [← hG] at hM
  have hMp : Mem w V (lb hs 96 (px t.stat) ++ (G :: ((lb hp 23 (ux t.pool)) ++ ((lb hq 96 (px t.twi)) ++ K)))) := hM.perm (by
    refine List.Perm.trans ((List.perm_append_comm_assoc _ _ _).cons _) ?_
    exact (List.perm_middle (l₁ := _)).symm)
  have hpm : ∀ ys V', ys.length = t.stat.length → Mem w V' (lb hs 96 (px ys) ++ (G :: ((lb hp 23 (ux t.pool)) ++ ((lb hq 96 (px t.twi)) ++ K)))) → JT w { t with stat := ys } g T pre post V' K := by
    intro ys V' hy hV
    refine ⟨⟨hl.key, hl.vmac, hl.host⟩, ⟨hb.1, by rw [hy]; exact hb.2.1, hb.2.2⟩, hp, hs, hq, ?_⟩
    have e : lv hs (px ys) = lv hs (px t.stat) := lv_len (by rw [hlen, hlen, hy])
    have e2 : tc { t with stat := ys } (lv hp (ux t.pool)) (lv hs (px ys)) (lv hq (px t.twi)) = tc t (lv hp (ux t.pool)) (lv hs (px t.stat)) (lv hq (px t.twi)) := by rw [e]; rfl
    simp only at e2 ⊢
    rw [e2, ← hG]
    exact hV.perm (by
      refine List.Perm.trans (List.perm_middle (l₁ := _)) ?_
      exact (List.perm_append_comm_assoc _ _ _).cons _)
  by_cases h0 : t.stat = []
  · refine ⟨hb.2.1, hs, (G :: ((lb hp 23 (ux t.pool)) ++ ((lb hq 96 (px t.twi)) ++ K))), none, 0, fun h => by rw [h0] at h; simp at h, ?_, fun V' h => h.sub.dropA.dropA, ?_, ?_, ?_⟩
    · exact fun q hq => List.mem_cons_of_mem _ (List.mem_append_right _ (List.mem_append_right _ hq))
    · rw [hcell, (hnil _).mpr h0, h0]; rfl
    · unfold IMP; rw [if_pos h0]; rw [(hnil _).mpr h0] at hMp; exact hMp
    · intro ys V' hy hV
      have hy0 : ys = [] := by rw [h0] at hy; exact List.eq_nil_of_length_eq_zero hy
      unfold IMP at hV
      rw [if_pos hy0] at hV
      refine hpm ys V' hy ?_
      rw [(hnil _).mpr hy0]
      exact hV
  · have hne : px t.stat ≠ [] := fun e => h0 ((hnil _).mp e)
    refine ⟨hb.2.1, hs, (G :: ((lb hp 23 (ux t.pool)) ++ ((lb hq 96 (px t.twi)) ++ K))), some ⟨hs, 0, none⟩, t.stat.length, fun _ => rfl, ?_, fun V' h => h.sub.dropA.dropA, ?_, ?_, ?_⟩
    · exact fun q hq => List.mem_cons_of_mem _ (List.mem_append_right _ (List.mem_append_right _ hq))
    · rw [hcell, lv_one hne, hlen]
    · unfold IMP; rw [if_neg h0]; rw [lb_one hne] at hMp; exact hMp
    · intro ys V' hy hV
      have hy0 : ys ≠ [] := by rintro rfl; simp at hy; exact h0 (List.eq_nil_of_length_eq_zero hy.symm)
      unfold IMP at hV
      rw [if_neg hy0] at hV
      refine hpm ys V' hy ?_
      rw [lb_one (fun e => hy0 ((hnil _).mp e))]
      exact hV
def set_twi (t : Ten) (m : Nat) : Ten := if m = 0 then t else { t with twi := List.replicate m (0, 0) }
theorem lens_Ctwi {w : World} : ∀ t g T pre post V K, JT w t g T pre post V K → ∃ A M y, Lens w JT 28 t g T pre post V K M A ∧ A[pre.length + 28]? = some y ∧
      ∀ m V', m ≤ 255 → CMade_TP w V' g A T (pre.length + 28) M m → JT w (set_twi t m) g T pre post V' K := by
  rintro t g T pre post V K ⟨hl, hb, hp, hs, hq, hM⟩
  refine ⟨_, _, _, ⟨hM, fun q hq => ?_, fun V' h => h.dropA.dropA.dropA⟩, get_mid _ _ _ 28 _ (tget (v := lv hq (px t.twi)) hl (by rintro n vn a b c d f g x y vt a1 b1 c1 d1 f1 g1 a2 b2 c2 d2 f2 g2 po lo hi fi st tw se qu ra bu rfl; rfl)), fun m V' hm hV => ?_⟩
  · exact List.mem_append_right _ (List.mem_append_right _ (List.mem_append_right _ hq))
  · rcases hV with ⟨rfl, hV⟩ | ⟨h0, h, hV⟩
    · exact ⟨hl, hb, hp, hs, hq, hV⟩
    · have hne : px (List.replicate m (0, 0)) ≠ [] := by
        cases m with
        | zero => omega
        | succ m => simp [px, List.replicate_succ]
      have hlen : (px (List.replicate m (0, 0))).length = m := by simp [px]
      rw [set_mid _ _ _ 28 _ (by rw [tc_len hl]; omega), made_P m h0] at hV
      unfold set_twi
      rw [if_neg (by omega)]
      refine ⟨⟨hl.key, hl.vmac, hl.host⟩, ?_, hp, hs, h, ?_⟩
      · simp only [List.length_replicate]; exact ⟨hb.1, hb.2.1, hm⟩
      · have e : (tc t (lv hp (ux t.pool)) (lv hs (px t.stat)) (lv hq (px t.twi))).set 28 (.slice (some ⟨h, 0, none⟩) m m) = tc { t with twi := List.replicate m (0, 0) } (lv hp (ux t.pool)) (lv hs (px t.stat)) (lv h (px (List.replicate m (0, 0)))) := by
          rw [lv_one hne, hlen]
          exact tset hl (by rintro n vn a b c d f g x y vt a1 b1 c1 d1 f1 g1 a2 b2 c2 d2 f2 g2 po lo hi fi st tw se qu ra bu rfl; rfl)
        rw [e] at hV
        simp only at hV ⊢
        rw [lb_one hne]
        refine Mem.perm (hV.subl (((((List.sublist_append_right _ _).append_left _).append_left _).cons_cons _).cons_cons _)) ?_
        refine List.Perm.cons _ ?_
        refine List.Perm.trans ?_ ((List.perm_middle (l₁ := _)).symm.append_left _)
        exact (List.perm_middle (l₁ := _)).symm
theorem lens_Itwi {w : World} : ∀ t g T pre post V K, JT w t g T pre post V K → t.twi.length ≤ 255 ∧ ∃ hb M sa sc, (0 < t.twi.length → sa = some ⟨hb, 0, none⟩) ∧ Sub K M ∧ (∀ V', Mem w V' M → Mem w V' K) ∧ V.cell? ⟨g, pre.length + 28, none⟩ = some (.slice sa t.twi.length sc) ∧
      IMP w hb M V t.twi ∧ ∀ ys V', ys.length = t.twi.length → IMP w hb M V' ys → JT w { t with twi := ys } g T pre post V' K := by
  rintro t g T pre post V K ⟨hl, hb, hp, hs, hq, hM⟩
  have hcell : V.cell? ⟨g, pre.length + 28, none⟩ = some (lv hq (px t.twi)) := by
    rw [hM.cell 0 rfl]
    exact get_mid _ _ _ 28 _ (tget hl (by rintro n vn a b c d f g x y vt a1 b1 c1 d1 f1 g1 a2 b2 c2 d2 f2 g2 po lo hi fi st tw se qu ra bu rfl; rfl))
  have hlen : ∀ l, (px l).length = l.length := by intro l; simp [px]
  have hnil : ∀ l, px l = [] ↔ l = [] := by intro l; simp [px]
  obtain ⟨G, hG⟩ : ∃ G : Nat × Obj, G = (g, .cells (pre ++ (tc t (lv hp (ux t.pool)) (lv hs (px t.stat)) (lv hq (px t.twi)) ++ post)).toArray T (0, 0)) := ⟨_, rfl⟩
  rw [← hG] at hM
  have hMp : Mem w V (lb hq 96 (px t.twi) ++ (G :: ((lb hp 23 (ux t.pool)) ++ ((lb hs 96 (px t.stat)) ++ K)))) := hM.perm (by
    refine List.Perm.trans (((List.perm_append_comm_assoc _ _ _).append_left _).cons _) ?_
    refine List.Perm.trans ((List.perm_append_comm_assoc _ _ _).cons _) ?_
    exact (List.perm_middle (l₁ := _)).symm)
  have hpm : ∀ ys V', ys.length = t.twi.length → Mem w V' (lb hq 96 (px ys) ++ (G :: ((lb hp 23 (ux t.pool)) ++ ((lb hs 96 (px t.stat)) ++ K)))) → JT w { t with twi := ys } g T pre post V' K := by
    intro ys V' hy hV
    refine ⟨⟨hl.key, hl.vmac, hl.host⟩, ⟨hb.1, hb.2.1, by rw [hy]; exact hb.2.2⟩, hp, hs, hq, ?_⟩
    have e : lv hq (px ys) = lv hq (px t.twi) := lv_len (by rw [hlen, hlen, hy])
    have e2 : tc { t with twi := ys } (lv hp (ux t.pool)) (lv hs (px t.stat)) (lv hq (px ys)) = tc t (lv hp (ux t.pool)) (lv hs (px t.stat)) (lv hq (px t.twi)) := by rw [e]; rfl
    simp only at e2 ⊢
    rw [e2, ← hG]
    exact hV.perm (by
      refine List.Perm.trans (List.perm_middle (l₁ := _)) ?_
      refine List.Perm.cons _ ?_
      refine List.Perm.trans (List.perm_append_comm_assoc _ _ _) ?_
      exact (List.perm_append_comm_assoc _ _ _).append_left _)
  by_cases h0 : t.twi = []
  · refine ⟨hb.2.2, hq, (G :: ((lb hp 23 (ux t.pool)) ++ ((lb hs 96 (px t.stat)) ++ K))), none, 0, fun h => by rw [h0] at h; simp at h, ?_, fun V' h => h.sub.dropA.dropA, ?_, ?_, ?_⟩
    · exact fun q hq => List.mem_cons_of_mem _ (List.mem_append_right _ (List.mem_append_right _ hq))
    · rw [hcell, (hnil _).mpr h0, h0]; rfl
    · unfold IMP; rw [if_pos h0]; rw [(hnil _).mpr h0] at hMp; exact hMp
    · intro ys V' hy hV
      have hy0 : ys = [] := by rw [h0] at hy; exact List.eq_nil_of_length_eq_zero hy
      unfold IMP at hV
      rw [if_pos hy0] at hV
      refine hpm ys V' hy ?_
      rw [(hnil _).mpr hy0]
      exact hV
  · have hne : px t.twi ≠ [] := fun e => h0 ((hnil _).mp e)
    refine ⟨hb.2.2, hq, (G :: ((lb hp 23 (ux t.pool)) ++ ((lb hs 96 (px t.stat)) ++ K))), some ⟨hq, 0, none⟩, t.twi.length, fun _ => rfl, ?_, fun V' h => h.sub.dropA.dropA, ?_, ?_, ?_⟩
    · exact fun q hq => List.mem_cons_of_mem _ (List.mem_append_right _ (List.mem_append_right _ hq))
    · rw [hcell, lv_one hne, hlen]
    · unfold IMP; rw [if_neg h0]; rw [lb_one hne] at hMp; exact hMp
    · intro ys V' hy hV
      have hy0 : ys ≠ [] := by rintro rfl; simp at hy; exact h0 (List.eq_nil_of_length_eq_zero hy.symm)
      unfold IMP at hV
      rw [if_neg hy0] at hV
      refine hpm ys V' hy ?_
      rw [lb_one (fun e => hy0 ((hnil _).mp e))]
      exact hV
end Go.Proofs.YtneciccdiledfaaGreatDoor

namespace Go.Proofs.YtneciccdiledfaaGreatDoor
open Go.RowKit
open Sm
open Cf
set_option linter.unusedVariables false
set_option maxRecDepth 20000

end Go.Proofs.YtneciccdiledfaaGreatDoor

namespace Go.Proofs.YtneciccdiledfaaGreatDoor
open Go.RowKit
open Sm
open Cf
set_option linter.unusedVariables false
set_option maxRecDepth 20000

theorem fits16 : ∀ q, 0 ≤ q → q < 256 ^ 2 → IntKind.u16.wrap q = q := fun q h0 h1 => wrap16_small q h0 (by omega)
theorem fits64 (n : Nat) (hn : n ≤ 4) : ∀ q, 0 ≤ q → q < 256 ^ n → IntKind.i64.wrap q = q := by
  intro q h0 h1
  refine wrap64n (by omega) ?_
  have : (256 : Int) ^ n ≤ 256 ^ 4 := by
    match n, hn with
    | 0, _ => decide
    | 1, _ => decide
    | 2, _ => decide
    | 3, _ => decide
    | 4, _ => decide
  have e : (256 : Int) ^ 4 = 4294967296 := by decide
  omega
def ttl (t : Ten) (p s q : Value) : List Value := [p, .int .u16 t.lo, .int .u16 t.hi, .int .i64 t.filter, s, q, .int .i64 t.sess, .int .i64 t.queue, .int .u32 t.rate, .int .u32 t.burst]
theorem swap_front {p a : Nat × Obj} {E L : List (Nat × Obj)} {w V : World} (h : Mem w V (a :: p :: (E ++ L))) : Mem w V (p :: ((a :: E) ++ L)) := h.perm (List.Perm.swap _ _ _)
theorem swap_front2 {p a b : Nat × Obj} {E L : List (Nat × Obj)} {w V : World} (h : Mem w V (a :: b :: p :: (E ++ L))) : Mem w V (p :: ((a :: b :: E) ++ L)) :=
  h.perm (by refine List.Perm.trans ((List.Perm.swap p b _).cons a) ?_; exact List.Perm.swap p a _)
theorem swap_app {p : Nat × Obj} {A E L : List (Nat × Obj)} {w V : World} (h : Mem w V (A ++ (p :: (E ++ L)))) : Mem w V (p :: ((A ++ E) ++ L)) :=
  h.perm (by rw [List.append_assoc]; exact List.perm_middle (l₁ := A))
theorem IT.cell {t : Ten} {r : Value × Value × Value} {V : World} {g off : Nat} (h : IT t r V g off) (o : Nat) {v : Value} (hv : (tc t r.1 r.2.1 r.2.2)[o]? = some v) : V.cell? ⟨g, off + o, none⟩ = some v := h.2.1 o v hv
theorem IT.row {t : Ten} {r : Value × Value × Value} {V : World} {g off : Nat} (h : IT t r V g off) (o : Nat) (x : List Int) (hb : IsBytes x) (hx : x.length ≤ 1000) (a c : List Value) (ha : a.length = o) (e : tc t r.1 r.2.1 r.2.2 = a ++ (x.map (Value.int .u8) ++ c)) :
    Row V (some ⟨g, off + o, none⟩) x := by
  refine ⟨hb, by omega, Or.inr ⟨g, off + o, rfl, fun i hi => ?_⟩⟩
  have := h.2.1 (o + i) (.int .u8 (x.getD i 0)) (by
    rw [e, List.getElem?_append_right (by omega), List.getElem?_append_left (by simp; omega), ha, Nat.add_sub_cancel_left]
    simp [hi])
  rw [Nat.add_assoc]; exact this
def spName : Sp Ten := spTxt (fun t => t.name) (fun t y => { t with name := y })
def spVni : Sp Ten := spNum 4 (fun t => t.vni) (fun t y => { t with vni := y })
def spKey : Sp Ten := spOct 8 (fun t => t.key) (fun t y => { t with key := y })
def spVtep : Sp Ten := spNum 4 (fun t => t.vtep) (fun t y => { t with vtep := y })
def spVtepMac : Sp Ten := spOct 6 (fun t => t.vmac) (fun t y => { t with vmac := y })
def spHost : Sp Ten := spOct 6 (fun t => t.host) (fun t y => { t with host := y })
def spLo : Sp Ten := spNum 2 (fun t => t.lo) (fun t y => { t with lo := y })
def spHi : Sp Ten := spNum 2 (fun t => t.hi) (fun t y => { t with hi := y })
def spFilter : Sp Ten := spNum 1 (fun t => t.filter) (fun t y => { t with filter := y })
def spSess : Sp Ten := spNum 2 (fun t => t.sess) (fun t y => { t with sess := y })
def spQueue : Sp Ten := spNum 2 (fun t => t.queue) (fun t y => { t with queue := y })
def spRate : Sp Ten := spNum 4 (fun t => t.rate) (fun t y => { t with rate := y })
def spBurst : Sp Ten := spNum 4 (fun t => t.burst) (fun t y => { t with burst := y })
def spPool : Sp Ten := spCnt (fun t => t.pool.length) set_pool
def spStatics : Sp Ten := spCnt (fun t => t.stat.length) set_stat
def spTwices : Sp Ten := spCnt (fun t => t.twi.length) set_twi
def spPoolI : Sp Ten := spItm 0 spU (fun t => t.pool) (fun t y => { t with pool := y })
def spStaticsI : Sp Ten := spItm (0, 0) spP (fun t => t.stat) (fun t y => { t with stat := y })
def spTwicesI : Sp Ten := spItm (0, 0) spP (fun t => t.twi) (fun t y => { t with twi := y })
/-- A tenant's fields, in their order. -/
def tsp : List (Sp Ten) := [spName, spVni, spKey, spVtep, spVtepMac, spHost, spLo, spHi, spFilter, spSess, spQueue, spRate, spBurst, spPool, spStatics, spTwices, spPoolI, spStaticsI, spTwicesI]
def spT : Sp Ten := spAll tsp
end Go.Proofs.YtneciccdiledfaaGreatDoor

namespace Go.Proofs.YtneciccdiledfaaGreatDoor
open Go.RowKit
open Sm
open Cf
set_option linter.unusedVariables false
set_option maxRecDepth 20000

end Go.Proofs.YtneciccdiledfaaGreatDoor

