/-
  Settings as bytes: where a tenant's fields lie: the program's own functions in a list.
  Settings as bytes: a tenant in memory, as it is written, read, held against another.
  Settings as bytes: the fields of a tenant, each as the program makes it.
-/
import Derived.Test.YtbccadbnaggkhaaGreatKE13
import Derived.Test.YtbccadbnaggkhaaGreatKE11
import Derived.Test.YtbccadbnaggkhaaGreatKE10
namespace Go.Proofs.YtbccadbnaggkhaaGreat
open Go.RowKit
open Sm
open Cf
set_option linter.unusedVariables false
set_option maxRecDepth 20000

theorem acc_Name (V : World) (g off : Nat) : Calls Tryz.prog 43 #[.pointer (some ⟨g, off, none⟩)] V fun e V' => e = .returned (.pointer (some ⟨g, off + 0, none⟩)) ∧ V = V' := by
  go_enter Tryz.func43, Tryz.ntmps43
  go_wp2
  go_ret
  exact ⟨rfl, rfl⟩
theorem acc_Vni (V : World) (g off : Nat) : Calls Tryz.prog 45 #[.pointer (some ⟨g, off, none⟩)] V fun e V' => e = .returned (.pointer (some ⟨g, off + 1, none⟩)) ∧ V = V' := by
  go_enter Tryz.func45, Tryz.ntmps45
  go_wp2
  go_ret
  exact ⟨rfl, rfl⟩
theorem acc_Vtep (V : World) (g off : Nat) : Calls Tryz.prog 48 #[.pointer (some ⟨g, off, none⟩)] V fun e V' => e = .returned (.pointer (some ⟨g, off + 10, none⟩)) ∧ V = V' := by
  go_enter Tryz.func48, Tryz.ntmps48
  go_wp2
  go_ret
  exact ⟨rfl, rfl⟩
theorem acc_Lo (V : World) (g off : Nat) : Calls Tryz.prog 52 #[.pointer (some ⟨g, off, none⟩)] V fun e V' => e = .returned (.pointer (some ⟨g, off + 24, none⟩)) ∧ V = V' := by
  go_enter Tryz.func52, Tryz.ntmps52
  go_wp2
  go_ret
  exact ⟨rfl, rfl⟩
theorem acc_Hi (V : World) (g off : Nat) : Calls Tryz.prog 53 #[.pointer (some ⟨g, off, none⟩)] V fun e V' => e = .returned (.pointer (some ⟨g, off + 25, none⟩)) ∧ V = V' := by
  go_enter Tryz.func53, Tryz.ntmps53
  go_wp2
  go_ret
  exact ⟨rfl, rfl⟩
theorem acc_Filter (V : World) (g off : Nat) : Calls Tryz.prog 55 #[.pointer (some ⟨g, off, none⟩)] V fun e V' => e = .returned (.pointer (some ⟨g, off + 26, none⟩)) ∧ V = V' := by
  go_enter Tryz.func55, Tryz.ntmps55
  go_wp2
  go_ret
  exact ⟨rfl, rfl⟩
theorem acc_Sess (V : World) (g off : Nat) : Calls Tryz.prog 56 #[.pointer (some ⟨g, off, none⟩)] V fun e V' => e = .returned (.pointer (some ⟨g, off + 29, none⟩)) ∧ V = V' := by
  go_enter Tryz.func56, Tryz.ntmps56
  go_wp2
  go_ret
  exact ⟨rfl, rfl⟩
theorem acc_Queue (V : World) (g off : Nat) : Calls Tryz.prog 57 #[.pointer (some ⟨g, off, none⟩)] V fun e V' => e = .returned (.pointer (some ⟨g, off + 30, none⟩)) ∧ V = V' := by
  go_enter Tryz.func57, Tryz.ntmps57
  go_wp2
  go_ret
  exact ⟨rfl, rfl⟩
theorem acc_Rate (V : World) (g off : Nat) : Calls Tryz.prog 58 #[.pointer (some ⟨g, off, none⟩)] V fun e V' => e = .returned (.pointer (some ⟨g, off + 31, none⟩)) ∧ V = V' := by
  go_enter Tryz.func58, Tryz.ntmps58
  go_wp2
  go_ret
  exact ⟨rfl, rfl⟩
theorem acc_Burst (V : World) (g off : Nat) : Calls Tryz.prog 59 #[.pointer (some ⟨g, off, none⟩)] V fun e V' => e = .returned (.pointer (some ⟨g, off + 32, none⟩)) ∧ V = V' := by
  go_enter Tryz.func59, Tryz.ntmps59
  go_wp2
  go_ret
  exact ⟨rfl, rfl⟩
theorem acc_Pool (V : World) (g off : Nat) : Calls Tryz.prog 38 #[.pointer (some ⟨g, off, none⟩)] V fun e V' => e = .returned (.pointer (some ⟨g, off + 23, none⟩)) ∧ V = V' := by
  go_enter Tryz.func38, Tryz.ntmps38
  go_wp2
  go_ret
  exact ⟨rfl, rfl⟩
theorem acc_Statics (V : World) (g off : Nat) : Calls Tryz.prog 39 #[.pointer (some ⟨g, off, none⟩)] V fun e V' => e = .returned (.pointer (some ⟨g, off + 27, none⟩)) ∧ V = V' := by
  go_enter Tryz.func39, Tryz.ntmps39
  go_wp2
  go_ret
  exact ⟨rfl, rfl⟩
theorem acc_Twices (V : World) (g off : Nat) : Calls Tryz.prog 40 #[.pointer (some ⟨g, off, none⟩)] V fun e V' => e = .returned (.pointer (some ⟨g, off + 28, none⟩)) ∧ V = V' := by
  go_enter Tryz.func40, Tryz.ntmps40
  go_wp2
  go_ret
  exact ⟨rfl, rfl⟩
theorem acc_Key (V : World) (g off : Nat) : Calls Tryz.prog 47 #[.pointer (some ⟨g, off, none⟩)] V fun e V' => e = .returned (.slice (some ⟨g, off + 2, none⟩) 8 8) ∧ V = V' := by
  go_enter Tryz.func47, Tryz.ntmps47
  go_wp2
  go_ret
  exact ⟨rfl, rfl⟩
theorem acc_VtepMac (V : World) (g off : Nat) : Calls Tryz.prog 49 #[.pointer (some ⟨g, off, none⟩)] V fun e V' => e = .returned (.slice (some ⟨g, off + 11, none⟩) 6 6) ∧ V = V' := by
  go_enter Tryz.func49, Tryz.ntmps49
  go_wp2
  go_ret
  exact ⟨rfl, rfl⟩
theorem acc_Host (V : World) (g off : Nat) : Calls Tryz.prog 50 #[.pointer (some ⟨g, off, none⟩)] V fun e V' => e = .returned (.slice (some ⟨g, off + 17, none⟩) 6 6) ∧ V = V' := by
  go_enter Tryz.func50, Tryz.ntmps50
  go_wp2
  go_ret
  exact ⟨rfl, rfl⟩
end Go.Proofs.YtbccadbnaggkhaaGreat

namespace Go.Proofs.YtbccadbnaggkhaaGreat
open Go.RowKit
open Sm
open Cf
set_option linter.unusedVariables false
set_option maxRecDepth 20000

/-- What is known of a tenant that comes in. -/
structure TIn (t : Ten) : Prop where
  len : TLen t
  key : IsBytes t.key
  vmac : IsBytes t.vmac
  host : IsBytes t.host
  name : t.name.size ≤ 1000000
  pool : t.pool.length ≤ 1000000
  stat : t.stat.length ≤ 1000000
  twi : t.twi.length ≤ 1000000
/-- A tenant that lies at a place, its lists the values r. -/
def IT : Rp Ten (Value × Value × Value) := fun t r V g off =>
  TIn t ∧ V.rangeAt g off (tc t r.1 r.2.1 r.2.2) ∧ Rw V 1 r.1 (ux t.pool) ∧ Rw V 2 r.2.1 (px t.stat) ∧ Rw V 2 r.2.2 (px t.twi)
/-- A list of the call's own, in a block of its own, or none. -/
def lv (h : Nat) : List (List Value) → Value
  | [] => nilV
  | x :: xs => .slice (some ⟨h, 0, none⟩) (x :: xs).length (x :: xs).length
def lb (h : Nat) (T : TypeId) : List (List Value) → List (Nat × Obj)
  | [] => []
  | x :: xs => [(h, .cells (x :: xs).flatten.toArray T (0, 0))]
/-- A tenant that is being read. -/
def JT : St' Ten := fun w t g T pre post V K => TLen t ∧ (t.pool.length ≤ 255 ∧ t.stat.length ≤ 255 ∧ t.twi.length ≤ 255) ∧ ∃ hp hs hq,
  Mem w V ((g, .cells (pre ++ (tc t (lv hp (ux t.pool)) (lv hs (px t.stat)) (lv hq (px t.twi)) ++ post)).toArray T (0, 0)) ::
    (lb hp 26 (ux t.pool) ++ (lb hs 62 (px t.stat) ++ (lb hq 62 (px t.twi) ++ K))))
theorem Mem.subl {w V : World} {L K : List (Nat × Obj)} (h : Mem w V L) (hs : K.Sublist L) : Mem w V K :=
  ⟨h.below, fun p hp => h.low p (hs.subset hp), fun p hp => h.at_ p (hs.subset hp), h.apart.sublist (hs.map _)⟩
theorem Mem.dropA {w V : World} {A K : List (Nat × Obj)} (h : Mem w V (A ++ K)) : Mem w V K := h.subl (List.sublist_append_right A K)
theorem lv_len {h : Nat} {xs ys : List (List Value)} (e : xs.length = ys.length) : lv h xs = lv h ys := by
  cases xs with
  | nil => cases ys with
    | nil => rfl
    | cons y ys => simp at e
  | cons x xs => cases ys with
    | nil => simp at e
    | cons y ys => simp only [lv, e]
theorem tset {t t' : Ten} {p s q p' s' q' : Value} {o : Nat} {v : Value} (h : TLen t) (e : ∀ n vn a b c d f g x y vt a1 b1 c1 d1 f1 g1 a2 b2 c2 d2 f2 g2 po lo hi fi st tw se qu ra bu,
    t = ⟨n, vn, [a, b, c, d, f, g, x, y], vt, [a1, b1, c1, d1, f1, g1], [a2, b2, c2, d2, f2, g2], po, lo, hi, fi, st, tw, se, qu, ra, bu⟩ → (tc t p s q).set o v = tc t' p' s' q') : (tc t p s q).set o v = tc t' p' s' q' := by
  obtain ⟨n, vn, key, vt, vm, ho, po, lo, hi, fi, st, tw, se, qu, ra, bu⟩ := t
  obtain ⟨h1, h2, h3⟩ := h
  obtain ⟨a, b, c, d, f, g, x, y, rfl⟩ := eight8 h1
  obtain ⟨a1, b1, c1, d1, f1, g1, rfl⟩ := six6 h2
  obtain ⟨a2, b2, c2, d2, f2, g2, rfl⟩ := six6 h3
  exact e n vn a b c d f g x y vt a1 b1 c1 d1 f1 g1 a2 b2 c2 d2 f2 g2 po lo hi fi st tw se qu ra bu rfl
theorem tget {t : Ten} {p s q : Value} {o : Nat} {v : Value} (h : TLen t) (e : ∀ n vn a b c d f g x y vt a1 b1 c1 d1 f1 g1 a2 b2 c2 d2 f2 g2 po lo hi fi st tw se qu ra bu,
    t = ⟨n, vn, [a, b, c, d, f, g, x, y], vt, [a1, b1, c1, d1, f1, g1], [a2, b2, c2, d2, f2, g2], po, lo, hi, fi, st, tw, se, qu, ra, bu⟩ → (tc t p s q)[o]? = some v) : (tc t p s q)[o]? = some v := by
  obtain ⟨n, vn, key, vt, vm, ho, po, lo, hi, fi, st, tw, se, qu, ra, bu⟩ := t
  obtain ⟨h1, h2, h3⟩ := h
  obtain ⟨a, b, c, d, f, g, x, y, rfl⟩ := eight8 h1
  obtain ⟨a1, b1, c1, d1, f1, g1, rfl⟩ := six6 h2
  obtain ⟨a2, b2, c2, d2, f2, g2, rfl⟩ := six6 h3
  exact e n vn a b c d f g x y vt a1 b1 c1 d1 f1 g1 a2 b2 c2 d2 f2 g2 po lo hi fi st tw se qu ra bu rfl
theorem lens_T {β : Type} {w : World} (o : Nat) (ho : o < 33) (old : Ten → Value) (nv : β → Value) (fs : Ten → β → Ten) (hget : ∀ t p s q, TLen t → (tc t p s q)[o]? = some (old t)) (hset : ∀ t y p s q, TLen t → (tc t p s q).set o (nv y) = tc (fs t y) p s q)
    (hk : ∀ t y, TLen t → TLen (fs t y)) (hp : ∀ t y, (fs t y).pool = t.pool ∧ (fs t y).stat = t.stat ∧ (fs t y).twi = t.twi) :
    ∀ t g T pre post V K, JT w t g T pre post V K → ∃ A M, Lens w JT o t g T pre post V K M A ∧ A[pre.length + o]? = some (old t) ∧
      ∀ y V', Mem w V' ((g, .cells (A.setIfInBounds (pre.length + o) (nv y)) T (0, 0)) :: M) → JT w (fs t y) g T pre post V' K := by
  rintro t g T pre post V K ⟨hl, hb, hp', hs, hq, hM⟩
  refine ⟨_, _, ⟨hM, fun q hq => ?_, fun V' h => h.dropA.dropA.dropA⟩, get_mid _ _ _ o _ (hget _ _ _ _ hl), fun y V' hV => ?_⟩
  · exact List.mem_append_right _ (List.mem_append_right _ (List.mem_append_right _ hq))
  · rw [set_mid _ _ _ o _ (by rw [tc_len hl]; exact ho), hset _ _ _ _ _ hl] at hV
    obtain ⟨e1, e2, e3⟩ := hp t y
    refine ⟨hk t y hl, ⟨by rw [e1]; exact hb.1, by rw [e2]; exact hb.2.1, by rw [e3]; exact hb.2.2⟩, hp', hs, hq, ?_⟩
    rw [e1, e2, e3]
    exact hV
theorem spl_mid (pre a b c post : List Value) (y : List Int) (hb : b.length = y.length) : spl (pre ++ ((a ++ (b ++ c)) ++ post)).toArray (pre.length + a.length) y = (pre ++ ((a ++ (y.map (Value.int .u8) ++ c)) ++ post)).toArray := by
  unfold spl
  simp only [List.append_assoc]
  congr 1
  have e1 : (pre ++ (a ++ (b ++ (c ++ post)))).take (pre.length + a.length) = pre ++ a := by
    rw [← List.append_assoc]; exact List.take_left' (by simp)
  have e2 : (pre ++ (a ++ (b ++ (c ++ post)))).drop (pre.length + a.length + y.length) = c ++ post := by
    rw [← List.append_assoc, ← List.append_assoc]; exact List.drop_left' (by simp [hb]; omega)
  rw [e1, e2]
  simp only [List.append_assoc]
theorem lens_TO {w : World} (o n : Nat) (fs : Ten → List Int → Ten) (hcut : ∀ t p s q, TLen t → ∃ a b c, a.length = o ∧ b.length = n ∧ tc t p s q = a ++ (b ++ c) ∧ ∀ y, tc (fs t y) p s q = a ++ (y.map (Value.int .u8) ++ c))
    (hk : ∀ t y, y.length = n → TLen t → TLen (fs t y)) (hp : ∀ t y, (fs t y).pool = t.pool ∧ (fs t y).stat = t.stat ∧ (fs t y).twi = t.twi) :
    ∀ t g T pre post V K, JT w t g T pre post V K → ∃ A M, Lens w JT o t g T pre post V K M A ∧ pre.length + o + n ≤ A.size ∧
      ∀ y V', y.length = n → IsBytes y → Mem w V' ((g, .cells (spl A (pre.length + o) y) T (0, 0)) :: M) → JT w (fs t y) g T pre post V' K := by
  rintro t g T pre post V K ⟨hl, hb, hp', hs, hq, hM⟩
  obtain ⟨a, b, c, ha, hbn, e, hfs⟩ := hcut t (lv hp' (ux t.pool)) (lv hs (px t.stat)) (lv hq (px t.twi)) hl
  refine ⟨_, _, ⟨hM, fun q hq => ?_, fun V' h => h.dropA.dropA.dropA⟩, ?_, fun y V' hy _ hV => ?_⟩
  · exact List.mem_append_right _ (List.mem_append_right _ (List.mem_append_right _ hq))
  · rw [e]; simp [ha, hbn]; omega
  · rw [e, ← ha, spl_mid pre a b c post y (by omega), ← hfs y] at hV
    obtain ⟨e1, e2, e3⟩ := hp t y
    refine ⟨hk t y hy hl, ⟨by rw [e1]; exact hb.1, by rw [e2]; exact hb.2.1, by rw [e3]; exact hb.2.2⟩, hp', hs, hq, ?_⟩
    rw [e1, e2, e3]
    exact hV
theorem made_U (m : Nat) (hm : 0 < m) : madeCells (Value.int .u32 0).cells (m * 1) = (ux (List.replicate m 0)).flatten.toArray := by
  apply Array.toList_inj.mp
  have := madeCells_flat (Value.int .u32 0).cells m (by decide)
  rw [show (Value.int IntKind.u32 0).cells.size = 1 from rfl] at this
  rw [this]
  simp [ux, Value.cells]
theorem made_P (m : Nat) (hm : 0 < m) : madeCells (Value.agg #[.int .u32 0, .int .u32 0]).cells (m * 2) = (px (List.replicate m (0, 0))).flatten.toArray := by
  apply Array.toList_inj.mp
  have := madeCells_flat (Value.agg #[.int .u32 0, .int .u32 0]).cells m (by decide)
  rw [show (Value.agg #[Value.int .u32 0, .int .u32 0]).cells.size = 2 from rfl] at this
  rw [this]
  simp [px, Value.cells]
theorem lb_one {h : Nat} {T : TypeId} {xs : List (List Value)} (e : xs ≠ []) : lb h T xs = [(h, .cells xs.flatten.toArray T (0, 0))] := by
  cases xs with
  | nil => exact absurd rfl e
  | cons x xs => rfl
theorem lv_one {h : Nat} {xs : List (List Value)} (e : xs ≠ []) : lv h xs = .slice (some ⟨h, 0, none⟩) xs.length xs.length := by
  cases xs with
  | nil => exact absurd rfl e
  | cons x xs => rfl
def set_pool (t : Ten) (m : Nat) : Ten := if m = 0 then t else { t with pool := List.replicate m 0 }
theorem lens_Cpool {w : World} : ∀ t g T pre post V K, JT w t g T pre post V K → ∃ A M y, Lens w JT 23 t g T pre post V K M A ∧ A[pre.length + 23]? = some y ∧
      ∀ m V', m ≤ 255 → CMade_TU w V' g A T (pre.length + 23) M m → JT w (set_pool t m) g T pre post V' K := by
  rintro t g T pre post V K ⟨hl, hb, hp, hs, hq, hM⟩
  refine ⟨_, _, _, ⟨hM, fun q hq => ?_, fun V' h => h.dropA.dropA.dropA⟩, get_mid _ _ _ 23 _ (tget (v := lv hp (ux t.pool)) hl (by rintro n vn a b c d f g x y vt a1 b1 c1 d1 f1 g1 a2 b2 c2 d2 f2 g2 po lo hi fi st tw se qu ra bu rfl; rfl)), fun m V' hm hV => ?_⟩
  · exact List.mem_append_right _ (List.mem_append_right _ (List.mem_append_right _ hq))
  · rcases hV with ⟨rfl, hV⟩ | ⟨h0, h, hV⟩
    · exact ⟨hl, hb, hp, hs, hq, hV⟩
    · have hne : ux (List.replicate m 0) ≠ [] := by
        cases m with
        | zero => omega
        | succ m => simp [ux, List.replicate_succ]
      have hlen : (ux (List.replicate m 0)).length = m := by simp [ux]
      rw [set_mid _ _ _ 23 _ (by rw [tc_len hl]; omega), made_U m h0] at hV
      unfold set_pool
      rw [if_neg (by omega)]
      refine ⟨⟨hl.key, hl.vmac, hl.host⟩, ?_, h, hs, hq, ?_⟩
      · simp only [List.length_replicate]; exact ⟨hm, hb.2.1, hb.2.2⟩
      · have e : (tc t (lv hp (ux t.pool)) (lv hs (px t.stat)) (lv hq (px t.twi))).set 23 (.slice (some ⟨h, 0, none⟩) m m) = tc { t with pool := List.replicate m 0 } (lv h (ux (List.replicate m 0))) (lv hs (px t.stat)) (lv hq (px t.twi)) := by
          rw [lv_one hne, hlen]
          exact tset hl (by rintro n vn a b c d f g x y vt a1 b1 c1 d1 f1 g1 a2 b2 c2 d2 f2 g2 po lo hi fi st tw se qu ra bu rfl; rfl)
        rw [e] at hV
        simp only at hV ⊢
        rw [lb_one hne]
        exact hV.subl ((List.sublist_append_right _ _).cons_cons _ |>.cons_cons _)
theorem lens_Ipool {w : World} : ∀ t g T pre post V K, JT w t g T pre post V K → t.pool.length ≤ 255 ∧ ∃ hb M sa sc, (0 < t.pool.length → sa = some ⟨hb, 0, none⟩) ∧ Sub K M ∧ (∀ V', Mem w V' M → Mem w V' K) ∧ V.cell? ⟨g, pre.length + 23, none⟩ = some (.slice sa t.pool.length sc) ∧
      IMU w hb M V t.pool ∧ ∀ ys V', ys.length = t.pool.length → IMU w hb M V' ys → JT w { t with pool := ys } g T pre post V' K := by
  rintro t g T pre post V K ⟨hl, hb, hp, hs, hq, hM⟩
  have hcell : V.cell? ⟨g, pre.length + 23, none⟩ = some (lv hp (ux t.pool)) := by
    rw [hM.cell 0 rfl]
    exact get_mid _ _ _ 23 _ (tget hl (by rintro n vn a b c d f g x y vt a1 b1 c1 d1 f1 g1 a2 b2 c2 d2 f2 g2 po lo hi fi st tw se qu ra bu rfl; rfl))
  have hlen : ∀ l, (ux l).length = l.length := by intro l; simp [ux]
  have hnil : ∀ l, ux l = [] ↔ l = [] := by intro l; simp [ux]
  obtain ⟨G, hG⟩ : ∃ G : Nat × Obj, G = (g, .cells (pre ++ (tc t (lv hp (ux t.pool)) (lv hs (px t.stat)) (lv hq (px t.twi)) ++ post)).toArray T (0, 0)) := ⟨_, rfl⟩
  rw [← hG] at hM
  have hMp : Mem w V (lb hp 26 (ux t.pool) ++ (G :: ((lb hs 62 (px t.stat)) ++ ((lb hq 62 (px t.twi)) ++ K)))) := hM.perm (List.perm_middle (l₁ := _)).symm
  have hpm : ∀ ys V', ys.length = t.pool.length → Mem w V' (lb hp 26 (ux ys) ++ (G :: ((lb hs 62 (px t.stat)) ++ ((lb hq 62 (px t.twi)) ++ K)))) → JT w { t with pool := ys } g T pre post V' K := by
    intro ys V' hy hV
    refine ⟨⟨hl.key, hl.vmac, hl.host⟩, ⟨by rw [hy]; exact hb.1, hb.2.1, hb.2.2⟩, hp, hs, hq, ?_⟩
    have e : lv hp (ux ys) = lv hp (ux t.pool) := lv_len (by rw [hlen, hlen, hy])
    have e2 : tc { t with pool := ys } (lv hp (ux ys)) (lv hs (px t.stat)) (lv hq (px t.twi)) = tc t (lv hp (ux t.pool)) (lv hs (px t.stat)) (lv hq (px t.twi)) := by rw [e]; rfl
    simp only at e2 ⊢
    rw [e2, ← hG]
    exact hV.perm (List.perm_middle (l₁ := _))
  by_cases h0 : t.pool = []
  · refine ⟨hb.1, hp, (G :: ((lb hs 62 (px t.stat)) ++ ((lb hq 62 (px t.twi)) ++ K))), none, 0, fun h => by rw [h0] at h; simp at h, ?_, fun V' h => h.sub.dropA.dropA, ?_, ?_, ?_⟩
    · exact fun q hq => List.mem_cons_of_mem _ (List.mem_append_right _ (List.mem_append_right _ hq))
    · rw [hcell, (hnil _).mpr h0, h0]; rfl
    · unfold IMU; rw [if_pos h0]; rw [(hnil _).mpr h0] at hMp; exact hMp
    · intro ys V' hy hV
      have hy0 : ys = [] := by rw [h0] at hy; exact List.eq_nil_of_length_eq_zero hy
      unfold IMU at hV
      rw [if_pos hy0] at hV
      refine hpm ys V' hy ?_
      rw [(hnil _).mpr hy0]
      exact hV
  · have hne : ux t.pool ≠ [] := fun e => h0 ((hnil _).mp e)
    refine ⟨hb.1, hp, (G :: ((lb hs 62 (px t.stat)) ++ ((lb hq 62 (px t.twi)) ++ K))), some ⟨hp, 0, none⟩, t.pool.length, fun _ => rfl, ?_, fun V' h => h.sub.dropA.dropA, ?_, ?_, ?_⟩
    · exact fun q hq => List.mem_cons_of_mem _ (List.mem_append_right _ (List.mem_append_right _ hq))
    · rw [hcell, lv_one hne, hlen]
    · unfold IMU; rw [if_neg h0]; rw [lb_one hne] at hMp; exact hMp
    · intro ys V' hy hV
      have hy0 : ys ≠ [] := by rintro rfl; simp at hy; exact h0 (List.eq_nil_of_length_eq_zero hy.symm)
      unfold IMU at hV
      rw [if_neg hy0] at hV
      refine hpm ys V' hy ?_
      rw [lb_one (fun e => hy0 ((hnil _).mp e))]
      exact hV
def set_stat (t : Ten) (m : Nat) : Ten := if m = 0 then t else { t with stat := List.replicate m (0, 0) }
theorem lens_Cstat {w : World} : ∀ t g T pre post V K, JT w t g T pre post V K → ∃ A M y, Lens w JT 27 t g T pre post V K M A ∧ A[pre.length + 27]? = some y ∧
      ∀ m V', m ≤ 255 → CMade_TP w V' g A T (pre.length + 27) M m → JT w (set_stat t m) g T pre post V' K := by
  rintro t g T pre post V K ⟨hl, hb, hp, hs, hq, hM⟩
  refine ⟨_, _, _, ⟨hM, fun q hq => ?_, fun V' h => h.dropA.dropA.dropA⟩, get_mid _ _ _ 27 _ (tget (v := lv hs (px t.stat)) hl (by rintro n vn a b c d f g x y vt a1 b1 c1 d1 f1 g1 a2 b2 c2 d2 f2 g2 po lo hi fi st tw se qu ra bu rfl; rfl)), fun m V' hm hV => ?_⟩
  · exact List.mem_append_right _ (List.mem_append_right _ (List.mem_append_right _ hq))
  · rcases hV with ⟨rfl, hV⟩ | ⟨h0, h, hV⟩
    · exact ⟨hl, hb, hp, hs, hq, hV⟩
    · have hne : px (List.replicate m (0, 0)) ≠ [] := by
        cases m with
        | zero => omega
        | succ m => simp [px, List.replicate_succ]
      have hlen : (px (List.replicate m (0, 0))).length = m := by simp [px]
      rw [set_mid _ _ _ 27 _ (by rw [tc_len hl]; omega), made_P m h0] at hV
      unfold set_stat
      rw [if_neg (by omega)]
      refine ⟨⟨hl.key, hl.vmac, hl.host⟩, ?_, hp, h, hq, ?_⟩
      · simp only [List.length_replicate]; exact ⟨hb.1, hm, hb.2.2⟩
      · have e : (tc t (lv hp (ux t.pool)) (lv hs (px t.stat)) (lv hq (px t.twi))).set 27 (.slice (some ⟨h, 0, none⟩) m m) = tc { t with stat := List.replicate m (0, 0) } (lv hp (ux t.pool)) (lv h (px (List.replicate m (0, 0)))) (lv hq (px t.twi)) := by
          rw [lv_one hne, hlen]
          exact tset hl (by rintro n vn a b c d f g x y vt a1 b1 c1 d1 f1 g1 a2 b2 c2 d2 f2 g2 po lo hi fi st tw se qu ra bu rfl; rfl)
        rw [e] at hV
        simp only at hV ⊢
        rw [lb_one hne]
        exact (hV.subl ((((List.sublist_append_right _ _).append_left _).cons_cons _).cons_cons _)).perm ((List.perm_middle (l₁ := _)).symm.cons _)
theorem lens_Istat {w : World} : ∀ t g T pre post V K, JT w t g T pre post V K → t.stat.length ≤ 255 ∧ ∃ hb M sa sc, (0 < t.stat.length → sa = some ⟨hb, 0, none⟩) ∧ Sub K M ∧ (∀ V', Mem w V' M → Mem w V' K) ∧ V.cell? ⟨g, pre.length + 27, none⟩ = some (.slice sa t.stat.length sc) ∧
      IMP w hb M V t.stat ∧ ∀ ys V', ys.length = t.stat.length → IMP w hb M V' ys → JT w { t with stat := ys } g T pre post V' K := by
  rintro t g T pre post V K ⟨hl, hb, hp, hs, hq, hM⟩
  have hcell : V.cell? ⟨g, pre.length + 27, none⟩ = some (lv hs (px t.stat)) := by
    rw [hM.cell 0 rfl]
    exact get_mid _ _ _ 27 _ (tget hl (by rintro n vn a b c d f g x y vt a1 b1 c1 d1 f1 g1 a2 b2 c2 d2 f2 g2 po lo hi fi st tw se qu ra bu rfl; rfl))
  have hlen : ∀ l, (px l).length = l.length := by intro l; simp [px]
  have hnil : ∀ l, px l = [] ↔ l = [] := by intro l; simp [px]
  obtain ⟨G, hG⟩ : ∃ G : Nat × Obj, G = (g, .cells (pre ++ (tc t (lv hp (ux t.pool)) (lv hs (px t.stat)) (lv hq (px t.twi)) ++ post)).toArray T (0, 0)) := ⟨_, rfl⟩
  rw [← hG] at hM
  have hMp : Mem w V (lb hs 62 (px t.stat) ++ (G :: ((lb hp 26 (ux t.pool)) ++ ((lb hq 62 (px t.twi)) ++ K)))) := hM.perm (by
    refine List.Perm.trans ((List.perm_append_comm_assoc _ _ _).cons _) ?_
    exact (List.perm_middle (l₁ := _)).symm)
  have hpm : ∀ ys V', ys.length = t.stat.length → Mem w V' (lb hs 62 (px ys) ++ (G :: ((lb hp 26 (ux t.pool)) ++ ((lb hq 62 (px t.twi)) ++ K)))) → JT w { t with stat := ys } g T pre post V' K := by
    intro ys V' hy hV
    refine ⟨⟨hl.key, hl.vmac, hl.host⟩, ⟨hb.1, by rw [hy]; exact hb.2.1, hb.2.2⟩, hp, hs, hq, ?_⟩
    have e : lv hs (px ys) = lv hs (px t.stat) := lv_len (by rw [hlen, hlen, hy])
    have e2 : tc { t with stat := ys } (lv hp (ux t.pool)) (lv hs (px ys)) (lv hq (px t.twi)) = tc t (lv hp (ux t.pool)) (lv hs (px t.stat)) (lv hq (px t.twi)) := by rw [e]; rfl
    simp only at e2 ⊢
    rw [e2, ← hG]
    exact hV.perm (by
      refine List.Perm.trans (List.perm_middle (l₁ := _)) ?_
      exact (List.perm_append_comm_assoc _ _ _).cons _)
  by_cases h0 : t.stat = []
  · refine ⟨hb.2.1, hs, (G :: ((lb hp 26 (ux t.pool)) ++ ((lb hq 62 (px t.twi)) ++ K))), none, 0, fun h => by rw [h0] at h; simp at h, ?_, fun V' h => h.sub.dropA.dropA, ?_, ?_, ?_⟩
    · exact fun q hq => List.mem_cons_of_mem _ (List.mem_append_right _ (List.mem_append_right _ hq))
    · rw [hcell, (hnil _).mpr h0, h0]; rfl
    · unfold IMP; rw [if_pos h0]; rw [(hnil _).mpr h0] at hMp; exact hMp
    · intro ys V' hy hV
      have hy0 : ys = [] := by rw [h0] at hy; exact List.eq_nil_of_length_eq_zero hy
      unfold IMP at hV
      rw [if_pos hy0] at hV
      refine hpm ys V' hy ?_
      rw [(hnil _).mpr hy0]
      exact hV
  · have hne : px t.stat ≠ [] := fun e => h0 ((hnil _).mp e)
    refine ⟨hb.2.1, hs, (G :: ((lb hp 26 (ux t.pool)) ++ ((lb hq 62 (px t.twi)) ++ K))), some ⟨hs, 0, none⟩, t.stat.length, fun _ => rfl, ?_, fun V' h => h.sub.dropA.dropA, ?_, ?_, ?_⟩
    · exact fun q hq => List.mem_cons_of_mem _ (List.mem_append_right _ (List.mem_append_right _ hq))
    · rw [hcell, lv_one hne, hlen]
    · unfold IMP; rw [if_neg h0]; rw [lb_one hne] at hMp; exact hMp
    · intro ys V' hy hV
      have hy0 : ys ≠ [] := by rintro rfl; simp at hy; exact h0 (List.eq_nil_of_length_eq_zero hy.symm)
      unfold IMP at hV
      rw [if_neg hy0] at hV
      refine hpm ys V' hy ?_
      rw [lb_one (fun e => hy0 ((hnil _).mp e))]
      exact hV
def set_twi (t : Ten) (m : Nat) : Ten := if m = 0 then t else { t with twi := List.replicate m (0, 0) }
theorem lens_Ctwi {w : World} : ∀ t g T pre post V K, JT w t g T pre post V K → ∃ A M y, Lens w JT 28 t g T pre post V K M A ∧ A[pre.length + 28]? = some y ∧
      ∀ m V', m ≤ 255 → CMade_TP w V' g A T (pre.length + 28) M m → JT w (set_twi t m) g T pre post V' K := by
  rintro t g T pre post V K ⟨hl, hb, hp, hs, hq, hM⟩
  refine ⟨_, _, _, ⟨hM, fun q hq => ?_, fun V' h => h.dropA.dropA.dropA⟩, get_mid _ _ _ 28 _ (tget (v := lv hq (px t.twi)) hl (by rintro n vn a b c d f g x y vt a1 b1 c1 d1 f1 g1 a2 b2 c2 d2 f2 g2 po lo hi fi st tw se qu ra bu rfl; rfl)), fun m V' hm hV => ?_⟩
  · exact List.mem_append_right _ (List.mem_append_right _ (List.mem_append_right _ hq))
  · rcases hV with ⟨rfl, hV⟩ | ⟨h0, h, hV⟩
    · exact ⟨hl, hb, hp, hs, hq, hV⟩
    · have hne : px (List.replicate m (0, 0)) ≠ [] := by
        cases m with
        | zero => omega
        | succ m => simp [px, List.replicate_succ]
      have hlen : (px (List.replicate m (0, 0))).length = m := by simp [px]
      rw [set_mid _ _ _ 28 _ (by rw [tc_len hl]; omega), made_P m h0] at hV
      unfold set_twi
      rw [if_neg (by omega)]
      refine ⟨⟨hl.key, hl.vmac, hl.host⟩, ?_, hp, hs, h, ?_⟩
      · simp only [List.length_replicate]; exact ⟨hb.1, hb.2.1, hm⟩
      · have e : (tc t (lv hp (ux t.pool)) (lv hs (px t.stat)) (lv hq (px t.twi))).set 28 (.slice (some ⟨h, 0, none⟩) m m) = tc { t with twi := List.replicate m (0, 0) } (lv hp (ux t.pool)) (lv hs (px t.stat)) (lv h (px (List.replicate m (0, 0)))) := by
          rw [lv_one hne, hlen]
          exact tset hl (by rintro n vn a b c d f g x y vt a1 b1 c1 d1 f1 g1 a2 b2 c2 d2 f2 g2 po lo hi fi st tw se qu ra bu rfl; rfl)
        rw [e] at hV
        simp only at hV ⊢
        rw [lb_one hne]
        refine Mem.perm (hV.subl (((((List.sublist_append_right _ _).append_left _).append_left _).cons_cons _).cons_cons _)) ?_
        refine List.Perm.cons _ ?_
        refine List.Perm.trans ?_ ((List.perm_middle (l₁ := _)).symm.append_left _)
        exact (List.perm_middle (l₁ := _)).symm
theorem lens_Itwi {w : World} : ∀ t g T pre post V K, JT w t g T pre post V K → t.twi.length ≤ 255 ∧ ∃ hb M sa sc, (0 < t.twi.length → sa = some ⟨hb, 0, none⟩) ∧ Sub K M ∧ (∀ V', Mem w V' M → Mem w V' K) ∧ V.cell? ⟨g, pre.length + 28, none⟩ = some (.slice sa t.twi.length sc) ∧
      IMP w hb M V t.twi ∧ ∀ ys V', ys.length = t.twi.length → IMP w hb M V' ys → JT w { t with twi := ys } g T pre post V' K := by
  rintro t g T pre post V K ⟨hl, hb, hp, hs, hq, hM⟩
  have hcell : V.cell? ⟨g, pre.length + 28, none⟩ = some (lv hq (px t.twi)) := by
    rw [hM.cell 0 rfl]
    exact get_mid _ _ _ 28 _ (tget hl (by rintro n vn a b c d f g x y vt a1 b1 c1 d1 f1 g1 a2 b2 c2 d2 f2 g2 po lo hi fi st tw se qu ra bu rfl; rfl))
  have hlen : ∀ l, (px l).length = l.length := by intro l; simp [px]
  have hnil : ∀ l, px l = [] ↔ l = [] := by intro l; simp [px]
  obtain ⟨G, hG⟩ : ∃ G : Nat × Obj, G = (g, .cells (pre ++ (tc t (lv hp (ux t.pool)) (lv hs (px t.stat)) (lv hq (px t.twi)) ++ post)).toArray T (0, 0)) := ⟨_, rfl⟩
  rw [← hG] at hM
  have hMp : Mem w V (lb hq 62 (px t.twi) ++ (G :: ((lb hp 26 (ux t.pool)) ++ ((lb hs 62 (px t.stat)) ++ K)))) := hM.perm (by
    refine List.Perm.trans (((List.perm_append_comm_assoc _ _ _).append_left _).cons _) ?_
    refine List.Perm.trans ((List.perm_append_comm_assoc _ _ _).cons _) ?_
    exact (List.perm_middle (l₁ := _)).symm)
  have hpm : ∀ ys V', ys.length = t.twi.length → Mem w V' (lb hq 62 (px ys) ++ (G :: ((lb hp 26 (ux t.pool)) ++ ((lb hs 62 (px t.stat)) ++ K)))) → JT w { t with twi := ys } g T pre post V' K := by
    intro ys V' hy hV
    refine ⟨⟨hl.key, hl.vmac, hl.host⟩, ⟨hb.1, hb.2.1, by rw [hy]; exact hb.2.2⟩, hp, hs, hq, ?_⟩
    have e : lv hq (px ys) = lv hq (px t.twi) := lv_len (by rw [hlen, hlen, hy])
    have e2 : tc { t with twi := ys } (lv hp (ux t.pool)) (lv hs (px t.stat)) (lv hq (px ys)) = tc t (lv hp (ux t.pool)) (lv hs (px t.stat)) (lv hq (px t.twi)) := by rw [e]; rfl
    simp only at e2 ⊢
    rw [e2, ← hG]
    exact hV.perm (by
      refine List.Perm.trans (List.perm_middle (l₁ := _)) ?_
      refine List.Perm.cons _ ?_
      refine List.Perm.trans (List.perm_append_comm_assoc _ _ _) ?_
      exact (List.perm_append_comm_assoc _ _ _).append_left _)
  by_cases h0 : t.twi = []
  · refine ⟨hb.2.2, hq, (G :: ((lb hp 26 (ux t.pool)) ++ ((lb hs 62 (px t.stat)) ++ K))), none, 0, fun h => by rw [h0] at h; simp at h, ?_, fun V' h => h.sub.dropA.dropA, ?_, ?_, ?_⟩
    · exact fun q hq => List.mem_cons_of_mem _ (List.mem_append_right _ (List.mem_append_right _ hq))
    · rw [hcell, (hnil _).mpr h0, h0]; rfl
    · unfold IMP; rw [if_pos h0]; rw [(hnil _).mpr h0] at hMp; exact hMp
    · intro ys V' hy hV
      have hy0 : ys = [] := by rw [h0] at hy; exact List.eq_nil_of_length_eq_zero hy
      unfold IMP at hV
      rw [if_pos hy0] at hV
      refine hpm ys V' hy ?_
      rw [(hnil _).mpr hy0]
      exact hV
  · have hne : px t.twi ≠ [] := fun e => h0 ((hnil _).mp e)
    refine ⟨hb.2.2, hq, (G :: ((lb hp 26 (ux t.pool)) ++ ((lb hs 62 (px t.stat)) ++ K))), some ⟨hq, 0, none⟩, t.twi.length, fun _ => rfl, ?_, fun V' h => h.sub.dropA.dropA, ?_, ?_, ?_⟩
    · exact fun q hq => List.mem_cons_of_mem _ (List.mem_append_right _ (List.mem_append_right _ hq))
    · rw [hcell, lv_one hne, hlen]
    · unfold IMP; rw [if_neg h0]; rw [lb_one hne] at hMp; exact hMp
    · intro ys V' hy hV
      have hy0 : ys ≠ [] := by rintro rfl; simp at hy; exact h0 (List.eq_nil_of_length_eq_zero hy.symm)
      unfold IMP at hV
      rw [if_neg hy0] at hV
      refine hpm ys V' hy ?_
      rw [lb_one (fun e => hy0 ((hnil _).mp e))]
      exact hV
end Go.Proofs.YtbccadbnaggkhaaGreat

namespace Go.Proofs.YtbccadbnaggkhaaGreat
open Go.RowKit
open Sm
open Cf
set_option linter.unusedVariables false
set_option maxRecDepth 20000

theorem fits16 : ∀ q, 0 ≤ q → q < 256 ^ 2 → IntKind.u16.wrap q = q := fun q h0 h1 => wrap16_small q h0 (by omega)
theorem fits64 (n : Nat) (hn : n ≤ 4) : ∀ q, 0 ≤ q → q < 256 ^ n → IntKind.i64.wrap q = q := by
  intro q h0 h1
  refine wrap64n (by omega) ?_
  have : (256 : Int) ^ n ≤ 256 ^ 4 := by
    match n, hn with
    | 0, _ => decide
    | 1, _ => decide
    | 2, _ => decide
    | 3, _ => decide
    | 4, _ => decide
  have e : (256 : Int) ^ 4 = 4294967296 := by decide
  omega
def ttl (t : Ten) (p s q : Value) : List Value := [p, .int .u16 t.lo, .int .u16 t.hi, .int .i64 t.filter, s, q, .int .i64 t.sess, .int .i64 t.queue, .int .u32 t.rate, .int .u32 t.burst]
theorem swap_front {p a : Nat × Obj} {E L : List (Nat × Obj)} {w V : World} (h : Mem w V (a :: p :: (E ++ L))) : Mem w V (p :: ((a :: E) ++ L)) := h.perm (List.Perm.swap _ _ _)
theorem swap_front2 {p a b : Nat × Obj} {E L : List (Nat × Obj)} {w V : World} (h : Mem w V (a :: b :: p :: (E ++ L))) : Mem w V (p :: ((a :: b :: E) ++ L)) :=
  h.perm (by refine List.Perm.trans ((List.Perm.swap p b _).cons a) ?_; exact List.Perm.swap p a _)
theorem swap_app {p : Nat × Obj} {A E L : List (Nat × Obj)} {w V : World} (h : Mem w V (A ++ (p :: (E ++ L)))) : Mem w V (p :: ((A ++ E) ++ L)) :=
  h.perm (by rw [List.append_assoc]; exact List.perm_middle (l₁ := A))
theorem IT.cell {t : Ten} {r : Value × Value × Value} {V : World} {g off : Nat} (h : IT t r V g off) (o : Nat) {v : Value} (hv : (tc t r.1 r.2.1 r.2.2)[o]? = some v) : V.cell? ⟨g, off + o, none⟩ = some v := h.2.1 o v hv
theorem IT.row {t : Ten} {r : Value × Value × Value} {V : World} {g off : Nat} (h : IT t r V g off) (o : Nat) (x : List Int) (hb : IsBytes x) (hx : x.length ≤ 1000) (a c : List Value) (ha : a.length = o) (e : tc t r.1 r.2.1 r.2.2 = a ++ (x.map (Value.int .u8) ++ c)) :
    Row V (some ⟨g, off + o, none⟩) x := by
  refine ⟨hb, by omega, Or.inr ⟨g, off + o, rfl, fun i hi => ?_⟩⟩
  have := h.2.1 (o + i) (.int .u8 (x.getD i 0)) (by
    rw [e, List.getElem?_append_right (by omega), List.getElem?_append_left (by simp; omega), ha, Nat.add_sub_cancel_left]
    simp [hi])
  rw [Nat.add_assoc]; exact this
def spName : Sp Ten := spTxt (fun t => t.name) (fun t y => { t with name := y })
theorem c_Name {w V : World} {p : Nat × Obj} {E L : List (Nat × Obj)} (h : Mem w V (p :: (E ++ L))) :
    Calls Tryz.prog 42 #[.func (.func 43) #[] #[]] V fun e V' => ∃ f E', e = .returned f.val ∧ Mem w V' (p :: (E' ++ L)) ∧ Sub E E' ∧ Fd w E' IT JT f spName := by
  refine (mk_Txt_T h 43).mono ?_
  rintro e V' ⟨bo, rfl, hM⟩
  exact ⟨_, _ :: E, rfl, swap_front hM, fun q hq => List.mem_cons_of_mem _ hq, fd_Txt_T bo 43 0 _ _ (List.mem_cons_self ..) (enters_of Tryz.func43 (by kernel_rfl) rfl) acc_Name (fun t r V g off h => ⟨by have := h.1.name; omega, h.cell 0 (tget h.1.len (by rintro n vn a b c d f g x y vt a1 b1 c1 d1 f1 g1 a2 b2 c2 d2 f2 g2 po lo hi fi st tw se qu ra bu rfl; rfl))⟩) (lens_T 0 (by omega) (fun t => .string t.name) (fun y => .string y) (fun t y => { t with name := y }) (fun t p s q h => tget h (by rintro n vn a b c d f g x y vt a1 b1 c1 d1 f1 g1 a2 b2 c2 d2 f2 g2 po lo hi fi st tw se qu ra bu rfl; rfl)) (fun t y p s q h => tset h (by rintro n vn a b c d f g x y vt a1 b1 c1 d1 f1 g1 a2 b2 c2 d2 f2 g2 po lo hi fi st tw se qu ra bu rfl; rfl)) (fun t y h => ⟨h.key, h.vmac, h.host⟩) (fun t y => ⟨rfl, rfl, rfl⟩))⟩
def spVni : Sp Ten := spNum 4 (fun t => t.vni) (fun t y => { t with vni := y })
theorem c_Vni {w V : World} {p : Nat × Obj} {E L : List (Nat × Obj)} (h : Mem w V (p :: (E ++ L))) :
    Calls Tryz.prog 44 #[.int .i64 4, .func (.func 45) #[] #[]] V fun e V' => ∃ f E', e = .returned f.val ∧ Mem w V' (p :: (E' ++ L)) ∧ Sub E E' ∧ Fd w E' IT JT f spVni := by
  refine (mk_num_TU h 4 45).mono ?_
  rintro e V' ⟨bs, bo, rfl, hM⟩
  exact ⟨_, _ :: _ :: E, rfl, swap_front2 hM, fun q hq => List.mem_cons_of_mem _ (List.mem_cons_of_mem _ hq), fd_num_TU bs bo 4 45 1 (by omega) fits32 _ _ (List.mem_cons_self ..) (List.mem_cons_of_mem _ (List.mem_cons_self ..)) (enters_of Tryz.func45 (by kernel_rfl) rfl) acc_Vni (fun t r V g off h => h.cell 1 (tget h.1.len (by rintro n vn a b c d f g x y vt a1 b1 c1 d1 f1 g1 a2 b2 c2 d2 f2 g2 po lo hi fi st tw se qu ra bu rfl; rfl))) (lens_T 1 (by omega) (fun t => .int .u32 t.vni) (fun y => .int .u32 y) (fun t y => { t with vni := y }) (fun t p s q h => tget h (by rintro n vn a b c d f g x y vt a1 b1 c1 d1 f1 g1 a2 b2 c2 d2 f2 g2 po lo hi fi st tw se qu ra bu rfl; rfl)) (fun t y p s q h => tset h (by rintro n vn a b c d f g x y vt a1 b1 c1 d1 f1 g1 a2 b2 c2 d2 f2 g2 po lo hi fi st tw se qu ra bu rfl; rfl)) (fun t y h => ⟨h.key, h.vmac, h.host⟩) (fun t y => ⟨rfl, rfl, rfl⟩))⟩
def spKey : Sp Ten := spOct 8 (fun t => t.key) (fun t y => { t with key := y })
theorem c_Key {w V : World} {p : Nat × Obj} {E L : List (Nat × Obj)} (h : Mem w V (p :: (E ++ L))) :
    Calls Tryz.prog 46 #[.func (.func 47) #[] #[]] V fun e V' => ∃ f E', e = .returned f.val ∧ Mem w V' (p :: (E' ++ L)) ∧ Sub E E' ∧ Fd w E' IT JT f spKey := by
  refine (mk_Oct_T h 47).mono ?_
  rintro e V' ⟨bo, rfl, hM⟩
  refine ⟨_, _ :: E, rfl, swap_front hM, fun q hq => List.mem_cons_of_mem _ hq, fd_Oct_T bo 8 47 2 (by omega) (by omega) _ _ (List.mem_cons_self ..) (enters_of Tryz.func47 (by kernel_rfl) rfl) acc_Key (fun t r V g off h => ⟨h.1.len.key, h.row 2 t.key h.1.key (by rw [h.1.len.key]; omega) [.string t.name, .int .u32 t.vni] _ rfl rfl⟩) ?_⟩
  exact lens_TO 2 8 (fun t y => { t with key := y }) (fun t p s q h => ⟨[.string t.name, .int .u32 t.vni], t.key.map (Value.int .u8), _, rfl, (by rw [List.length_map]; exact h.key), rfl, fun y => rfl⟩) (fun t y hy h => ⟨hy, h.vmac, h.host⟩) (fun t y => ⟨rfl, rfl, rfl⟩)
def spVtep : Sp Ten := spNum 4 (fun t => t.vtep) (fun t y => { t with vtep := y })
theorem c_Vtep {w V : World} {p : Nat × Obj} {E L : List (Nat × Obj)} (h : Mem w V (p :: (E ++ L))) :
    Calls Tryz.prog 44 #[.int .i64 4, .func (.func 48) #[] #[]] V fun e V' => ∃ f E', e = .returned f.val ∧ Mem w V' (p :: (E' ++ L)) ∧ Sub E E' ∧ Fd w E' IT JT f spVtep := by
  refine (mk_num_TU h 4 48).mono ?_
  rintro e V' ⟨bs, bo, rfl, hM⟩
  exact ⟨_, _ :: _ :: E, rfl, swap_front2 hM, fun q hq => List.mem_cons_of_mem _ (List.mem_cons_of_mem _ hq), fd_num_TU bs bo 4 48 10 (by omega) fits32 _ _ (List.mem_cons_self ..) (List.mem_cons_of_mem _ (List.mem_cons_self ..)) (enters_of Tryz.func48 (by kernel_rfl) rfl) acc_Vtep (fun t r V g off h => h.cell 10 (tget h.1.len (by rintro n vn a b c d f g x y vt a1 b1 c1 d1 f1 g1 a2 b2 c2 d2 f2 g2 po lo hi fi st tw se qu ra bu rfl; rfl))) (lens_T 10 (by omega) (fun t => .int .u32 t.vtep) (fun y => .int .u32 y) (fun t y => { t with vtep := y }) (fun t p s q h => tget h (by rintro n vn a b c d f g x y vt a1 b1 c1 d1 f1 g1 a2 b2 c2 d2 f2 g2 po lo hi fi st tw se qu ra bu rfl; rfl)) (fun t y p s q h => tset h (by rintro n vn a b c d f g x y vt a1 b1 c1 d1 f1 g1 a2 b2 c2 d2 f2 g2 po lo hi fi st tw se qu ra bu rfl; rfl)) (fun t y h => ⟨h.key, h.vmac, h.host⟩) (fun t y => ⟨rfl, rfl, rfl⟩))⟩
def spVtepMac : Sp Ten := spOct 6 (fun t => t.vmac) (fun t y => { t with vmac := y })
theorem c_VtepMac {w V : World} {p : Nat × Obj} {E L : List (Nat × Obj)} (h : Mem w V (p :: (E ++ L))) :
    Calls Tryz.prog 46 #[.func (.func 49) #[] #[]] V fun e V' => ∃ f E', e = .returned f.val ∧ Mem w V' (p :: (E' ++ L)) ∧ Sub E E' ∧ Fd w E' IT JT f spVtepMac := by
  refine (mk_Oct_T h 49).mono ?_
  rintro e V' ⟨bo, rfl, hM⟩
  refine ⟨_, _ :: E, rfl, swap_front hM, fun q hq => List.mem_cons_of_mem _ hq, fd_Oct_T bo 6 49 11 (by omega) (by omega) _ _ (List.mem_cons_self ..) (enters_of Tryz.func49 (by kernel_rfl) rfl) acc_VtepMac (fun t r V g off h => ⟨h.1.len.vmac, h.row 11 t.vmac h.1.vmac (by rw [h.1.len.vmac]; omega) (.string t.name :: .int .u32 t.vni :: (t.key.map (Value.int .u8) ++ [.int .u32 t.vtep])) (t.host.map (Value.int .u8) ++ ttl t r.1 r.2.1 r.2.2) (by simp [h.1.len.key]) (by simp [tc, ttl])⟩) ?_⟩
  exact lens_TO 11 6 (fun t y => { t with vmac := y }) (fun t p s q h => ⟨(.string t.name :: .int .u32 t.vni :: (t.key.map (Value.int .u8) ++ [.int .u32 t.vtep])), t.vmac.map (Value.int .u8), (t.host.map (Value.int .u8) ++ ttl t p s q), (by simp [h.key]), (by rw [List.length_map]; exact h.vmac), (by simp [tc, ttl]), fun y => (by simp [tc, ttl])⟩) (fun t y hy h => ⟨h.key, hy, h.host⟩) (fun t y => ⟨rfl, rfl, rfl⟩)
def spHost : Sp Ten := spOct 6 (fun t => t.host) (fun t y => { t with host := y })
theorem c_Host {w V : World} {p : Nat × Obj} {E L : List (Nat × Obj)} (h : Mem w V (p :: (E ++ L))) :
    Calls Tryz.prog 46 #[.func (.func 50) #[] #[]] V fun e V' => ∃ f E', e = .returned f.val ∧ Mem w V' (p :: (E' ++ L)) ∧ Sub E E' ∧ Fd w E' IT JT f spHost := by
  refine (mk_Oct_T h 50).mono ?_
  rintro e V' ⟨bo, rfl, hM⟩
  refine ⟨_, _ :: E, rfl, swap_front hM, fun q hq => List.mem_cons_of_mem _ hq, fd_Oct_T bo 6 50 17 (by omega) (by omega) _ _ (List.mem_cons_self ..) (enters_of Tryz.func50 (by kernel_rfl) rfl) acc_Host (fun t r V g off h => ⟨h.1.len.host, h.row 17 t.host h.1.host (by rw [h.1.len.host]; omega) (.string t.name :: .int .u32 t.vni :: (t.key.map (Value.int .u8) ++ .int .u32 t.vtep :: t.vmac.map (Value.int .u8))) (ttl t r.1 r.2.1 r.2.2) (by simp [h.1.len.key, h.1.len.vmac]) (by simp [tc, ttl])⟩) ?_⟩
  exact lens_TO 17 6 (fun t y => { t with host := y }) (fun t p s q h => ⟨(.string t.name :: .int .u32 t.vni :: (t.key.map (Value.int .u8) ++ .int .u32 t.vtep :: t.vmac.map (Value.int .u8))), t.host.map (Value.int .u8), (ttl t p s q), (by simp [h.key, h.vmac]), (by rw [List.length_map]; exact h.host), (by simp [tc, ttl]), fun y => (by simp [tc, ttl])⟩) (fun t y hy h => ⟨h.key, h.vmac, hy⟩) (fun t y => ⟨rfl, rfl, rfl⟩)
def spLo : Sp Ten := spNum 2 (fun t => t.lo) (fun t y => { t with lo := y })
theorem c_Lo {w V : World} {p : Nat × Obj} {E L : List (Nat × Obj)} (h : Mem w V (p :: (E ++ L))) :
    Calls Tryz.prog 51 #[.int .i64 2, .func (.func 52) #[] #[]] V fun e V' => ∃ f E', e = .returned f.val ∧ Mem w V' (p :: (E' ++ L)) ∧ Sub E E' ∧ Fd w E' IT JT f spLo := by
  refine (mk_num_TH h 2 52).mono ?_
  rintro e V' ⟨bs, bo, rfl, hM⟩
  exact ⟨_, _ :: _ :: E, rfl, swap_front2 hM, fun q hq => List.mem_cons_of_mem _ (List.mem_cons_of_mem _ hq), fd_num_TH bs bo 2 52 24 (by omega) fits16 _ _ (List.mem_cons_self ..) (List.mem_cons_of_mem _ (List.mem_cons_self ..)) (enters_of Tryz.func52 (by kernel_rfl) rfl) acc_Lo (fun t r V g off h => h.cell 24 (tget h.1.len (by rintro n vn a b c d f g x y vt a1 b1 c1 d1 f1 g1 a2 b2 c2 d2 f2 g2 po lo hi fi st tw se qu ra bu rfl; rfl))) (lens_T 24 (by omega) (fun t => .int .u16 t.lo) (fun y => .int .u16 y) (fun t y => { t with lo := y }) (fun t p s q h => tget h (by rintro n vn a b c d f g x y vt a1 b1 c1 d1 f1 g1 a2 b2 c2 d2 f2 g2 po lo hi fi st tw se qu ra bu rfl; rfl)) (fun t y p s q h => tset h (by rintro n vn a b c d f g x y vt a1 b1 c1 d1 f1 g1 a2 b2 c2 d2 f2 g2 po lo hi fi st tw se qu ra bu rfl; rfl)) (fun t y h => ⟨h.key, h.vmac, h.host⟩) (fun t y => ⟨rfl, rfl, rfl⟩))⟩
def spHi : Sp Ten := spNum 2 (fun t => t.hi) (fun t y => { t with hi := y })
theorem c_Hi {w V : World} {p : Nat × Obj} {E L : List (Nat × Obj)} (h : Mem w V (p :: (E ++ L))) :
    Calls Tryz.prog 51 #[.int .i64 2, .func (.func 53) #[] #[]] V fun e V' => ∃ f E', e = .returned f.val ∧ Mem w V' (p :: (E' ++ L)) ∧ Sub E E' ∧ Fd w E' IT JT f spHi := by
  refine (mk_num_TH h 2 53).mono ?_
  rintro e V' ⟨bs, bo, rfl, hM⟩
  exact ⟨_, _ :: _ :: E, rfl, swap_front2 hM, fun q hq => List.mem_cons_of_mem _ (List.mem_cons_of_mem _ hq), fd_num_TH bs bo 2 53 25 (by omega) fits16 _ _ (List.mem_cons_self ..) (List.mem_cons_of_mem _ (List.mem_cons_self ..)) (enters_of Tryz.func53 (by kernel_rfl) rfl) acc_Hi (fun t r V g off h => h.cell 25 (tget h.1.len (by rintro n vn a b c d f g x y vt a1 b1 c1 d1 f1 g1 a2 b2 c2 d2 f2 g2 po lo hi fi st tw se qu ra bu rfl; rfl))) (lens_T 25 (by omega) (fun t => .int .u16 t.hi) (fun y => .int .u16 y) (fun t y => { t with hi := y }) (fun t p s q h => tget h (by rintro n vn a b c d f g x y vt a1 b1 c1 d1 f1 g1 a2 b2 c2 d2 f2 g2 po lo hi fi st tw se qu ra bu rfl; rfl)) (fun t y p s q h => tset h (by rintro n vn a b c d f g x y vt a1 b1 c1 d1 f1 g1 a2 b2 c2 d2 f2 g2 po lo hi fi st tw se qu ra bu rfl; rfl)) (fun t y h => ⟨h.key, h.vmac, h.host⟩) (fun t y => ⟨rfl, rfl, rfl⟩))⟩
def spFilter : Sp Ten := spNum 1 (fun t => t.filter) (fun t y => { t with filter := y })
theorem c_Filter {w V : World} {p : Nat × Obj} {E L : List (Nat × Obj)} (h : Mem w V (p :: (E ++ L))) :
    Calls Tryz.prog 54 #[.int .i64 1, .func (.func 55) #[] #[]] V fun e V' => ∃ f E', e = .returned f.val ∧ Mem w V' (p :: (E' ++ L)) ∧ Sub E E' ∧ Fd w E' IT JT f spFilter := by
  refine (mk_num_TI h 1 55).mono ?_
  rintro e V' ⟨bs, bo, rfl, hM⟩
  exact ⟨_, _ :: _ :: E, rfl, swap_front2 hM, fun q hq => List.mem_cons_of_mem _ (List.mem_cons_of_mem _ hq), fd_num_TI bs bo 1 55 26 (by omega) (fits64 1 (by omega)) _ _ (List.mem_cons_self ..) (List.mem_cons_of_mem _ (List.mem_cons_self ..)) (enters_of Tryz.func55 (by kernel_rfl) rfl) acc_Filter (fun t r V g off h => h.cell 26 (tget h.1.len (by rintro n vn a b c d f g x y vt a1 b1 c1 d1 f1 g1 a2 b2 c2 d2 f2 g2 po lo hi fi st tw se qu ra bu rfl; rfl))) (lens_T 26 (by omega) (fun t => .int .i64 t.filter) (fun y => .int .i64 y) (fun t y => { t with filter := y }) (fun t p s q h => tget h (by rintro n vn a b c d f g x y vt a1 b1 c1 d1 f1 g1 a2 b2 c2 d2 f2 g2 po lo hi fi st tw se qu ra bu rfl; rfl)) (fun t y p s q h => tset h (by rintro n vn a b c d f g x y vt a1 b1 c1 d1 f1 g1 a2 b2 c2 d2 f2 g2 po lo hi fi st tw se qu ra bu rfl; rfl)) (fun t y h => ⟨h.key, h.vmac, h.host⟩) (fun t y => ⟨rfl, rfl, rfl⟩))⟩
def spSess : Sp Ten := spNum 2 (fun t => t.sess) (fun t y => { t with sess := y })
theorem c_Sess {w V : World} {p : Nat × Obj} {E L : List (Nat × Obj)} (h : Mem w V (p :: (E ++ L))) :
    Calls Tryz.prog 54 #[.int .i64 2, .func (.func 56) #[] #[]] V fun e V' => ∃ f E', e = .returned f.val ∧ Mem w V' (p :: (E' ++ L)) ∧ Sub E E' ∧ Fd w E' IT JT f spSess := by
  refine (mk_num_TI h 2 56).mono ?_
  rintro e V' ⟨bs, bo, rfl, hM⟩
  exact ⟨_, _ :: _ :: E, rfl, swap_front2 hM, fun q hq => List.mem_cons_of_mem _ (List.mem_cons_of_mem _ hq), fd_num_TI bs bo 2 56 29 (by omega) (fits64 2 (by omega)) _ _ (List.mem_cons_self ..) (List.mem_cons_of_mem _ (List.mem_cons_self ..)) (enters_of Tryz.func56 (by kernel_rfl) rfl) acc_Sess (fun t r V g off h => h.cell 29 (tget h.1.len (by rintro n vn a b c d f g x y vt a1 b1 c1 d1 f1 g1 a2 b2 c2 d2 f2 g2 po lo hi fi st tw se qu ra bu rfl; rfl))) (lens_T 29 (by omega) (fun t => .int .i64 t.sess) (fun y => .int .i64 y) (fun t y => { t with sess := y }) (fun t p s q h => tget h (by rintro n vn a b c d f g x y vt a1 b1 c1 d1 f1 g1 a2 b2 c2 d2 f2 g2 po lo hi fi st tw se qu ra bu rfl; rfl)) (fun t y p s q h => tset h (by rintro n vn a b c d f g x y vt a1 b1 c1 d1 f1 g1 a2 b2 c2 d2 f2 g2 po lo hi fi st tw se qu ra bu rfl; rfl)) (fun t y h => ⟨h.key, h.vmac, h.host⟩) (fun t y => ⟨rfl, rfl, rfl⟩))⟩
def spQueue : Sp Ten := spNum 2 (fun t => t.queue) (fun t y => { t with queue := y })
theorem c_Queue {w V : World} {p : Nat × Obj} {E L : List (Nat × Obj)} (h : Mem w V (p :: (E ++ L))) :
    Calls Tryz.prog 54 #[.int .i64 2, .func (.func 57) #[] #[]] V fun e V' => ∃ f E', e = .returned f.val ∧ Mem w V' (p :: (E' ++ L)) ∧ Sub E E' ∧ Fd w E' IT JT f spQueue := by
  refine (mk_num_TI h 2 57).mono ?_
  rintro e V' ⟨bs, bo, rfl, hM⟩
  exact ⟨_, _ :: _ :: E, rfl, swap_front2 hM, fun q hq => List.mem_cons_of_mem _ (List.mem_cons_of_mem _ hq), fd_num_TI bs bo 2 57 30 (by omega) (fits64 2 (by omega)) _ _ (List.mem_cons_self ..) (List.mem_cons_of_mem _ (List.mem_cons_self ..)) (enters_of Tryz.func57 (by kernel_rfl) rfl) acc_Queue (fun t r V g off h => h.cell 30 (tget h.1.len (by rintro n vn a b c d f g x y vt a1 b1 c1 d1 f1 g1 a2 b2 c2 d2 f2 g2 po lo hi fi st tw se qu ra bu rfl; rfl))) (lens_T 30 (by omega) (fun t => .int .i64 t.queue) (fun y => .int .i64 y) (fun t y => { t with queue := y }) (fun t p s q h => tget h (by rintro n vn a b c d f g x y vt a1 b1 c1 d1 f1 g1 a2 b2 c2 d2 f2 g2 po lo hi fi st tw se qu ra bu rfl; rfl)) (fun t y p s q h => tset h (by rintro n vn a b c d f g x y vt a1 b1 c1 d1 f1 g1 a2 b2 c2 d2 f2 g2 po lo hi fi st tw se qu ra bu rfl; rfl)) (fun t y h => ⟨h.key, h.vmac, h.host⟩) (fun t y => ⟨rfl, rfl, rfl⟩))⟩
def spRate : Sp Ten := spNum 4 (fun t => t.rate) (fun t y => { t with rate := y })
theorem c_Rate {w V : World} {p : Nat × Obj} {E L : List (Nat × Obj)} (h : Mem w V (p :: (E ++ L))) :
    Calls Tryz.prog 44 #[.int .i64 4, .func (.func 58) #[] #[]] V fun e V' => ∃ f E', e = .returned f.val ∧ Mem w V' (p :: (E' ++ L)) ∧ Sub E E' ∧ Fd w E' IT JT f spRate := by
  refine (mk_num_TU h 4 58).mono ?_
  rintro e V' ⟨bs, bo, rfl, hM⟩
  exact ⟨_, _ :: _ :: E, rfl, swap_front2 hM, fun q hq => List.mem_cons_of_mem _ (List.mem_cons_of_mem _ hq), fd_num_TU bs bo 4 58 31 (by omega) fits32 _ _ (List.mem_cons_self ..) (List.mem_cons_of_mem _ (List.mem_cons_self ..)) (enters_of Tryz.func58 (by kernel_rfl) rfl) acc_Rate (fun t r V g off h => h.cell 31 (tget h.1.len (by rintro n vn a b c d f g x y vt a1 b1 c1 d1 f1 g1 a2 b2 c2 d2 f2 g2 po lo hi fi st tw se qu ra bu rfl; rfl))) (lens_T 31 (by omega) (fun t => .int .u32 t.rate) (fun y => .int .u32 y) (fun t y => { t with rate := y }) (fun t p s q h => tget h (by rintro n vn a b c d f g x y vt a1 b1 c1 d1 f1 g1 a2 b2 c2 d2 f2 g2 po lo hi fi st tw se qu ra bu rfl; rfl)) (fun t y p s q h => tset h (by rintro n vn a b c d f g x y vt a1 b1 c1 d1 f1 g1 a2 b2 c2 d2 f2 g2 po lo hi fi st tw se qu ra bu rfl; rfl)) (fun t y h => ⟨h.key, h.vmac, h.host⟩) (fun t y => ⟨rfl, rfl, rfl⟩))⟩
def spBurst : Sp Ten := spNum 4 (fun t => t.burst) (fun t y => { t with burst := y })
theorem c_Burst {w V : World} {p : Nat × Obj} {E L : List (Nat × Obj)} (h : Mem w V (p :: (E ++ L))) :
    Calls Tryz.prog 44 #[.int .i64 4, .func (.func 59) #[] #[]] V fun e V' => ∃ f E', e = .returned f.val ∧ Mem w V' (p :: (E' ++ L)) ∧ Sub E E' ∧ Fd w E' IT JT f spBurst := by
  refine (mk_num_TU h 4 59).mono ?_
  rintro e V' ⟨bs, bo, rfl, hM⟩
  exact ⟨_, _ :: _ :: E, rfl, swap_front2 hM, fun q hq => List.mem_cons_of_mem _ (List.mem_cons_of_mem _ hq), fd_num_TU bs bo 4 59 32 (by omega) fits32 _ _ (List.mem_cons_self ..) (List.mem_cons_of_mem _ (List.mem_cons_self ..)) (enters_of Tryz.func59 (by kernel_rfl) rfl) acc_Burst (fun t r V g off h => h.cell 32 (tget h.1.len (by rintro n vn a b c d f g x y vt a1 b1 c1 d1 f1 g1 a2 b2 c2 d2 f2 g2 po lo hi fi st tw se qu ra bu rfl; rfl))) (lens_T 32 (by omega) (fun t => .int .u32 t.burst) (fun y => .int .u32 y) (fun t y => { t with burst := y }) (fun t p s q h => tget h (by rintro n vn a b c d f g x y vt a1 b1 c1 d1 f1 g1 a2 b2 c2 d2 f2 g2 po lo hi fi st tw se qu ra bu rfl; rfl)) (fun t y p s q h => tset h (by rintro n vn a b c d f g x y vt a1 b1 c1 d1 f1 g1 a2 b2 c2 d2 f2 g2 po lo hi fi st tw se qu ra bu rfl; rfl)) (fun t y h => ⟨h.key, h.vmac, h.host⟩) (fun t y => ⟨rfl, rfl, rfl⟩))⟩
def spPool : Sp Ten := spCnt (fun t => t.pool.length) set_pool
theorem c_Pool {w V : World} {p : Nat × Obj} {E L : List (Nat × Obj)} (h : Mem w V (p :: (E ++ L))) :
    Calls Tryz.prog 60 #[.func (.func 38) #[] #[]] V fun e V' => ∃ f E', e = .returned f.val ∧ Mem w V' (p :: (E' ++ L)) ∧ Sub E E' ∧ Fd w E' IT JT f spPool := by
  refine (mk_Cnt_TU h 38).mono ?_
  rintro e V' ⟨bo, rfl, hM⟩
  refine ⟨_, _ :: E, rfl, swap_front hM, fun q hq => List.mem_cons_of_mem _ hq, fd_Cnt_TU bo 38 23 _ _ (List.mem_cons_self ..) (enters_of Tryz.func38 (by kernel_rfl) rfl) acc_Pool (fun r => r.1) (fun t r V g off h => ⟨?_, h.cell 23 (tget h.1.len (by rintro n vn a b c d f g x y vt a1 b1 c1 d1 f1 g1 a2 b2 c2 d2 f2 g2 po lo hi fi st tw se qu ra bu rfl; rfl))⟩) lens_Cpool⟩
  obtain ⟨a, c, e, h1, h2, h3, -⟩ := h.2.2.1
  have hl : (ux t.pool).length = t.pool.length := by simp [ux]
  rw [hl] at e h1
  exact ⟨a, c, e, h1, h2, h3⟩
def spStatics : Sp Ten := spCnt (fun t => t.stat.length) set_stat
theorem c_Statics {w V : World} {p : Nat × Obj} {E L : List (Nat × Obj)} (h : Mem w V (p :: (E ++ L))) :
    Calls Tryz.prog 61 #[.func (.func 39) #[] #[]] V fun e V' => ∃ f E', e = .returned f.val ∧ Mem w V' (p :: (E' ++ L)) ∧ Sub E E' ∧ Fd w E' IT JT f spStatics := by
  refine (mk_Cnt_TP h 39).mono ?_
  rintro e V' ⟨bo, rfl, hM⟩
  refine ⟨_, _ :: E, rfl, swap_front hM, fun q hq => List.mem_cons_of_mem _ hq, fd_Cnt_TP bo 39 27 _ _ (List.mem_cons_self ..) (enters_of Tryz.func39 (by kernel_rfl) rfl) acc_Statics (fun r => r.2.1) (fun t r V g off h => ⟨?_, h.cell 27 (tget h.1.len (by rintro n vn a b c d f g x y vt a1 b1 c1 d1 f1 g1 a2 b2 c2 d2 f2 g2 po lo hi fi st tw se qu ra bu rfl; rfl))⟩) lens_Cstat⟩
  obtain ⟨a, c, e, h1, h2, h3, -⟩ := h.2.2.2.1
  have hl : (px t.stat).length = t.stat.length := by simp [px]
  rw [hl] at e h1
  exact ⟨a, c, e, h1, h2, h3⟩
def spTwices : Sp Ten := spCnt (fun t => t.twi.length) set_twi
theorem c_Twices {w V : World} {p : Nat × Obj} {E L : List (Nat × Obj)} (h : Mem w V (p :: (E ++ L))) :
    Calls Tryz.prog 61 #[.func (.func 40) #[] #[]] V fun e V' => ∃ f E', e = .returned f.val ∧ Mem w V' (p :: (E' ++ L)) ∧ Sub E E' ∧ Fd w E' IT JT f spTwices := by
  refine (mk_Cnt_TP h 40).mono ?_
  rintro e V' ⟨bo, rfl, hM⟩
  refine ⟨_, _ :: E, rfl, swap_front hM, fun q hq => List.mem_cons_of_mem _ hq, fd_Cnt_TP bo 40 28 _ _ (List.mem_cons_self ..) (enters_of Tryz.func40 (by kernel_rfl) rfl) acc_Twices (fun r => r.2.2) (fun t r V g off h => ⟨?_, h.cell 28 (tget h.1.len (by rintro n vn a b c d f g x y vt a1 b1 c1 d1 f1 g1 a2 b2 c2 d2 f2 g2 po lo hi fi st tw se qu ra bu rfl; rfl))⟩) lens_Ctwi⟩
  obtain ⟨a, c, e, h1, h2, h3, -⟩ := h.2.2.2.2
  have hl : (px t.twi).length = t.twi.length := by simp [px]
  rw [hl] at e h1
  exact ⟨a, c, e, h1, h2, h3⟩
def spPoolI : Sp Ten := spItm 0 spU (fun t => t.pool) (fun t y => { t with pool := y })
theorem c_PoolI {w V : World} {p : Nat × Obj} {E L : List (Nat × Obj)} (h : Mem w V (p :: (E ++ L))) (fi : Fv) (hfi : Fd w E IU JU fi spU) :
    Calls Tryz.prog 62 #[.func (.func 38) #[] #[], fi.val] V fun e V' => ∃ f E', e = .returned f.val ∧ Mem w V' (p :: (E' ++ L)) ∧ Sub E E' ∧ Fd w E' IT JT f spPoolI := by
  refine (mk_Itm_TU h 38 fi).mono ?_
  rintro e V' ⟨bo, bi, rfl, hM⟩
  exact ⟨_, _ :: _ :: E, rfl, swap_front2 hM, fun q hq => List.mem_cons_of_mem _ (List.mem_cons_of_mem _ hq), fd_Itm_TU bo bi 38 23 _ _ fi spU spU_eq (hfi.more (fun q hq => List.mem_cons_of_mem _ (List.mem_cons_of_mem _ hq))) (List.mem_cons_self ..) (List.mem_cons_of_mem _ (List.mem_cons_self ..)) (enters_of Tryz.func38 (by kernel_rfl) rfl) acc_Pool (fun r => r.1) (fun t r V g off h => ⟨h.1.pool, h.2.2.1, h.cell 23 (tget h.1.len (by rintro n vn a b c d f g x y vt a1 b1 c1 d1 f1 g1 a2 b2 c2 d2 f2 g2 po lo hi fi st tw se qu ra bu rfl; rfl))⟩) lens_Ipool⟩
def spStaticsI : Sp Ten := spItm (0, 0) spP (fun t => t.stat) (fun t y => { t with stat := y })
theorem c_StaticsI {w V : World} {p : Nat × Obj} {E L : List (Nat × Obj)} (h : Mem w V (p :: (E ++ L))) (fi : Fv) (hfi : Fd w E IP JP fi spP) :
    Calls Tryz.prog 64 #[.func (.func 39) #[] #[], fi.val] V fun e V' => ∃ f E', e = .returned f.val ∧ Mem w V' (p :: (E' ++ L)) ∧ Sub E E' ∧ Fd w E' IT JT f spStaticsI := by
  refine (mk_Itm_TP h 39 fi).mono ?_
  rintro e V' ⟨bo, bi, rfl, hM⟩
  exact ⟨_, _ :: _ :: E, rfl, swap_front2 hM, fun q hq => List.mem_cons_of_mem _ (List.mem_cons_of_mem _ hq), fd_Itm_TP bo bi 39 27 _ _ fi spP spP_eq (hfi.more (fun q hq => List.mem_cons_of_mem _ (List.mem_cons_of_mem _ hq))) (List.mem_cons_self ..) (List.mem_cons_of_mem _ (List.mem_cons_self ..)) (enters_of Tryz.func39 (by kernel_rfl) rfl) acc_Statics (fun r => r.2.1) (fun t r V g off h => ⟨h.1.stat, h.2.2.2.1, h.cell 27 (tget h.1.len (by rintro n vn a b c d f g x y vt a1 b1 c1 d1 f1 g1 a2 b2 c2 d2 f2 g2 po lo hi fi st tw se qu ra bu rfl; rfl))⟩) lens_Istat⟩
def spTwicesI : Sp Ten := spItm (0, 0) spP (fun t => t.twi) (fun t y => { t with twi := y })
theorem c_TwicesI {w V : World} {p : Nat × Obj} {E L : List (Nat × Obj)} (h : Mem w V (p :: (E ++ L))) (fi : Fv) (hfi : Fd w E IP JP fi spP) :
    Calls Tryz.prog 64 #[.func (.func 40) #[] #[], fi.val] V fun e V' => ∃ f E', e = .returned f.val ∧ Mem w V' (p :: (E' ++ L)) ∧ Sub E E' ∧ Fd w E' IT JT f spTwicesI := by
  refine (mk_Itm_TP h 40 fi).mono ?_
  rintro e V' ⟨bo, bi, rfl, hM⟩
  exact ⟨_, _ :: _ :: E, rfl, swap_front2 hM, fun q hq => List.mem_cons_of_mem _ (List.mem_cons_of_mem _ hq), fd_Itm_TP bo bi 40 28 _ _ fi spP spP_eq (hfi.more (fun q hq => List.mem_cons_of_mem _ (List.mem_cons_of_mem _ hq))) (List.mem_cons_self ..) (List.mem_cons_of_mem _ (List.mem_cons_self ..)) (enters_of Tryz.func40 (by kernel_rfl) rfl) acc_Twices (fun r => r.2.2) (fun t r V g off h => ⟨h.1.twi, h.2.2.2.2, h.cell 28 (tget h.1.len (by rintro n vn a b c d f g x y vt a1 b1 c1 d1 f1 g1 a2 b2 c2 d2 f2 g2 po lo hi fi st tw se qu ra bu rfl; rfl))⟩) lens_Itwi⟩
theorem c_address {w V : World} {p : Nat × Obj} {E L : List (Nat × Obj)} (h : Mem w V (p :: (E ++ L))) :
    Calls Tryz.prog 63 #[] V fun e V' => ∃ f E', e = .returned f.val ∧ Mem w V' (p :: (E' ++ L)) ∧ Sub E E' ∧ Fd w E' IU JU f spU := by
  refine (address_any h).mono ?_
  rintro e V' ⟨f, A, rfl, hM, hF⟩
  exact ⟨f, A ++ E, rfl, swap_app hM, fun q hq => List.mem_append_right _ hq, hF.more (fun q hq => List.mem_append_left _ hq)⟩
theorem c_pair {w V : World} {p : Nat × Obj} {E L : List (Nat × Obj)} (h : Mem w V (p :: (E ++ L))) :
    Calls Tryz.prog 65 #[] V fun e V' => ∃ f E', e = .returned f.val ∧ Mem w V' (p :: (E' ++ L)) ∧ Sub E E' ∧ Fd w E' IP JP f spP := by
  refine (pair_any h).mono ?_
  rintro e V' ⟨f, A, rfl, hM, hF⟩
  exact ⟨f, A ++ E, rfl, swap_app hM, fun q hq => List.mem_append_right _ hq, hF.more (fun q hq => List.mem_append_left _ hq)⟩
/-- A tenant's fields, in their order. -/
def tsp : List (Sp Ten) := [spName, spVni, spKey, spVtep, spVtepMac, spHost, spLo, spHi, spFilter, spSess, spQueue, spRate, spBurst, spPool, spStatics, spTwices, spPoolI, spStaticsI, spTwicesI]
def spT : Sp Ten := spAll tsp
end Go.Proofs.YtbccadbnaggkhaaGreat

