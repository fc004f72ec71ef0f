/-
  Settings as bytes: where a tenant's fields lie: the program's own functions in a list.
  Settings as bytes: a tenant in memory, as it is written, read, held against another.
  Settings as bytes: the fields of a tenant, each as the program makes it.
  Settings as bytes: the program's tenant(): all fields of a tenant, in their order.
-/
import Derived.Test.YtngegdamcfmonaaGreatM19
import Derived.Test.YtngegdamcfmonaaGreatM16
import Derived.Test.YtngegdamcfmonaaGreatM17
import Derived.Test.YtngegdamcfmonaaGreatM14
import Derived.Test.YtngegdamcfmonaaGreatM15
namespace Go.Proofs.YtngegdamcfmonaaGreat
open Go.RowKit
open Sm
open Cf
set_option linter.unusedVariables false
set_option maxRecDepth 20000

theorem acc_Name (V : World) (g off : Nat) : Calls Tryz.prog 66 #[.pointer (some ⟨g, off, none⟩)] V fun e V' => e = .returned (.pointer (some ⟨g, off + 0, none⟩)) ∧ V = V' := by
  go_enter Tryz.func66, Tryz.ntmps66
  go_wp2
  go_ret
  exact ⟨rfl, rfl⟩
theorem acc_Vni (V : World) (g off : Nat) : Calls Tryz.prog 68 #[.pointer (some ⟨g, off, none⟩)] V fun e V' => e = .returned (.pointer (some ⟨g, off + 1, none⟩)) ∧ V = V' := by
  go_enter Tryz.func68, Tryz.ntmps68
  go_wp2
  go_ret
  exact ⟨rfl, rfl⟩
theorem acc_Vtep (V : World) (g off : Nat) : Calls Tryz.prog 71 #[.pointer (some ⟨g, off, none⟩)] V fun e V' => e = .returned (.pointer (some ⟨g, off + 10, none⟩)) ∧ V = V' := by
  go_enter Tryz.func71, Tryz.ntmps71
  go_wp2
  go_ret
  exact ⟨rfl, rfl⟩
theorem acc_Lo (V : World) (g off : Nat) : Calls Tryz.prog 75 #[.pointer (some ⟨g, off, none⟩)] V fun e V' => e = .returned (.pointer (some ⟨g, off + 24, none⟩)) ∧ V = V' := by
  go_enter Tryz.func75, Tryz.ntmps75
  go_wp2
  go_ret
  exact ⟨rfl, rfl⟩
theorem acc_Hi (V : World) (g off : Nat) : Calls Tryz.prog 76 #[.pointer (some ⟨g, off, none⟩)] V fun e V' => e = .returned (.pointer (some ⟨g, off + 25, none⟩)) ∧ V = V' := by
  go_enter Tryz.func76, Tryz.ntmps76
  go_wp2
  go_ret
  exact ⟨rfl, rfl⟩
theorem acc_Filter (V : World) (g off : Nat) : Calls Tryz.prog 78 #[.pointer (some ⟨g, off, none⟩)] V fun e V' => e = .returned (.pointer (some ⟨g, off + 26, none⟩)) ∧ V = V' := by
  go_enter Tryz.func78, Tryz.ntmps78
  go_wp2
  go_ret
  exact ⟨rfl, rfl⟩
theorem acc_Sess (V : World) (g off : Nat) : Calls Tryz.prog 79 #[.pointer (some ⟨g, off, none⟩)] V fun e V' => e = .returned (.pointer (some ⟨g, off + 29, none⟩)) ∧ V = V' := by
  go_enter Tryz.func79, Tryz.ntmps79
  go_wp2
  go_ret
  exact ⟨rfl, rfl⟩
theorem acc_Queue (V : World) (g off : Nat) : Calls Tryz.prog 80 #[.pointer (some ⟨g, off, none⟩)] V fun e V' => e = .returned (.pointer (some ⟨g, off + 30, none⟩)) ∧ V = V' := by
  go_enter Tryz.func80, Tryz.ntmps80
  go_wp2
  go_ret
  exact ⟨rfl, rfl⟩
theorem acc_Rate (V : World) (g off : Nat) : Calls Tryz.prog 81 #[.pointer (some ⟨g, off, none⟩)] V fun e V' => e = .returned (.pointer (some ⟨g, off + 31, none⟩)) ∧ V = V' := by
  go_enter Tryz.func81, Tryz.ntmps81
  go_wp2
  go_ret
  exact ⟨rfl, rfl⟩
theorem acc_Burst (V : World) (g off : Nat) : Calls Tryz.prog 82 #[.pointer (some ⟨g, off, none⟩)] V fun e V' => e = .returned (.pointer (some ⟨g, off + 32, none⟩)) ∧ V = V' := by
  go_enter Tryz.func82, Tryz.ntmps82
  go_wp2
  go_ret
  exact ⟨rfl, rfl⟩
theorem acc_Pool (V : World) (g off : Nat) : Calls Tryz.prog 61 #[.pointer (some ⟨g, off, none⟩)] V fun e V' => e = .returned (.pointer (some ⟨g, off + 23, none⟩)) ∧ V = V' := by
  go_enter Tryz.func61, Tryz.ntmps61
  go_wp2
  go_ret
  exact ⟨rfl, rfl⟩
theorem acc_Statics (V : World) (g off : Nat) : Calls Tryz.prog 62 #[.pointer (some ⟨g, off, none⟩)] V fun e V' => e = .returned (.pointer (some ⟨g, off + 27, none⟩)) ∧ V = V' := by
  go_enter Tryz.func62, Tryz.ntmps62
  go_wp2
  go_ret
  exact ⟨rfl, rfl⟩
theorem acc_Twices (V : World) (g off : Nat) : Calls Tryz.prog 63 #[.pointer (some ⟨g, off, none⟩)] V fun e V' => e = .returned (.pointer (some ⟨g, off + 28, none⟩)) ∧ V = V' := by
  go_enter Tryz.func63, Tryz.ntmps63
  go_wp2
  go_ret
  exact ⟨rfl, rfl⟩
theorem acc_Key (V : World) (g off : Nat) : Calls Tryz.prog 70 #[.pointer (some ⟨g, off, none⟩)] V fun e V' => e = .returned (.slice (some ⟨g, off + 2, none⟩) 8 8) ∧ V = V' := by
  go_enter Tryz.func70, Tryz.ntmps70
  go_wp2
  go_ret
  exact ⟨rfl, rfl⟩
theorem acc_VtepMac (V : World) (g off : Nat) : Calls Tryz.prog 72 #[.pointer (some ⟨g, off, none⟩)] V fun e V' => e = .returned (.slice (some ⟨g, off + 11, none⟩) 6 6) ∧ V = V' := by
  go_enter Tryz.func72, Tryz.ntmps72
  go_wp2
  go_ret
  exact ⟨rfl, rfl⟩
theorem acc_Host (V : World) (g off : Nat) : Calls Tryz.prog 73 #[.pointer (some ⟨g, off, none⟩)] V fun e V' => e = .returned (.slice (some ⟨g, off + 17, none⟩) 6 6) ∧ V = V' := by
  go_enter Tryz.func73, Tryz.ntmps73
  go_wp2
  go_ret
  exact ⟨rfl, rfl⟩
end Go.Proofs.YtngegdamcfmonaaGreat

namespace Go.Proofs.YtngegdamcfmonaaGreat
open Go.RowKit
open Sm
open Cf
set_option linter.unusedVariables false
set_option maxRecDepth 20000

/-- What is known of a tenant that comes in. -/
structure TIn (t : Ten) : Prop where
  len : TLen t
  key : IsBytes t.key
  vmac : IsBytes t.vmac
  host : IsBytes t.host
  name : t.name.size ≤ 1000000
  pool : t.pool.length ≤ 1000000
  stat : t.stat.length ≤ 1000000
  twi : t.twi.length ≤ 1000000
/-- A tenant that lies at a place, its lists the values r. -/
def IT : Rp Ten (Value × Value × Value) := fun t r V g off =>
  TIn t ∧ V.rangeAt g off (tc t r.1 r.2.1 r.2.2) ∧ Rw V 1 r.1 (ux t.pool) ∧ Rw V 2 r.2.1 (px t.stat) ∧ Rw V 2 r.2.2 (px t.twi)
/-- A list of the call's own, in a block of its own, or none. -/
def lv (h : Nat) : List (List Value) → Value
  | [] => nilV
  | x :: xs => .slice (some ⟨h, 0, none⟩) (x :: xs).length (x :: xs).length
def lb (h : Nat) (T : TypeId) : List (List Value) → List (Nat × Obj)
  | [] => []
  | x :: xs => [(h, .cells (x :: xs).flatten.toArray T (0, 0))]
/-- A tenant that is being read. -/
def JT : St' Ten := fun w t g T pre post V K => TLen t ∧ (t.pool.length ≤ 255 ∧ t.stat.length ≤ 255 ∧ t.twi.length ≤ 255) ∧ ∃ hp hs hq,
  Mem w V ((g, .cells (pre ++ (tc t (lv hp (ux t.pool)) (lv hs (px t.stat)) (lv hq (px t.twi)) ++ post)).toArray T (0, 0)) ::
    (lb hp 22 (ux t.pool) ++ (lb hs 142 (px t.stat) ++ (lb hq 142 (px t.twi) ++ K))))
theorem Mem.subl {w V : World} {L K : List (Nat × Obj)} (h : Mem w V L) (hs : K.Sublist L) : Mem w V K :=
  ⟨h.below, fun p hp => h.low p (hs.subset hp), fun p hp => h.at_ p (hs.subset hp), h.apart.sublist (hs.map _)⟩
theorem Mem.dropA {w V : World} {A K : List (Nat × Obj)} (h : Mem w V (A ++ K)) : Mem w V K := h.subl (List.sublist_append_right A K)
theorem lv_len {h : Nat} {xs ys : List (List Value)} (e : xs.length = ys.length) : lv h xs = lv h ys := by
  cases xs with
  | nil => cases ys with
    | nil => rfl
    | cons y ys => simp at e
  | cons x xs => cases ys with
    | nil => simp at e
    | cons y ys => simp only [lv, e]
theorem tset {t t' : Ten} {p s q p' s' q' : Value} {o : Nat} {v : Value} (h : TLen t) (e : ∀ n vn a b c d f g x y vt a1 b1 c1 d1 f1 g1 a2 b2 c2 d2 f2 g2 po lo hi fi st tw se qu ra bu,
    t = ⟨n, vn, [a, b, c, d, f, g, x, y], vt, [a1, b1, c1, d1, f1, g1], [a2, b2, c2, d2, f2, g2], po, lo, hi, fi, st, tw, se, qu, ra, bu⟩ → (tc t p s q).set o v = tc t' p' s' q') : (tc t p s q).set o v = tc t' p' s' q' := by
  obtain ⟨n, vn, key, vt, vm, ho, po, lo, hi, fi, st, tw, se, qu, ra, bu⟩ := t
  obtain ⟨h1, h2, h3⟩ := h
  obtain ⟨a, b, c, d, f, g, x, y, rfl⟩ := eight8 h1
  obtain ⟨a1, b1, c1, d1, f1, g1, rfl⟩ := six6 h2
  obtain ⟨a2, b2, c2, d2, f2, g2, rfl⟩ := six6 h3
  exact e n vn a b c d f g x y vt a1 b1 c1 d1 f1 g1 a2 b2 c2 d2 f2 g2 po lo hi fi st tw se qu ra bu rfl
theorem tget {t : Ten} {p s q : Value} {o : Nat} {v : Value} (h : TLen t) (e : ∀ n vn a b c d f g x y vt a1 b1 c1 d1 f1 g1 a2 b2 c2 d2 f2 g2 po lo hi fi st tw se qu ra bu,
    t = ⟨n, vn, [a, b, c, d, f, g, x, y], vt, [a1, b1, c1, d1, f1, g1], [a2, b2, c2, d2, f2, g2], po, lo, hi, fi, st, tw, se, qu, ra, bu⟩ → (tc t p s q)[o]? = some v) : (tc t p s q)[o]? = some v := by
  obtain ⟨n, vn, key, vt, vm, ho, po, lo, hi, fi, st, tw, se, qu, ra, bu⟩ := t
  obtain ⟨h1, h2, h3⟩ := h
  obtain ⟨a, b, c, d, f, g, x, y, rfl⟩ := eight8 h1
  obtain ⟨a1, b1, c1, d1, f1, g1, rfl⟩ := six6 h2
  obtain ⟨a2, b2, c2, d2, f2, g2, rfl⟩ := six6 h3
  exact e n vn a b c d f g x y vt a1 b1 c1 d1 f1 g1 a2 b2 c2 d2 f2 g2 po lo hi fi st tw se qu ra bu rfl
/-- One cell of a tenant that is being read. -/
theorem lens_T {β : Type} {w : World} (o : Nat) (ho : o < 33) (old : Ten → Value) (nv : β → Value) (fs : Ten → β → Ten) (hget : ∀ t p s q, TLen t → (tc t p s q)[o]? = some (old t)) (hset : ∀ t y p s q, TLen t → (tc t p s q).set o (nv y) = tc (fs t y) p s q)
    (hk : ∀ t y, TLen t → TLen (fs t y)) (hp : ∀ t y, (fs t y).pool = t.pool ∧ (fs t y).stat = t.stat ∧ (fs t y).twi = t.twi) :
    ∀ t g T pre post V K, JT w t g T pre post V K → ∃ A M, Lens w JT o t g T pre post V K M A ∧ A[pre.length + o]? = some (old t) ∧
      ∀ y V', Mem w V' ((g, .cells (A.setIfInBounds (pre.length + o) (nv y)) T (0, 0)) :: M) → JT w (fs t y) g T pre post V' K := by
  rintro t g T pre post V K ⟨hl, hb, hp', hs, hq, hM⟩
  refine ⟨_, _, ⟨hM, fun q hq => ?_, fun V' h => h.dropA.dropA.dropA⟩, get_mid _ _ _ o _ (hget _ _ _ _ hl), fun y V' hV => ?_⟩
  · exact List.mem_append_right _ (List.mem_append_right _ (List.mem_append_right _ hq))
  · rw [set_mid _ _ _ o _ (by rw [tc_len hl]; exact ho), hset _ _ _ _ _ hl] at hV
    obtain ⟨e1, e2, e3⟩ := hp t y
    refine ⟨hk t y hl, ⟨by rw [e1]; exact hb.1, by rw [e2]; exact hb.2.1, by rw [e3]; exact hb.2.2⟩, hp', hs, hq, ?_⟩
    rw [e1, e2, e3]
    exact hV
theorem spl_mid (pre a b c post : List Value) (y : List Int) (hb : b.length = y.length) : spl (pre ++ ((a ++ (b ++ c)) ++ post)).toArray (pre.length + a.length) y = (pre ++ ((a ++ (y.map (Value.int .u8) ++ c)) ++ post)).toArray := by
  unfold spl
  simp only [List.append_assoc]
  congr 1
  have e1 : (pre ++ (a ++ (b ++ (c ++ post)))).take (pre.length + a.length) = pre ++ a := by
    rw [← List.append_assoc]; exact List.take_left' (by simp)
  have e2 : (pre ++ (a ++ (b ++ (c ++ post)))).drop (pre.length + a.length + y.length) = c ++ post := by
    rw [← List.append_assoc, ← List.append_assoc]; exact List.drop_left' (by simp [hb]; omega)
  rw [e1, e2]
  simp only [List.append_assoc]
/-- An array of a tenant that is being read. -/
theorem lens_TO {w : World} (o n : Nat) (fs : Ten → List Int → Ten) (hcut : ∀ t p s q, TLen t → ∃ a b c, a.length = o ∧ b.length = n ∧ tc t p s q = a ++ (b ++ c) ∧ ∀ y, tc (fs t y) p s q = a ++ (y.map (Value.int .u8) ++ c))
    (hk : ∀ t y, y.length = n → TLen t → TLen (fs t y)) (hp : ∀ t y, (fs t y).pool = t.pool ∧ (fs t y).stat = t.stat ∧ (fs t y).twi = t.twi) :
    ∀ t g T pre post V K, JT w t g T pre post V K → ∃ A M, Lens w JT o t g T pre post V K M A ∧ pre.length + o + n ≤ A.size ∧
      ∀ y V', y.length = n → IsBytes y → Mem w V' ((g, .cells (spl A (pre.length + o) y) T (0, 0)) :: M) → JT w (fs t y) g T pre post V' K := by
  rintro t g T pre post V K ⟨hl, hb, hp', hs, hq, hM⟩
  obtain ⟨a, b, c, ha, hbn, e, hfs⟩ := hcut t (lv hp' (ux t.pool)) (lv hs (px t.stat)) (lv hq (px t.twi)) hl
  refine ⟨_, _, ⟨hM, fun q hq => ?_, fun V' h => h.dropA.dropA.dropA⟩, ?_, fun y V' hy _ hV => ?_⟩
  · exact List.mem_append_right _ (List.mem_append_right _ (List.mem_append_right _ hq))
  · rw [e]; simp [ha, hbn]; omega
  · rw [e, ← ha, spl_mid pre a b c post y (by omega), ← hfs y] at hV
    obtain ⟨e1, e2, e3⟩ := hp t y
    refine ⟨hk t y hy hl, ⟨by rw [e1]; exact hb.1, by rw [e2]; exact hb.2.1, by rw [e3]; exact hb.2.2⟩, hp', hs, hq, ?_⟩
    rw [e1, e2, e3]
    exact hV
theorem made_U (m : Nat) (hm : 0 < m) : madeCells (Value.int .u32 0).cells (m * 1) = (ux (List.replicate m 0)).flatten.toArray := by
  apply Array.toList_inj.mp
  have := madeCells_flat (Value.int .u32 0).cells m (by decide)
  rw [show (Value.int IntKind.u32 0).cells.size = 1 from rfl] at this
  rw [this]
  simp [ux, Value.cells]
theorem made_P (m : Nat) (hm : 0 < m) : madeCells (Value.agg #[.int .u32 0, .int .u32 0]).cells (m * 2) = (px (List.replicate m (0, 0))).flatten.toArray := by
  apply Array.toList_inj.mp
  have := madeCells_flat (Value.agg #[.int .u32 0, .int .u32 0]).cells m (by decide)
  rw [show (Value.agg #[Value.int .u32 0, .int .u32 0]).cells.size = 2 from rfl] at this
  rw [this]
  simp [px, Value.cells]
theorem lb_one {h : Nat} {T : TypeId} {xs : List (List Value)} (e : xs ≠ []) : lb h T xs = [(h, .cells xs.flatten.toArray T (0, 0))] := by
  cases xs with
  | nil => exact absurd rfl e
  | cons x xs => rfl
theorem lv_one {h : Nat} {xs : List (List Value)} (e : xs ≠ []) : lv h xs = .slice (some ⟨h, 0, none⟩) xs.length xs.length := by
  cases xs with
  | nil => exact absurd rfl e
  | cons x xs => rfl
def set_pool (t : Ten) (m : Nat) : Ten := if m = 0 then t else { t with pool := List.replicate m 0 }
theorem lens_Cpool {w : World} : ∀ t g T pre post V K, JT w t g T pre post V K → ∃ A M y, Lens w JT 23 t g T pre post V K M A ∧ A[pre.length + 23]? = some y ∧
      ∀ m V', m ≤ 255 → CMade_TU w V' g A T (pre.length + 23) M m → JT w (set_pool t m) g T pre post V' K := by
  rintro t g T pre post V K ⟨hl, hb, hp, hs, hq, hM⟩
  refine ⟨_, _, _, ⟨hM, fun q hq => ?_, fun V' h => h.dropA.dropA.dropA⟩, get_mid _ _ _ 23 _ (tget (v := lv hp (ux t.pool)) hl (by rintro n vn a b c d f g x y vt a1 b1 c1 d1 f1 g1 a2 b2 c2 d2 f2 g2 po lo hi fi st tw se qu ra bu rfl; rfl)), fun m V' hm hV => ?_⟩
  · exact List.mem_append_right _ (List.mem_append_right _ (List.mem_append_right _ hq))
  · rcases hV with ⟨rfl, hV⟩ | ⟨h0, h, hV⟩
    · exact ⟨hl, hb, hp, hs, hq, hV⟩
    · have hne : ux (List.replicate m 0) ≠ [] := by
        cases m with
        | zero => omega
        | succ m => simp [ux, List.replicate_succ]
      have hlen : (ux (List.replicate m 0)).length = m := by simp [ux]
      rw [set_mid _ _ _ 23 _ (by rw [tc_len hl]; omega), made_U m h0] at hV
      unfold set_pool
      rw [if_neg (by omega)]
      refine ⟨⟨hl.key, hl.vmac, hl.host⟩, ?_, h, hs, hq, ?_⟩
      · simp only [List.length_replicate]; exact ⟨hm, hb.2.1, hb.2.2⟩
      · have e : (tc t (lv hp (ux t.pool)) (lv hs (px t.stat)) (lv hq (px t.twi))).set 23 (.slice (some ⟨h, 0, none⟩) m m) = tc { t with pool := List.replicate m 0 } (lv h (ux (List.replicate m 0))) (lv hs (px t.stat)) (lv hq (px t.twi)) := by
          rw [lv_one hne, hlen]
          exact tset hl (by rintro n vn a b c d f g x y vt a1 b1 c1 d1 f1 g1 a2 b2 c2 d2 f2 g2 po lo hi fi st tw se qu ra bu rfl; rfl)
        rw [e] at hV
        simp only at hV ⊢
        rw [lb_one hne]
        exact hV.subl ((List.sublist_append_right _ _).cons_cons _ |>.cons_cons _)
theorem lens_Ipool {w : World} : ∀ t g T pre post V K, JT w t g T pre post V K → t.pool.length ≤ 255 ∧ ∃ hb M sa sc, (0 < t.pool.length → sa = some ⟨hb, 0, none⟩) ∧ Sub K M ∧ (∀ V', Mem w V' M → Mem w V' K) ∧ V.cell? ⟨g, pre.length + 23, none⟩ = some (.slice sa t.pool.length sc) ∧
      IMU w hb M V t.pool ∧ ∀ ys V', ys.length = t.pool.length → IMU w hb M V' ys → JT w { t with pool := ys } g T pre post V' K := by
  rintro t g T pre post V K ⟨hl, hb, hp, hs, hq, hM⟩
  have hcell : V.cell? ⟨g, pre.length + 23, none⟩ = some (lv hp (ux t.pool)) := by
    rw [hM.cell 0 rfl]
    exact get_mid _ _ _ 23 _ (tget hl (by rintro n vn a b c d f g x y vt a1 b1 c1 d1 f1 g1 a2 b2 c2 d2 f2 g2 po lo hi fi st tw se qu ra bu rfl; rfl))
  have hlen : ∀ l, (ux l).length = l.length := by intro l; simp [ux]
  have hnil : ∀ l, ux l = [] ↔ l = [] := by intro l; simp [ux]
  obtain ⟨G, hG⟩ : ∃ G : Nat × Obj, G = (g, .cells (pre ++ (tc t (lv hp (ux t.pool)) (lv hs (px t.stat)) (lv hq (px t.twi)) ++ post)).toArray T (0, 0)) := ⟨_, rfl⟩
  rw [← hG] at hM
  have hMp : Mem w V (lb hp 22 (ux t.pool) ++ (G :: ((lb hs 142 (px t.stat)) ++ ((lb hq 142 (px t.twi)) ++ K)))) := hM.perm (List.perm_middle (l₁ := _)).symm
  have hpm : ∀ ys V', ys.length = t.pool.length → Mem w V' (lb hp 22 (ux ys) ++ (G :: ((lb hs 142 (px t.stat)) ++ ((lb hq 142 (px t.twi)) ++ K)))) → JT w { t with pool := ys } g T pre post V' K := by
    intro ys V' hy hV
    refine ⟨⟨hl.key, hl.vmac, hl.host⟩, ⟨by rw [hy]; exact hb.1, hb.2.1, hb.2.2⟩, hp, hs, hq, ?_⟩
    have e : lv hp (ux ys) = lv hp (ux t.pool) := lv_len (by rw [hlen, hlen, hy])
    have e2 : tc { t with pool := ys } (lv hp (ux ys)) (lv hs (px t.stat)) (lv hq (px t.twi)) = tc t (lv hp (ux t.pool)) (lv hs (px t.stat)) (lv hq (px t.twi)) := by rw [e]; rfl
    simp only at e2 ⊢
    rw [e2, ← hG]
    exact hV.perm (List.perm_middle (l₁ := _))
  by_cases h0 : t.pool = []
  · refine ⟨hb.1, hp, (G :: ((lb hs 142 (px t.stat)) ++ ((lb hq 142 (px t.twi)) ++ K))), none, 0, fun h => by rw [h0] at h; simp at h, ?_, fun V' h => h.sub.dropA.dropA, ?_, ?_, ?_⟩
    · exact fun q hq => List.mem_cons_of_mem _ (List.mem_append_right _ (List.mem_append_right _ hq))
    · rw [hcell, (hnil _).mpr h0, h0]; rfl
    · unfold IMU; rw [if_pos h0]; rw [(hnil _).mpr h0] at hMp; exact hMp
    · intro ys V' hy hV
      have hy0 : ys = [] := by rw [h0] at hy; exact List.eq_nil_of_length_eq_zero hy
      unfold IMU at hV
      rw [if_pos hy0] at hV
      refine hpm ys V' hy ?_
      rw [(hnil _).mpr hy0]
      exact hV
  · have hne : ux t.pool ≠ [] := fun e => h0 ((hnil _).mp e)
    refine ⟨hb.1, hp, (G :: ((lb hs 142 (px t.stat)) ++ ((lb hq 142 (px t.twi)) ++ K))), some ⟨hp, 0, none⟩, t.pool.length, fun _ => rfl, ?_, fun V' h => h.sub.dropA.dropA, ?_, ?_, ?_⟩
    · exact fun q hq => List.mem_cons_of_mem _ (List.mem_append_right _ (List.mem_append_right _ hq))
    · rw [hcell, lv_one hne, hlen]
    · unfold IMU; rw [if_neg h0]; rw [lb_one hne] at hMp; exact hMp
    · intro ys V' hy hV
      have hy0 : ys ≠ [] := by rintro rfl; simp at hy; exact h0 (List.eq_nil_of_length_eq_zero hy.symm)
      unfold IMU at hV
      rw [if_neg hy0] at hV
      refine hpm ys V' hy ?_
      rw [lb_one (fun e => hy0 ((hnil _).mp e))]
      exact hV
def set_stat (t : Ten) (m : Nat) : Ten := if m = 0 then t else { t with stat := List.replicate m (0, 0) }
theorem lens_Cstat {w : World} : ∀ t g T pre post V K, JT w t g T pre post V K → ∃ A M y, Lens w JT 27 t g T pre post V K M A ∧ A[pre.length + 27]? = some y ∧
      ∀ m V', m ≤ 255 → CMade_TP w V' g A T (pre.length + 27) M m → JT w (set_stat t m) g T pre post V' K := by
  rintro t g T pre post V K ⟨hl, hb, hp, hs, hq, hM⟩
  refine ⟨_, _, _, ⟨hM, fun q hq => ?_, fun V' h => h.dropA.dropA.dropA⟩, get_mid _ _ _ 27 _ (tget (v := lv hs (px t.stat)) hl (by rintro n vn a b c d f g x y vt a1 b1 c1 d1 f1 g1 a2 b2 c2 d2 f2 g2 po lo hi fi st tw se qu ra bu rfl; rfl)), fun m V' hm hV => ?_⟩
  · exact List.mem_append_right _ (List.mem_append_right _ (List.mem_append_right _ hq))
  · rcases hV with ⟨rfl, hV⟩ | ⟨h0, h, hV⟩
    · exact ⟨hl, hb, hp, hs, hq, hV⟩
    · have hne : px (List.replicate m (0, 0)) ≠ [] := by
        cases m with
        | zero => omega
        | succ m => simp [px, List.replicate_succ]
      have hlen : (px (List.replicate m (0, 0))).length = m := by simp [px]
      rw [set_mid _ _ _ 27 _ (by rw [tc_len hl]; omega), made_P m h0] at hV
      unfold set_stat
      rw [if_neg (by omega)]
      refine ⟨⟨hl.key, hl.vmac, hl.host⟩, ?_, hp, h, hq, ?_⟩
      · simp only [List.length_replicate]; exact ⟨hb.1, hm, hb.2.2⟩
      · have e : (tc t (lv hp (ux t.pool)) (lv hs (px t.stat)) (lv hq (px t.twi))).set 27 (.slice (some ⟨h, 0, none⟩) m m) = tc { t with stat := List.replicate m (0, 0) } (lv hp (ux t.pool)) (lv h (px (List.replicate m (0, 0)))) (lv hq (px t.twi)) := by
          rw [lv_one hne, hlen]
          exact tset hl (by rintro n vn a b c d f g x y vt a1 b1 c1 d1 f1 g1 a2 b2 c2 d2 f2 g2 po lo hi fi st tw se qu ra bu rfl; rfl)
        rw [e] at hV
        simp only at hV ⊢
        rw [lb_one hne]
        exact (hV.subl ((((List.sublist_append_right _ _).append_left _).cons_cons _).cons_cons _)).perm ((List.perm_middle (l₁ := _)).symm.cons _)
theorem lens_Istat {w : World} : ∀ t g T pre post V K, JT w t g T pre post V K → t.stat.length ≤ 255 ∧ ∃ hb M sa sc, (0 < t.stat.length → sa = some ⟨hb, 0, none⟩) ∧ Sub K M ∧ (∀ V', Mem w V' M → Mem w V' K) ∧ V.cell? ⟨g, pre.length + 27, none⟩ = some (.slice sa t.stat.length sc) ∧
      IMP w hb M V t.stat ∧ ∀ ys V', ys.length = t.stat.length → IMP w hb M V' ys → JT w { t with stat := ys } g T pre post V' K := by
  rintro t g T pre post V K ⟨hl, hb, hp, hs, hq, hM⟩
  have hcell : V.cell? ⟨g, pre.length + 27, none⟩ = some (lv hs (px t.stat)) := by
    rw [hM.cell 0 rfl]
    exact get_mid _ _ _ 27 _ (tget hl (by rintro n vn a b c d f g x y vt a1 b1 c1 d1 f1 g1 a2 b2 c2 d2 f2 g2 po lo hi fi st tw se qu ra bu rfl; rfl))
  have hlen : ∀ l, (px l).length = l.length := by intro l; simp [px]
  have hnil : ∀ l, px l = [] ↔ l = [] := by intro l; simp [px]
  obtain ⟨G, hG⟩ : ∃ G : Nat × Obj, G = (g, .cells (pre ++ (tc t (lv hp (ux t.pool)) (lv hs (px t.stat)) (lv hq (px t.twi)) ++ post)).toArray T (0, 0)) := ⟨_, rfl⟩
  rw [← hG] at hM
  have hMp : Mem w V (lb hs 142 (px t.stat) ++ (G :: ((lb hp 22 (ux t.pool)) ++ ((lb hq 142 (px t.twi)) ++ K)))) := hM.perm (by
    refine List.Perm.trans ((List.perm_append_comm_assoc _ _ _).cons _) ?_
    exact (List.perm_middle (l₁ := _)).symm)
  have hpm : ∀ ys V', ys.length = t.stat.length → Mem w V' (lb hs 142 (px ys) ++ (G :: ((lb hp 22 (ux t.pool)) ++ ((lb hq 142 (px t.twi)) ++ K)))) → JT w { t with stat := ys } g T pre post V' K := by
    intro ys V' hy hV
    refine ⟨⟨hl.key, hl.vmac, hl.host⟩, ⟨hb.1, by rw [hy]; exact hb.2.1, hb.2.2⟩, hp, hs, hq, ?_⟩
    have e : lv hs (px ys) = lv hs (px t.stat) := lv_len (by rw [hlen, hlen, hy])
    have e2 : tc { t with stat := ys } (lv hp (ux t.pool)) (lv hs (px ys)) (lv hq (px t.twi)) = tc t (lv hp (ux t.pool)) (lv hs (px t.stat)) (lv hq (px t.twi)) := by rw [e]; rfl
    simp only at e2 ⊢
    rw [e2, ← hG]
    exact hV.perm (by
      refine List.Perm.trans (List.perm_middle (l₁ := _)) ?_
      exact (List.perm_append_comm_assoc _ _ _).cons _)
  by_cases h0 : t.stat = []
  · refine ⟨hb.2.1, hs, (G :: ((lb hp 22 (ux t.pool)) ++ ((lb hq 142 (px t.twi)) ++ K))), none, 0, fun h => by rw [h0] at h; simp at h, ?_, fun V' h => h.sub.dropA.dropA, ?_, ?_, ?_⟩
    · exact fun q hq => List.mem_cons_of_mem _ (List.mem_append_right _ (List.mem_append_right _ hq))
    · rw [hcell, (hnil _).mpr h0, h0]; rfl
    · unfold IMP; rw [if_pos h0]; rw [(hnil _).mpr h0] at hMp; exact hMp
    · intro ys V' hy hV
      have hy0 : ys = [] := by rw [h0] at hy; exact List.eq_nil_of_length_eq_zero hy
      unfold IMP at hV
      rw [if_pos hy0] at hV
      refine hpm ys V' hy ?_
      rw [(hnil _).mpr hy0]
      exact hV
  · have hne : px t.stat ≠ [] := fun e => h0 ((hnil _).mp e)
    refine ⟨hb.2.1, hs, (G :: ((lb hp 22 (ux t.pool)) ++ ((lb hq 142 (px t.twi)) ++ K))), some ⟨hs, 0, none⟩, t.stat.length, fun _ => rfl, ?_, fun V' h => h.sub.dropA.dropA, ?_, ?_, ?_⟩
    · exact fun q hq => List.mem_cons_of_mem _ (List.mem_append_right _ (List.mem_append_right _ hq))
    · rw [hcell, lv_one hne, hlen]
    · unfold IMP; rw [if_neg h0]; rw [lb_one hne] at hMp; exact hMp
    · intro ys V' hy hV
      have hy0 : ys ≠ [] := by rintro rfl; simp at hy; exact h0 (List.eq_nil_of_length_eq_zero hy.symm)
      unfold IMP at hV
      rw [if_neg hy0] at hV
      refine hpm ys V' hy ?_
      rw [lb_one (fun e => hy0 ((hnil _).mp e))]
      exact hV
def set_twi (t : Ten) (m : Nat) : Ten := if m = 0 then t else { t with twi := List.replicate m (0, 0) }
theorem lens_Ctwi {w : World} : ∀ t g T pre post V K, JT w t g T pre post V K → ∃ A M y, Lens w JT 28 t g T pre post V K M A ∧ A[pre.length + 28]? = some y ∧
      ∀ m V', m ≤ 255 → CMade_TP w V' g A T (pre.length + 28) M m → JT w (set_twi t m) g T pre post V' K := by
  rintro t g T pre post V K ⟨hl, hb, hp, hs, hq, hM⟩
  refine ⟨_, _, _, ⟨hM, fun q hq => ?_, fun V' h => h.dropA.dropA.dropA⟩, get_mid _ _ _ 28 _ (tget (v := lv hq (px t.twi)) hl (by rintro n vn a b c d f g x y vt a1 b1 c1 d1 f1 g1 a2 b2 c2 d2 f2 g2 po lo hi fi st tw se qu ra bu rfl; rfl)), fun m V' hm hV => ?_⟩
  · exact List.mem_append_right _ (List.mem_append_right _ (List.mem_append_right _ hq))
  · rcases hV with ⟨rfl, hV⟩ | ⟨h0, h, hV⟩
    · exact ⟨hl, hb, hp, hs, hq, hV⟩
    · have hne : px (List.replicate m (0, 0)) ≠ [] := by
        cases m with
        | zero => omega
        | succ m => simp [px, List.replicate_succ]
      have hlen : (px (List.replicate m (0, 0))).length = m := by simp [px]
      rw [set_mid _ _ _ 28 _ (by rw [tc_len hl]; omega), made_P m h0] at hV
      unfold set_twi
      rw [if_neg (by omega)]
      refine ⟨⟨hl.key, hl.vmac, hl.host⟩, ?_, hp, hs, h, ?_⟩
      · simp only [List.length_replicate]; exact ⟨hb.1, hb.2.1, hm⟩
      · have e : (tc t (lv hp (ux t.pool)) (lv hs (px t.stat)) (lv hq (px t.twi))).set 28 (.slice (some ⟨h, 0, none⟩) m m) = tc { t with twi := List.replicate m (0, 0) } (lv hp (ux t.pool)) (lv hs (px t.stat)) (lv h (px (List.replicate m (0, 0)))) := by
          rw [lv_one hne, hlen]
          exact tset hl (by rintro n vn a b c d f g x y vt a1 b1 c1 d1 f1 g1 a2 b2 c2 d2 f2 g2 po lo hi fi st tw se qu ra bu rfl; rfl)
        rw [e] at hV
        simp only at hV ⊢
        rw [lb_one hne]
        refine Mem.perm (hV.subl (((((List.sublist_append_right _ _).append_left _).append_left _).cons_cons _).cons_cons _)) ?_
        refine List.Perm.cons _ ?_
        refine List.Perm.trans ?_ ((List.perm_middle (l₁ := _)).symm.append_left _)
        exact (List.perm_middle (l₁ := _)).symm
theorem lens_Itwi {w : World} : ∀ t g T pre post V K, JT w t g T pre post V K → t.twi.length ≤ 255 ∧ ∃ hb M sa sc, (0 < t.twi.length → sa = some ⟨hb, 0, none⟩) ∧ Sub K M ∧ (∀ V', Mem w V' M → Mem w V' K) ∧ V.cell? ⟨g, pre.length + 28, none⟩ = some (.slice sa t.twi.length sc) ∧
      IMP w hb M V t.twi ∧ ∀ ys V', ys.length = t.twi.length → IMP w hb M V' ys → JT w { t with twi := ys } g T pre post V' K := by
  rintro t g T pre post V K ⟨hl, hb, hp, hs, hq, hM⟩
  have hcell : V.cell? ⟨g, pre.length + 28, none⟩ = some (lv hq (px t.twi)) := by
    rw [hM.cell 0 rfl]
    exact get_mid _ _ _ 28 _ (tget hl (by rintro n vn a b c d f g x y vt a1 b1 c1 d1 f1 g1 a2 b2 c2 d2 f2 g2 po lo hi fi st tw se qu ra bu rfl; rfl))
  have hlen : ∀ l, (px l).length = l.length := by intro l; simp [px]
  have hnil : ∀ l, px l = [] ↔ l = [] := by intro l; simp [px]
  obtain ⟨G, hG⟩ : ∃ G : Nat × Obj, G = (g, .cells (pre ++ (tc t (lv hp (ux t.pool)) (lv hs (px t.stat)) (lv hq (px t.twi)) ++ post)).toArray T (0, 0)) := ⟨_, rfl⟩
  rw [← hG] at hM
  have hMp : Mem w V (lb hq 142 (px t.twi) ++ (G :: ((lb hp 22 (ux t.pool)) ++ ((lb hs 142 (px t.stat)) ++ K)))) := hM.perm (by
    refine List.Perm.trans (((List.perm_append_comm_assoc _ _ _).append_left _).cons _) ?_
    refine List.Perm.trans ((List.perm_append_comm_assoc _ _ _).cons _) ?_
    exact (List.perm_middle (l₁ := _)).symm)
  have hpm : ∀ ys V', ys.length = t.twi.length → Mem w V' (lb hq 142 (px ys) ++ (G :: ((lb hp 22 (ux t.pool)) ++ ((lb hs 142 (px t.stat)) ++ K)))) → JT w { t with twi := ys } g T pre post V' K := by
    intro ys V' hy hV
    refine ⟨⟨hl.key, hl.vmac, hl.host⟩, ⟨hb.1, hb.2.1, by rw [hy]; exact hb.2.2⟩, hp, hs, hq, ?_⟩
    have e : lv hq (px ys) = lv hq (px t.twi) := lv_len (by rw [hlen, hlen, hy])
    have e2 : tc { t with twi := ys } (lv hp (ux t.pool)) (lv hs (px t.stat)) (lv hq (px ys)) = tc t (lv hp (ux t.pool)) (lv hs (px t.stat)) (lv hq (px t.twi)) := by rw [e]; rfl
    simp only at e2 ⊢
    rw [e2, ← hG]
    exact hV.perm (by
      refine List.Perm.trans (List.perm_middle (l₁ := _)) ?_
      refine List.Perm.cons _ ?_
      refine List.Perm.trans (List.perm_append_comm_assoc _ _ _) ?_
      exact (List.perm_append_comm_assoc _ _ _).append_left _)
  by_cases h0 : t.twi = []
  · refine ⟨hb.2.2, hq, (G :: ((lb hp 22 (ux t.pool)) ++ ((lb hs 142 (px t.stat)) ++ K))), none, 0, fun h => by rw [h0] at h; simp at h, ?_, fun V' h => h.sub.dropA.dropA, ?_, ?_, ?_⟩
    · exact fun q hq => List.mem_cons_of_mem _ (List.mem_append_right _ (List.mem_append_right _ hq))
    · rw [hcell, (hnil _).mpr h0, h0]; rfl
    · unfold IMP; rw [if_pos h0]; rw [(hnil _).mpr h0] at hMp; exact hMp
    · intro ys V' hy hV
      have hy0 : ys = [] := by rw [h0] at hy; exact List.eq_nil_of_length_eq_zero hy
      unfold IMP at hV
      rw [if_pos hy0] at hV
      refine hpm ys V' hy ?_
      rw [(hnil _).mpr hy0]
      exact hV
  · have hne : px t.twi ≠ [] := fun e => h0 ((hnil _).mp e)
    refine ⟨hb.2.2, hq, (G :: ((lb hp 22 (ux t.pool)) ++ ((lb hs 142 (px t.stat)) ++ K))), some ⟨hq, 0, none⟩, t.twi.length, fun _ => rfl, ?_, fun V' h => h.sub.dropA.dropA, ?_, ?_, ?_⟩
    · exact fun q hq => List.mem_cons_of_mem _ (List.mem_append_right _ (List.mem_append_right _ hq))
    · rw [hcell, lv_one hne, hlen]
    · unfold IMP; rw [if_neg h0]; rw [lb_one hne] at hMp; exact hMp
    · intro ys V' hy hV
      have hy0 : ys ≠ [] := by rintro rfl; simp at hy; exact h0 (List.eq_nil_of_length_eq_zero hy.symm)
      unfold IMP at hV
      rw [if_neg hy0] at hV
      refine hpm ys V' hy ?_
      rw [lb_one (fun e => hy0 ((hnil _).mp e))]
      exact hV
end Go.Proofs.YtngegdamcfmonaaGreat

namespace Go.Proofs.YtngegdamcfmonaaGreat
open Go.RowKit
open Sm
open Cf
set_option linter.unusedVariables false
set_option maxRecDepth 20000

theorem fits16 : ∀ q, 0 ≤ q → q < 256 ^ 2 → IntKind.u16.wrap q = q := fun q h0 h1 => wrap16_small q h0 (by omega)
theorem fits64 (n : Nat) (hn : n ≤ 4) : ∀ q, 0 ≤ q → q < 256 ^ n → IntKind.i64.wrap q = q := by
  intro q h0 h1
  refine wrap64n (by omega) ?_
  have : (256 : Int) ^ n ≤ 256 ^ 4 := by
    match n, hn with
    | 0, _ => decide
    | 1, _ => decide
    | 2, _ => decide
    | 3, _ => decide
    | 4, _ => decide
  have e : (256 : Int) ^ 4 = 4294967296 := by decide
  omega
def ttl (t : Ten) (p s q : Value) : List Value := [p, .int .u16 t.lo, .int .u16 t.hi, .int .i64 t.filter, s, q, .int .i64 t.sess, .int .i64 t.queue, .int .u32 t.rate, .int .u32 t.burst]
theorem swap_front {p a : Nat × Obj} {E L : List (Nat × Obj)} {w V : World} (h : Mem w V (a :: p :: (E ++ L))) : Mem w V (p :: ((a :: E) ++ L)) := h.perm (List.Perm.swap _ _ _)
theorem swap_front2 {p a b : Nat × Obj} {E L : List (Nat × Obj)} {w V : World} (h : Mem w V (a :: b :: p :: (E ++ L))) : Mem w V (p :: ((a :: b :: E) ++ L)) :=
  h.perm (by refine List.Perm.trans ((List.Perm.swap p b _).cons a) ?_; exact List.Perm.swap p a _)
theorem swap_app {p : Nat × Obj} {A E L : List (Nat × Obj)} {w V : World} (h : Mem w V (A ++ (p :: (E ++ L)))) : Mem w V (p :: ((A ++ E) ++ L)) :=
  h.perm (by rw [List.append_assoc]; exact List.perm_middle (l₁ := A))
theorem IT.cell {t : Ten} {r : Value × Value × Value} {V : World} {g off : Nat} (h : IT t r V g off) (o : Nat) {v : Value} (hv : (tc t r.1 r.2.1 r.2.2)[o]? = some v) : V.cell? ⟨g, off + o, none⟩ = some v := h.2.1 o v hv
theorem IT.row {t : Ten} {r : Value × Value × Value} {V : World} {g off : Nat} (h : IT t r V g off) (o : Nat) (x : List Int) (hb : IsBytes x) (hx : x.length ≤ 1000) (a c : List Value) (ha : a.length = o) (e : tc t r.1 r.2.1 r.2.2 = a ++ (x.map (Value.int .u8) ++ c)) :
    Row V (some ⟨g, off + o, none⟩) x := by
  refine ⟨hb, by omega, Or.inr ⟨g, off + o, rfl, fun i hi => ?_⟩⟩
  have := h.2.1 (o + i) (.int .u8 (x.getD i 0)) (by
    rw [e, List.getElem?_append_right (by omega), List.getElem?_append_left (by simp; omega), ha, Nat.add_sub_cancel_left]
    simp [hi])
  rw [Nat.add_assoc]; exact this
def spName : Sp Ten := spTxt (fun t => t.name) (fun t y => { t with name := y })
theorem c_Name {w V : World} {p : Nat × Obj} {E L : List (Nat × Obj)} (h : Mem w V (p :: (E ++ L))) :
    Calls Tryz.prog 65 #[.func (.func 66) #[] #[]] V fun e V' => ∃ f E', e = .returned f.val ∧ Mem w V' (p :: (E' ++ L)) ∧ Sub E E' ∧ Fd w E' IT JT f spName := by
  refine (mk_Txt_T h 66).mono ?_
  rintro e V' ⟨bo, rfl, hM⟩
  exact ⟨_, _ :: E, rfl, swap_front hM, fun q hq => List.mem_cons_of_mem _ hq, fd_Txt_T bo 66 0 _ _ (List.mem_cons_self ..) (enters_of Tryz.func66 (by kernel_rfl) rfl) acc_Name (fun t r V g off h => ⟨by have := h.1.name; omega, h.cell 0 (tget h.1.len (by rintro n vn a b c d f g x y vt a1 b1 c1 d1 f1 g1 a2 b2 c2 d2 f2 g2 po lo hi fi st tw se qu ra bu rfl; rfl))⟩) (lens_T 0 (by omega) (fun t => .string t.name) (fun y => .string y) (fun t y => { t with name := y }) (fun t p s q h => tget h (by rintro n vn a b c d f g x y vt a1 b1 c1 d1 f1 g1 a2 b2 c2 d2 f2 g2 po lo hi fi st tw se qu ra bu rfl; rfl)) (fun t y p s q h => tset h (by rintro n vn a b c d f g x y vt a1 b1 c1 d1 f1 g1 a2 b2 c2 d2 f2 g2 po lo hi fi st tw se qu ra bu rfl; rfl)) (fun t y h => ⟨h.key, h.vmac, h.host⟩) (fun t y => ⟨rfl, rfl, rfl⟩))⟩
def spVni : Sp Ten := spNum 4 (fun t => t.vni) (fun t y => { t with vni := y })
theorem c_Vni {w V : World} {p : Nat × Obj} {E L : List (Nat × Obj)} (h : Mem w V (p :: (E ++ L))) :
    Calls Tryz.prog 67 #[.int .i64 4, .func (.func 68) #[] #[]] V fun e V' => ∃ f E', e = .returned f.val ∧ Mem w V' (p :: (E' ++ L)) ∧ Sub E E' ∧ Fd w E' IT JT f spVni := by
  refine (mk_num_TU h 4 68).mono ?_
  rintro e V' ⟨bs, bo, rfl, hM⟩
  exact ⟨_, _ :: _ :: E, rfl, swap_front2 hM, fun q hq => List.mem_cons_of_mem _ (List.mem_cons_of_mem _ hq), fd_num_TU bs bo 4 68 1 (by omega) fits32 _ _ (List.mem_cons_self ..) (List.mem_cons_of_mem _ (List.mem_cons_self ..)) (enters_of Tryz.func68 (by kernel_rfl) rfl) acc_Vni (fun t r V g off h => h.cell 1 (tget h.1.len (by rintro n vn a b c d f g x y vt a1 b1 c1 d1 f1 g1 a2 b2 c2 d2 f2 g2 po lo hi fi st tw se qu ra bu rfl; rfl))) (lens_T 1 (by omega) (fun t => .int .u32 t.vni) (fun y => .int .u32 y) (fun t y => { t with vni := y }) (fun t p s q h => tget h (by rintro n vn a b c d f g x y vt a1 b1 c1 d1 f1 g1 a2 b2 c2 d2 f2 g2 po lo hi fi st tw se qu ra bu rfl; rfl)) (fun t y p s q h => tset h (by rintro n vn a b c d f g x y vt a1 b1 c1 d1 f1 g1 a2 b2 c2 d2 f2 g2 po lo hi fi st tw se qu ra bu rfl; rfl)) (fun t y h => ⟨h.key, h.vmac, h.host⟩) (fun t y => ⟨rfl, rfl, rfl⟩))⟩
def spKey : Sp Ten := spOct 8 (fun t => t.key) (fun t y => { t with key := y })
theorem c_Key {w V : World} {p : Nat × Obj} {E L : List (Nat × Obj)} (h : Mem w V (p :: (E ++ L))) :
    Calls Tryz.prog 69 #[.func (.func 70) #[] #[]] V fun e V' => ∃ f E', e = .returned f.val ∧ Mem w V' (p :: (E' ++ L)) ∧ Sub E E' ∧ Fd w E' IT JT f spKey := by
  refine (mk_Oct_T h 70).mono ?_
  rintro e V' ⟨bo, rfl, hM⟩
  refine ⟨_, _ :: E, rfl, swap_front hM, fun q hq => List.mem_cons_of_mem _ hq, fd_Oct_T bo 8 70 2 (by omega) (by omega) _ _ (List.mem_cons_self ..) (enters_of Tryz.func70 (by kernel_rfl) rfl) acc_Key (fun t r V g off h => ⟨h.1.len.key, h.row 2 t.key h.1.key (by rw [h.1.len.key]; omega) [.string t.name, .int .u32 t.vni] _ rfl rfl⟩) ?_⟩
  exact lens_TO 2 8 (fun t y => { t with key := y }) (fun t p s q h => ⟨[.string t.name, .int .u32 t.vni], t.key.map (Value.int .u8), _, rfl, (by rw [List.length_map]; exact h.key), rfl, fun y => rfl⟩) (fun t y hy h => ⟨hy, h.vmac, h.host⟩) (fun t y => ⟨rfl, rfl, rfl⟩)
def spVtep : Sp Ten := spNum 4 (fun t => t.vtep) (fun t y => { t with vtep := y })
theorem c_Vtep {w V : World} {p : Nat × Obj} {E L : List (Nat × Obj)} (h : Mem w V (p :: (E ++ L))) :
    Calls Tryz.prog 67 #[.int .i64 4, .func (.func 71) #[] #[]] V fun e V' => ∃ f E', e = .returned f.val ∧ Mem w V' (p :: (E' ++ L)) ∧ Sub E E' ∧ Fd w E' IT JT f spVtep := by
  refine (mk_num_TU h 4 71).mono ?_
  rintro e V' ⟨bs, bo, rfl, hM⟩
  exact ⟨_, _ :: _ :: E, rfl, swap_front2 hM, fun q hq => List.mem_cons_of_mem _ (List.mem_cons_of_mem _ hq), fd_num_TU bs bo 4 71 10 (by omega) fits32 _ _ (List.mem_cons_self ..) (List.mem_cons_of_mem _ (List.mem_cons_self ..)) (enters_of Tryz.func71 (by kernel_rfl) rfl) acc_Vtep (fun t r V g off h => h.cell 10 (tget h.1.len (by rintro n vn a b c d f g x y vt a1 b1 c1 d1 f1 g1 a2 b2 c2 d2 f2 g2 po lo hi fi st tw se qu ra bu rfl; rfl))) (lens_T 10 (by omega) (fun t => .int .u32 t.vtep) (fun y => .int .u32 y) (fun t y => { t with vtep := y }) (fun t p s q h => tget h (by rintro n vn a b c d f g x y vt a1 b1 c1 d1 f1 g1 a2 b2 c2 d2 f2 g2 po lo hi fi st tw se qu ra bu rfl; rfl)) (fun t y p s q h => tset h (by rintro n vn a b c d f g x y vt a1 b1 c1 d1 f1 g1 a2 b2 c2 d2 f2 g2 po lo hi fi st tw se qu ra bu rfl; rfl)) (fun t y h => ⟨h.key, h.vmac, h.host⟩) (fun t y => ⟨rfl, rfl, rfl⟩))⟩
def spVtepMac : Sp Ten := spOct 6 (fun t => t.vmac) (fun t y => { t with vmac := y })
theorem c_VtepMac {w V : World} {p : Nat × Obj} {E L : List (Nat × Obj)} (h : Mem w V (p :: (E ++ L))) :
    Calls Tryz.prog 69 #[.func (.func 72) #[] #[]] V fun e V' => ∃ f E', e = .returned f.val ∧ Mem w V' (p :: (E' ++ L)) ∧ Sub E E' ∧ Fd w E' IT JT f spVtepMac := by
  refine (mk_Oct_T h 72).mono ?_
  rintro e V' ⟨bo, rfl, hM⟩
  refine ⟨_, _ :: E, rfl, swap_front hM, fun q hq => List.mem_cons_of_mem _ hq, fd_Oct_T bo 6 72 11 (by omega) (by omega) _ _ (List.mem_cons_self ..) (enters_of Tryz.func72 (by kernel_rfl) rfl) acc_VtepMac (fun t r V g off h => ⟨h.1.len.vmac, h.row 11 t.vmac h.1.vmac (by rw [h.1.len.vmac]; omega) (.string t.name :: .int .u32 t.vni :: (t.key.map (Value.int .u8) ++ [.int .u32 t.vtep])) (t.host.map (Value.int .u8) ++ ttl t r.1 r.2.1 r.2.2) (by simp [h.1.len.key]) (by simp [tc, ttl])⟩) ?_⟩
  exact lens_TO 11 6 (fun t y => { t with vmac := y }) (fun t p s q h => ⟨(.string t.name :: .int .u32 t.vni :: (t.key.map (Value.int .u8) ++ [.int .u32 t.vtep])), t.vmac.map (Value.int .u8), (t.host.map (Value.int .u8) ++ ttl t p s q), (by simp [h.key]), (by rw [List.length_map]; exact h.vmac), (by simp [tc, ttl]), fun y => (by simp [tc, ttl])⟩) (fun t y hy h => ⟨h.key, hy, h.host⟩) (fun t y => ⟨rfl, rfl, rfl⟩)
def spHost : Sp Ten := spOct 6 (fun t => t.host) (fun t y => { t with host := y })
theorem c_Host {w V : World} {p : Nat × Obj} {E L : List (Nat × Obj)} (h : Mem w V (p :: (E ++ L))) :
    Calls Tryz.prog 69 #[.func (.func 73) #[] #[]] V fun e V' => ∃ f E', e = .returned f.val ∧ Mem w V' (p :: (E' ++ L)) ∧ Sub E E' ∧ Fd w E' IT JT f spHost := by
  refine (mk_Oct_T h 73).mono ?_
  rintro e V' ⟨bo, rfl, hM⟩
  refine ⟨_, _ :: E, rfl, swap_front hM, fun q hq => List.mem_cons_of_mem _ hq, fd_Oct_T bo 6 73 17 (by omega) (by omega) _ _ (List.mem_cons_self ..) (enters_of Tryz.func73 (by kernel_rfl) rfl) acc_Host (fun t r V g off h => ⟨h.1.len.host, h.row 17 t.host h.1.host (by rw [h.1.len.host]; omega) (.string t.name :: .int .u32 t.vni :: (t.key.map (Value.int .u8) ++ .int .u32 t.vtep :: t.vmac.map (Value.int .u8))) (ttl t r.1 r.2.1 r.2.2) (by simp [h.1.len.key, h.1.len.vmac]) (by simp [tc, ttl])⟩) ?_⟩
  exact lens_TO 17 6 (fun t y => { t with host := y }) (fun t p s q h => ⟨(.string t.name :: .int .u32 t.vni :: (t.key.map (Value.int .u8) ++ .int .u32 t.vtep :: t.vmac.map (Value.int .u8))), t.host.map (Value.int .u8), (ttl t p s q), (by simp [h.key, h.vmac]), (by rw [List.length_map]; exact h.host), (by simp [tc, ttl]), fun y => (by simp [tc, ttl])⟩) (fun t y hy h => ⟨h.key, h.vmac, hy⟩) (fun t y => ⟨rfl, rfl, rfl⟩)
def spLo : Sp Ten := spNum 2 (fun t => t.lo) (fun t y => { t with lo := y })
theorem c_Lo {w V : World} {p : Nat × Obj} {E L : List (Nat × Obj)} (h : Mem w V (p :: (E ++ L))) :
    Calls Tryz.prog 74 #[.int .i64 2, .func (.func 75) #[] #[]] V fun e V' => ∃ f E', e = .returned f.val ∧ Mem w V' (p :: (E' ++ L)) ∧ Sub E E' ∧ Fd w E' IT JT f spLo := by
  refine (mk_num_TH h 2 75).mono ?_
  rintro e V' ⟨bs, bo, rfl, hM⟩
  exact ⟨_, _ :: _ :: E, rfl, swap_front2 hM, fun q hq => List.mem_cons_of_mem _ (List.mem_cons_of_mem _ hq), fd_num_TH bs bo 2 75 24 (by omega) fits16 _ _ (List.mem_cons_self ..) (List.mem_cons_of_mem _ (List.mem_cons_self ..)) (enters_of Tryz.func75 (by kernel_rfl) rfl) acc_Lo (fun t r V g off h => h.cell 24 (tget h.1.len (by rintro n vn a b c d f g x y vt a1 b1 c1 d1 f1 g1 a2 b2 c2 d2 f2 g2 po lo hi fi st tw se qu ra bu rfl; rfl))) (lens_T 24 (by omega) (fun t => .int .u16 t.lo) (fun y => .int .u16 y) (fun t y => { t with lo := y }) (fun t p s q h => tget h (by rintro n vn a b c d f g x y vt a1 b1 c1 d1 f1 g1 a2 b2 c2 d2 f2 g2 po lo hi fi st tw se qu ra bu rfl; rfl)) (fun t y p s q h => tset h (by rintro n vn a b c d f g x y vt a1 b1 c1 d1 f1 g1 a2 b2 c2 d2 f2 g2 po lo hi fi st tw se qu ra bu rfl; rfl)) (fun t y h => ⟨h.key, h.vmac, h.host⟩) (fun t y => ⟨rfl, rfl, rfl⟩))⟩
def spHi : Sp Ten := spNum 2 (fun t => t.hi) (fun t y => { t with hi := y })
theorem c_Hi {w V : World} {p : Nat × Obj} {E L : List (Nat × Obj)} (h : Mem w V (p :: (E ++ L))) :
    Calls Tryz.prog 74 #[.int .i64 2, .func (.func 76) #[] #[]] V fun e V' => ∃ f E', e = .returned f.val ∧ Mem w V' (p :: (E' ++ L)) ∧ Sub E E' ∧ Fd w E' IT JT f spHi := by
  refine (mk_num_TH h 2 76).mono ?_
  rintro e V' ⟨bs, bo, rfl, hM⟩
  exact ⟨_, _ :: _ :: E, rfl, swap_front2 hM, fun q hq => List.mem_cons_of_mem _ (List.mem_cons_of_mem _ hq), fd_num_TH bs bo 2 76 25 (by omega) fits16 _ _ (List.mem_cons_self ..) (List.mem_cons_of_mem _ (List.mem_cons_self ..)) (enters_of Tryz.func76 (by kernel_rfl) rfl) acc_Hi (fun t r V g off h => h.cell 25 (tget h.1.len (by rintro n vn a b c d f g x y vt a1 b1 c1 d1 f1 g1 a2 b2 c2 d2 f2 g2 po lo hi fi st tw se qu ra bu rfl; rfl))) (lens_T 25 (by omega) (fun t => .int .u16 t.hi) (fun y => .int .u16 y) (fun t y => { t with hi := y }) (fun t p s q h => tget h (by rintro n vn a b c d f g x y vt a1 b1 c1 d1 f1 g1 a2 b2 c2 d2 f2 g2 po lo hi fi st tw se qu ra bu rfl; rfl)) (fun t y p s q h => tset h (by rintro n vn a b c d f g x y vt a1 b1 c1 d1 f1 g1 a2 b2 c2 d2 f2 g2 po lo hi fi st tw se qu ra bu rfl; rfl)) (fun t y h => ⟨h.key, h.vmac, h.host⟩) (fun t y => ⟨rfl, rfl, rfl⟩))⟩
def spFilter : Sp Ten := spNum 1 (fun t => t.filter) (fun t y => { t with filter := y })
theorem c_Filter {w V : World} {p : Nat × Obj} {E L : List (Nat × Obj)} (h : Mem w V (p :: (E ++ L))) :
    Calls Tryz.prog 77 #[.int .i64 1, .func (.func 78) #[] #[]] V fun e V' => ∃ f E', e = .returned f.val ∧ Mem w V' (p :: (E' ++ L)) ∧ Sub E E' ∧ Fd w E' IT JT f spFilter := by
  refine (mk_num_TI h 1 78).mono ?_
  rintro e V' ⟨bs, bo, rfl, hM⟩
  exact ⟨_, _ :: _ :: E, rfl, swap_front2 hM, fun q hq => List.mem_cons_of_mem _ (List.mem_cons_of_mem _ hq), fd_num_TI bs bo 1 78 26 (by omega) (fits64 1 (by omega)) _ _ (List.mem_cons_self ..) (List.mem_cons_of_mem _ (List.mem_cons_self ..)) (enters_of Tryz.func78 (by kernel_rfl) rfl) acc_Filter (fun t r V g off h => h.cell 26 (tget h.1.len (by rintro n vn a b c d f g x y vt a1 b1 c1 d1 f1 g1 a2 b2 c2 d2 f2 g2 po lo hi fi st tw se qu ra bu rfl; rfl))) (lens_T 26 (by omega) (fun t => .int .i64 t.filter) (fun y => .int .i64 y) (fun t y => { t with filter := y }) (fun t p s q h => tget h (by rintro n vn a b c d f g x y vt a1 b1 c1 d1 f1 g1 a2 b2 c2 d2 f2 g2 po lo hi fi st tw se qu ra bu rfl; rfl)) (fun t y p s q h => tset h (by rintro n vn a b c d f g x y vt a1 b1 c1 d1 f1 g1 a2 b2 c2 d2 f2 g2 po lo hi fi st tw se qu ra bu rfl; rfl)) (fun t y h => ⟨h.key, h.vmac, h.host⟩) (fun t y => ⟨rfl, rfl, rfl⟩))⟩
def spSess : Sp Ten := spNum 2 (fun t => t.sess) (fun t y => { t with sess := y })
theorem c_Sess {w V : World} {p : Nat × Obj} {E L : List (Nat × Obj)} (h : Mem w V (p :: (E ++ L))) :
    Calls Tryz.prog 77 #[.int .i64 2, .func (.func 79) #[] #[]] V fun e V' => ∃ f E', e = .returned f.val ∧ Mem w V' (p :: (E' ++ L)) ∧ Sub E E' ∧ Fd w E' IT JT f spSess := by
  refine (mk_num_TI h 2 79).mono ?_
  rintro e V' ⟨bs, bo, rfl, hM⟩
  exact ⟨_, _ :: _ :: E, rfl, swap_front2 hM, fun q hq => List.mem_cons_of_mem _ (List.mem_cons_of_mem _ hq), fd_num_TI bs bo 2 79 29 (by omega) (fits64 2 (by omega)) _ _ (List.mem_cons_self ..) (List.mem_cons_of_mem _ (List.mem_cons_self ..)) (enters_of Tryz.func79 (by kernel_rfl) rfl) acc_Sess (fun t r V g off h => h.cell 29 (tget h.1.len (by rintro n vn a b c d f g x y vt a1 b1 c1 d1 f1 g1 a2 b2 c2 d2 f2 g2 po lo hi fi st tw se qu ra bu rfl; rfl))) (lens_T 29 (by omega) (fun t => .int .i64 t.sess) (fun y => .int .i64 y) (fun t y => { t with sess := y }) (fun t p s q h => tget h (by rintro n vn a b c d f g x y vt a1 b1 c1 d1 f1 g1 a2 b2 c2 d2 f2 g2 po lo hi fi st tw se qu ra bu rfl; rfl)) (fun t y p s q h => tset h (by rintro n vn a b c d f g x y vt a1 b1 c1 d1 f1 g1 a2 b2 c2 d2 f2 g2 po lo hi fi st tw se qu ra bu rfl; rfl)) (fun t y h => ⟨h.key, h.vmac, h.host⟩) (fun t y => ⟨rfl, rfl, rfl⟩))⟩
def spQueue : Sp Ten := spNum 2 (fun t => t.queue) (fun t y => { t with queue := y })
theorem c_Queue {w V : World} {p : Nat × Obj} {E L : List (Nat × Obj)} (h : Mem w V (p :: (E ++ L))) :
    Calls Tryz.prog 77 #[.int .i64 2, .func (.func 80) #[] #[]] V fun e V' => ∃ f E', e = .returned f.val ∧ Mem w V' (p :: (E' ++ L)) ∧ Sub E E' ∧ Fd w E' IT JT f spQueue := by
  refine (mk_num_TI h 2 80).mono ?_
  rintro e V' ⟨bs, bo, rfl, hM⟩
  exact ⟨_, _ :: _ :: E, rfl, swap_front2 hM, fun q hq => List.mem_cons_of_mem _ (List.mem_cons_of_mem _ hq), fd_num_TI bs bo 2 80 30 (by omega) (fits64 2 (by omega)) _ _ (List.mem_cons_self ..) (List.mem_cons_of_mem _ (List.mem_cons_self ..)) (enters_of Tryz.func80 (by kernel_rfl) rfl) acc_Queue (fun t r V g off h => h.cell 30 (tget h.1.len (by rintro n vn a b c d f g x y vt a1 b1 c1 d1 f1 g1 a2 b2 c2 d2 f2 g2 po lo hi fi st tw se qu ra bu rfl; rfl))) (lens_T 30 (by omega) (fun t => .int .i64 t.queue) (fun y => .int .i64 y) (fun t y => { t with queue := y }) (fun t p s q h => tget h (by rintro n vn a b c d f g x y vt a1 b1 c1 d1 f1 g1 a2 b2 c2 d2 f2 g2 po lo hi fi st tw se qu ra bu rfl; rfl)) (fun t y p s q h => tset h (by rintro n vn a b c d f g x y vt a1 b1 c1 d1 f1 g1 a2 b2 c2 d2 f2 g2 po lo hi fi st tw se qu ra bu rfl; rfl)) (fun t y h => ⟨h.key, h.vmac, h.host⟩) (fun t y => ⟨rfl, rfl, rfl⟩))⟩
def spRate : Sp Ten := spNum 4 (fun t => t.rate) (fun t y => { t with rate := y })
theorem c_Rate {w V : World} {p : Nat × Obj} {E L : List (Nat × Obj)} (h : Mem w V (p :: (E ++ L))) :
    Calls Tryz.prog 67 #[.int .i64 4, .func (.func 81) #[] #[]] V fun e V' => ∃ f E', e = .returned f.val ∧ Mem w V' (p :: (E' ++ L)) ∧ Sub E E' ∧ Fd w E' IT JT f spRate := by
  refine (mk_num_TU h 4 81).mono ?_
  rintro e V' ⟨bs, bo, rfl, hM⟩
  exact ⟨_, _ :: _ :: E, rfl, swap_front2 hM, fun q hq => List.mem_cons_of_mem _ (List.mem_cons_of_mem _ hq), fd_num_TU bs bo 4 81 31 (by omega) fits32 _ _ (List.mem_cons_self ..) (List.mem_cons_of_mem _ (List.mem_cons_self ..)) (enters_of Tryz.func81 (by kernel_rfl) rfl) acc_Rate (fun t r V g off h => h.cell 31 (tget h.1.len (by rintro n vn a b c d f g x y vt a1 b1 c1 d1 f1 g1 a2 b2 c2 d2 f2 g2 po lo hi fi st tw se qu ra bu rfl; rfl))) (lens_T 31 (by omega) (fun t => .int .u32 t.rate) (fun y => .int .u32 y) (fun t y => { t with rate := y }) (fun t p s q h => tget h (by rintro n vn a b c d f g x y vt a1 b1 c1 d1 f1 g1 a2 b2 c2 d2 f2 g2 po lo hi fi st tw se qu ra bu rfl; rfl)) (fun t y p s q h => tset h (by rintro n vn a b c d f g x y vt a1 b1 c1 d1 f1 g1 a2 b2 c2 d2 f2 g2 po lo hi fi st tw se qu ra bu rfl; rfl)) (fun t y h => ⟨h.key, h.vmac, h.host⟩) (fun t y => ⟨rfl, rfl, rfl⟩))⟩
def spBurst : Sp Ten := spNum 4 (fun t => t.burst) (fun t y => { t with burst := y })
theorem c_Burst {w V : World} {p : Nat × Obj} {E L : List (Nat × Obj)} (h : Mem w V (p :: (E ++ L))) :
    Calls Tryz.prog 67 #[.int .i64 4, .func (.func 82) #[] #[]] V fun e V' => ∃ f E', e = .returned f.val ∧ Mem w V' (p :: (E' ++ L)) ∧ Sub E E' ∧ Fd w E' IT JT f spBurst := by
  refine (mk_num_TU h 4 82).mono ?_
  rintro e V' ⟨bs, bo, rfl, hM⟩
  exact ⟨_, _ :: _ :: E, rfl, swap_front2 hM, fun q hq => List.mem_cons_of_mem _ (List.mem_cons_of_mem _ hq), fd_num_TU bs bo 4 82 32 (by omega) fits32 _ _ (List.mem_cons_self ..) (List.mem_cons_of_mem _ (List.mem_cons_self ..)) (enters_of Tryz.func82 (by kernel_rfl) rfl) acc_Burst (fun t r V g off h => h.cell 32 (tget h.1.len (by rintro n vn a b c d f g x y vt a1 b1 c1 d1 f1 g1 a2 b2 c2 d2 f2 g2 po lo hi fi st tw se qu ra bu rfl; rfl))) (lens_T 32 (by omega) (fun t => .int .u32 t.burst) (fun y => .int .u32 y) (fun t y => { t with burst := y }) (fun t p s q h => tget h (by rintro n vn a b c d f g x y vt a1 b1 c1 d1 f1 g1 a2 b2 c2 d2 f2 g2 po lo hi fi st tw se qu ra bu rfl; rfl)) (fun t y p s q h => tset h (by rintro n vn a b c d f g x y vt a1 b1 c1 d1 f1 g1 a2 b2 c2 d2 f2 g2 po lo hi fi st tw se qu ra bu rfl; rfl)) (fun t y h => ⟨h.key, h.vmac, h.host⟩) (fun t y => ⟨rfl, rfl, rfl⟩))⟩
def spPool : Sp Ten := spCnt (fun t => t.pool.length) set_pool
theorem c_Pool {w V : World} {p : Nat × Obj} {E L : List (Nat × Obj)} (h : Mem w V (p :: (E ++ L))) :
    Calls Tryz.prog 83 #[.func (.func 61) #[] #[]] V fun e V' => ∃ f E', e = .returned f.val ∧ Mem w V' (p :: (E' ++ L)) ∧ Sub E E' ∧ Fd w E' IT JT f spPool := by
  refine (mk_Cnt_TU h 61).mono ?_
  rintro e V' ⟨bo, rfl, hM⟩
  refine ⟨_, _ :: E, rfl, swap_front hM, fun q hq => List.mem_cons_of_mem _ hq, fd_Cnt_TU bo 61 23 _ _ (List.mem_cons_self ..) (enters_of Tryz.func61 (by kernel_rfl) rfl) acc_Pool (fun r => r.1) (fun t r V g off h => ⟨?_, h.cell 23 (tget h.1.len (by rintro n vn a b c d f g x y vt a1 b1 c1 d1 f1 g1 a2 b2 c2 d2 f2 g2 po lo hi fi st tw se qu ra bu rfl; rfl))⟩) lens_Cpool⟩
  obtain ⟨a, c, e, h1, h2, h3, -⟩ := h.2.2.1
  have hl : (ux t.pool).length = t.pool.length := by simp [ux]
  rw [hl] at e h1
  exact ⟨a, c, e, h1, h2, h3⟩
def spStatics : Sp Ten := spCnt (fun t => t.stat.length) set_stat
theorem c_Statics {w V : World} {p : Nat × Obj} {E L : List (Nat × Obj)} (h : Mem w V (p :: (E ++ L))) :
    Calls Tryz.prog 84 #[.func (.func 62) #[] #[]] V fun e V' => ∃ f E', e = .returned f.val ∧ Mem w V' (p :: (E' ++ L)) ∧ Sub E E' ∧ Fd w E' IT JT f spStatics := by
  refine (mk_Cnt_TP h 62).mono ?_
  rintro e V' ⟨bo, rfl, hM⟩
  refine ⟨_, _ :: E, rfl, swap_front hM, fun q hq => List.mem_cons_of_mem _ hq, fd_Cnt_TP bo 62 27 _ _ (List.mem_cons_self ..) (enters_of Tryz.func62 (by kernel_rfl) rfl) acc_Statics (fun r => r.2.1) (fun t r V g off h => ⟨?_, h.cell 27 (tget h.1.len (by rintro n vn a b c d f g x y vt a1 b1 c1 d1 f1 g1 a2 b2 c2 d2 f2 g2 po lo hi fi st tw se qu ra bu rfl; rfl))⟩) lens_Cstat⟩
  obtain ⟨a, c, e, h1, h2, h3, -⟩ := h.2.2.2.1
  have hl : (px t.stat).length = t.stat.length := by simp [px]
  rw [hl] at e h1
  exact ⟨a, c, e, h1, h2, h3⟩
def spTwices : Sp Ten := spCnt (fun t => t.twi.length) set_twi
theorem c_Twices {w V : World} {p : Nat × Obj} {E L : List (Nat × Obj)} (h : Mem w V (p :: (E ++ L))) :
    Calls Tryz.prog 84 #[.func (.func 63) #[] #[]] V fun e V' => ∃ f E', e = .returned f.val ∧ Mem w V' (p :: (E' ++ L)) ∧ Sub E E' ∧ Fd w E' IT JT f spTwices := by
  refine (mk_Cnt_TP h 63).mono ?_
  rintro e V' ⟨bo, rfl, hM⟩
  refine ⟨_, _ :: E, rfl, swap_front hM, fun q hq => List.mem_cons_of_mem _ hq, fd_Cnt_TP bo 63 28 _ _ (List.mem_cons_self ..) (enters_of Tryz.func63 (by kernel_rfl) rfl) acc_Twices (fun r => r.2.2) (fun t r V g off h => ⟨?_, h.cell 28 (tget h.1.len (by rintro n vn a b c d f g x y vt a1 b1 c1 d1 f1 g1 a2 b2 c2 d2 f2 g2 po lo hi fi st tw se qu ra bu rfl; rfl))⟩) lens_Ctwi⟩
  obtain ⟨a, c, e, h1, h2, h3, -⟩ := h.2.2.2.2
  have hl : (px t.twi).length = t.twi.length := by simp [px]
  rw [hl] at e h1
  exact ⟨a, c, e, h1, h2, h3⟩
def spPoolI : Sp Ten := spItm 0 spU (fun t => t.pool) (fun t y => { t with pool := y })
theorem c_PoolI {w V : World} {p : Nat × Obj} {E L : List (Nat × Obj)} (h : Mem w V (p :: (E ++ L))) (fi : Fv) (hfi : Fd w E IU JU fi spU) :
    Calls Tryz.prog 85 #[.func (.func 61) #[] #[], fi.val] V fun e V' => ∃ f E', e = .returned f.val ∧ Mem w V' (p :: (E' ++ L)) ∧ Sub E E' ∧ Fd w E' IT JT f spPoolI := by
  refine (mk_Itm_TU h 61 fi).mono ?_
  rintro e V' ⟨bo, bi, rfl, hM⟩
  exact ⟨_, _ :: _ :: E, rfl, swap_front2 hM, fun q hq => List.mem_cons_of_mem _ (List.mem_cons_of_mem _ hq), fd_Itm_TU bo bi 61 23 _ _ fi spU spU_eq (hfi.more (fun q hq => List.mem_cons_of_mem _ (List.mem_cons_of_mem _ hq))) (List.mem_cons_self ..) (List.mem_cons_of_mem _ (List.mem_cons_self ..)) (enters_of Tryz.func61 (by kernel_rfl) rfl) acc_Pool (fun r => r.1) (fun t r V g off h => ⟨h.1.pool, h.2.2.1, h.cell 23 (tget h.1.len (by rintro n vn a b c d f g x y vt a1 b1 c1 d1 f1 g1 a2 b2 c2 d2 f2 g2 po lo hi fi st tw se qu ra bu rfl; rfl))⟩) lens_Ipool⟩
def spStaticsI : Sp Ten := spItm (0, 0) spP (fun t => t.stat) (fun t y => { t with stat := y })
theorem c_StaticsI {w V : World} {p : Nat × Obj} {E L : List (Nat × Obj)} (h : Mem w V (p :: (E ++ L))) (fi : Fv) (hfi : Fd w E IP JP fi spP) :
    Calls Tryz.prog 87 #[.func (.func 62) #[] #[], fi.val] V fun e V' => ∃ f E', e = .returned f.val ∧ Mem w V' (p :: (E' ++ L)) ∧ Sub E E' ∧ Fd w E' IT JT f spStaticsI := by
  refine (mk_Itm_TP h 62 fi).mono ?_
  rintro e V' ⟨bo, bi, rfl, hM⟩
  exact ⟨_, _ :: _ :: E, rfl, swap_front2 hM, fun q hq => List.mem_cons_of_mem _ (List.mem_cons_of_mem _ hq), fd_Itm_TP bo bi 62 27 _ _ fi spP spP_eq (hfi.more (fun q hq => List.mem_cons_of_mem _ (List.mem_cons_of_mem _ hq))) (List.mem_cons_self ..) (List.mem_cons_of_mem _ (List.mem_cons_self ..)) (enters_of Tryz.func62 (by kernel_rfl) rfl) acc_Statics (fun r => r.2.1) (fun t r V g off h => ⟨h.1.stat, h.2.2.2.1, h.cell 27 (tget h.1.len (by rintro n vn a b c d f g x y vt a1 b1 c1 d1 f1 g1 a2 b2 c2 d2 f2 g2 po lo hi fi st tw se qu ra bu rfl; rfl))⟩) lens_Istat⟩
def spTwicesI : Sp Ten := spItm (0, 0) spP (fun t => t.twi) (fun t y => { t with twi := y })
theorem c_TwicesI {w V : World} {p : Nat × Obj} {E L : List (Nat × Obj)} (h : Mem w V (p :: (E ++ L))) (fi : Fv) (hfi : Fd w E IP JP fi spP) :
    Calls Tryz.prog 87 #[.func (.func 63) #[] #[], fi.val] V fun e V' => ∃ f E', e = .returned f.val ∧ Mem w V' (p :: (E' ++ L)) ∧ Sub E E' ∧ Fd w E' IT JT f spTwicesI := by
  refine (mk_Itm_TP h 63 fi).mono ?_
  rintro e V' ⟨bo, bi, rfl, hM⟩
  exact ⟨_, _ :: _ :: E, rfl, swap_front2 hM, fun q hq => List.mem_cons_of_mem _ (List.mem_cons_of_mem _ hq), fd_Itm_TP bo bi 63 28 _ _ fi spP spP_eq (hfi.more (fun q hq => List.mem_cons_of_mem _ (List.mem_cons_of_mem _ hq))) (List.mem_cons_self ..) (List.mem_cons_of_mem _ (List.mem_cons_self ..)) (enters_of Tryz.func63 (by kernel_rfl) rfl) acc_Twices (fun r => r.2.2) (fun t r V g off h => ⟨h.1.twi, h.2.2.2.2, h.cell 28 (tget h.1.len (by rintro n vn a b c d f g x y vt a1 b1 c1 d1 f1 g1 a2 b2 c2 d2 f2 g2 po lo hi fi st tw se qu ra bu rfl; rfl))⟩) lens_Itwi⟩
theorem c_address {w V : World} {p : Nat × Obj} {E L : List (Nat × Obj)} (h : Mem w V (p :: (E ++ L))) :
    Calls Tryz.prog 86 #[] V fun e V' => ∃ f E', e = .returned f.val ∧ Mem w V' (p :: (E' ++ L)) ∧ Sub E E' ∧ Fd w E' IU JU f spU := by
  refine (address_any h).mono ?_
  rintro e V' ⟨f, A, rfl, hM, hF⟩
  exact ⟨f, A ++ E, rfl, swap_app hM, fun q hq => List.mem_append_right _ hq, hF.more (fun q hq => List.mem_append_left _ hq)⟩
theorem c_pair {w V : World} {p : Nat × Obj} {E L : List (Nat × Obj)} (h : Mem w V (p :: (E ++ L))) :
    Calls Tryz.prog 88 #[] V fun e V' => ∃ f E', e = .returned f.val ∧ Mem w V' (p :: (E' ++ L)) ∧ Sub E E' ∧ Fd w E' IP JP f spP := by
  refine (pair_any h).mono ?_
  rintro e V' ⟨f, A, rfl, hM, hF⟩
  exact ⟨f, A ++ E, rfl, swap_app hM, fun q hq => List.mem_append_right _ hq, hF.more (fun q hq => List.mem_append_left _ hq)⟩
/-- A tenant's fields, in their order. -/
def tsp : List (Sp Ten) := [spName, spVni, spKey, spVtep, spVtepMac, spHost, spLo, spHi, spFilter, spSess, spQueue, spRate, spBurst, spPool, spStatics, spTwices, spPoolI, spStaticsI, spTwicesI]
def spT : Sp Ten := spAll tsp
end Go.Proofs.YtngegdamcfmonaaGreat

namespace Go.Proofs.YtngegdamcfmonaaGreat
open Go.RowKit
open Sm
open Cf
set_option linter.unusedVariables false
set_option maxRecDepth 20000

set_option maxHeartbeats 16000000 in
theorem tenant_any {w W : World} {L : List (Nat × Obj)} (h : Mem w W L) :
    Calls Tryz.prog 33 #[] W fun e W' => ∃ f E, e = .returned f.val ∧ Mem w W' (E ++ L) ∧ Fd w E IT JT f spT := by
  have hM0 : Mem w (W.alloc (.cells #[.nilFunc, .nilFunc, .nilFunc] 79)) ((W.heap.size, .cells #[.nilFunc, .nilFunc, .nilFunc] 79 (0, 0)) :: ([] ++ L)) := (h.push W.heap.size _ rfl).perm List.perm_append_comm
  obtain ⟨rb, hrb⟩ : ∃ rb, W.heap.size = rb := ⟨_, rfl⟩
  rw [hrb] at hM0
  clear h
  go_enter Tryz.func33, Tryz.ntmps33
  have C1 := c_Name hM0
  go_wp2_with fail
  refine C1.mono ?_
  rintro e V1 ⟨⟨k1a, k1b, k1c, q1a, q1b, q1c⟩, E1, rfl, hM1, S1, hF1⟩
  have F1 : Hid (Fd w E1 _ _ ⟨k1a, k1b, k1c, q1a, q1b, q1c⟩ _) := hF1
  have T1 : Hid (Sub [] E1) := S1
  simp only [Fv.val]
  clear C1 hM0 hF1 S1
  have C2 := c_Vni hM1
  go_wp2_with fail
  refine C2.mono ?_
  rintro e V2 ⟨⟨k2a, k2b, k2c, q2a, q2b, q2c⟩, E2, rfl, hM2, S2, hF2⟩
  have F2 : Hid (Fd w E2 _ _ ⟨k2a, k2b, k2c, q2a, q2b, q2c⟩ _) := hF2
  have T2 : Hid (Sub E1 E2) := S2
  simp only [Fv.val]
  clear C2 hM1 hF2 S2
  have C3 := c_Key hM2
  go_wp2_with fail
  refine C3.mono ?_
  rintro e V3 ⟨⟨k3a, k3b, k3c, q3a, q3b, q3c⟩, E3, rfl, hM3, S3, hF3⟩
  have F3 : Hid (Fd w E3 _ _ ⟨k3a, k3b, k3c, q3a, q3b, q3c⟩ _) := hF3
  have T3 : Hid (Sub E2 E3) := S3
  simp only [Fv.val]
  clear C3 hM2 hF3 S3
  have C4 := c_Vtep hM3
  go_wp2_with fail
  refine C4.mono ?_
  rintro e V4 ⟨⟨k4a, k4b, k4c, q4a, q4b, q4c⟩, E4, rfl, hM4, S4, hF4⟩
  have F4 : Hid (Fd w E4 _ _ ⟨k4a, k4b, k4c, q4a, q4b, q4c⟩ _) := hF4
  have T4 : Hid (Sub E3 E4) := S4
  simp only [Fv.val]
  clear C4 hM3 hF4 S4
  have C5 := c_VtepMac hM4
  go_wp2_with fail
  refine C5.mono ?_
  rintro e V5 ⟨⟨k5a, k5b, k5c, q5a, q5b, q5c⟩, E5, rfl, hM5, S5, hF5⟩
  have F5 : Hid (Fd w E5 _ _ ⟨k5a, k5b, k5c, q5a, q5b, q5c⟩ _) := hF5
  have T5 : Hid (Sub E4 E5) := S5
  simp only [Fv.val]
  clear C5 hM4 hF5 S5
  have C6 := c_Host hM5
  go_wp2_with fail
  refine C6.mono ?_
  rintro e V6 ⟨⟨k6a, k6b, k6c, q6a, q6b, q6c⟩, E6, rfl, hM6, S6, hF6⟩
  have F6 : Hid (Fd w E6 _ _ ⟨k6a, k6b, k6c, q6a, q6b, q6c⟩ _) := hF6
  have T6 : Hid (Sub E5 E6) := S6
  simp only [Fv.val]
  clear C6 hM5 hF6 S6
  have C7 := c_Lo hM6
  go_wp2_with fail
  refine C7.mono ?_
  rintro e V7 ⟨⟨k7a, k7b, k7c, q7a, q7b, q7c⟩, E7, rfl, hM7, S7, hF7⟩
  have F7 : Hid (Fd w E7 _ _ ⟨k7a, k7b, k7c, q7a, q7b, q7c⟩ _) := hF7
  have T7 : Hid (Sub E6 E7) := S7
  simp only [Fv.val]
  clear C7 hM6 hF7 S7
  have C8 := c_Hi hM7
  go_wp2_with fail
  refine C8.mono ?_
  rintro e V8 ⟨⟨k8a, k8b, k8c, q8a, q8b, q8c⟩, E8, rfl, hM8, S8, hF8⟩
  have F8 : Hid (Fd w E8 _ _ ⟨k8a, k8b, k8c, q8a, q8b, q8c⟩ _) := hF8
  have T8 : Hid (Sub E7 E8) := S8
  simp only [Fv.val]
  clear C8 hM7 hF8 S8
  have C9 := c_Filter hM8
  go_wp2_with fail
  refine C9.mono ?_
  rintro e V9 ⟨⟨k9a, k9b, k9c, q9a, q9b, q9c⟩, E9, rfl, hM9, S9, hF9⟩
  have F9 : Hid (Fd w E9 _ _ ⟨k9a, k9b, k9c, q9a, q9b, q9c⟩ _) := hF9
  have T9 : Hid (Sub E8 E9) := S9
  simp only [Fv.val]
  clear C9 hM8 hF9 S9
  have C10 := c_Sess hM9
  go_wp2_with fail
  refine C10.mono ?_
  rintro e V10 ⟨⟨k10a, k10b, k10c, q10a, q10b, q10c⟩, E10, rfl, hM10, S10, hF10⟩
  have F10 : Hid (Fd w E10 _ _ ⟨k10a, k10b, k10c, q10a, q10b, q10c⟩ _) := hF10
  have T10 : Hid (Sub E9 E10) := S10
  simp only [Fv.val]
  clear C10 hM9 hF10 S10
  have C11 := c_Queue hM10
  go_wp2_with fail
  refine C11.mono ?_
  rintro e V11 ⟨⟨k11a, k11b, k11c, q11a, q11b, q11c⟩, E11, rfl, hM11, S11, hF11⟩
  have F11 : Hid (Fd w E11 _ _ ⟨k11a, k11b, k11c, q11a, q11b, q11c⟩ _) := hF11
  have T11 : Hid (Sub E10 E11) := S11
  simp only [Fv.val]
  clear C11 hM10 hF11 S11
  have C12 := c_Rate hM11
  go_wp2_with fail
  refine C12.mono ?_
  rintro e V12 ⟨⟨k12a, k12b, k12c, q12a, q12b, q12c⟩, E12, rfl, hM12, S12, hF12⟩
  have F12 : Hid (Fd w E12 _ _ ⟨k12a, k12b, k12c, q12a, q12b, q12c⟩ _) := hF12
  have T12 : Hid (Sub E11 E12) := S12
  simp only [Fv.val]
  clear C12 hM11 hF12 S12
  have C13 := c_Burst hM12
  go_wp2_with fail
  refine C13.mono ?_
  rintro e V13 ⟨⟨k13a, k13b, k13c, q13a, q13b, q13c⟩, E13, rfl, hM13, S13, hF13⟩
  have F13 : Hid (Fd w E13 _ _ ⟨k13a, k13b, k13c, q13a, q13b, q13c⟩ _) := hF13
  have T13 : Hid (Sub E12 E13) := S13
  simp only [Fv.val]
  clear C13 hM12 hF13 S13
  have C14 := c_Pool hM13
  go_wp2_with fail
  refine C14.mono ?_
  rintro e V14 ⟨⟨k14a, k14b, k14c, q14a, q14b, q14c⟩, E14, rfl, hM14, S14, hF14⟩
  have F14 : Hid (Fd w E14 _ _ ⟨k14a, k14b, k14c, q14a, q14b, q14c⟩ _) := hF14
  have T14 : Hid (Sub E13 E14) := S14
  simp only [Fv.val]
  clear C14 hM13 hF14 S14
  have C15 := c_Statics hM14
  go_wp2_with fail
  refine C15.mono ?_
  rintro e V15 ⟨⟨k15a, k15b, k15c, q15a, q15b, q15c⟩, E15, rfl, hM15, S15, hF15⟩
  have F15 : Hid (Fd w E15 _ _ ⟨k15a, k15b, k15c, q15a, q15b, q15c⟩ _) := hF15
  have T15 : Hid (Sub E14 E15) := S15
  simp only [Fv.val]
  clear C15 hM14 hF15 S15
  have C16 := c_Twices hM15
  go_wp2_with fail
  refine C16.mono ?_
  rintro e V16 ⟨⟨k16a, k16b, k16c, q16a, q16b, q16c⟩, E16, rfl, hM16, S16, hF16⟩
  have F16 : Hid (Fd w E16 _ _ ⟨k16a, k16b, k16c, q16a, q16b, q16c⟩ _) := hF16
  have T16 : Hid (Sub E15 E16) := S16
  simp only [Fv.val]
  clear C16 hM15 hF16 S16
  have C17 := c_address hM16
  go_wp2_with fail
  refine C17.mono ?_
  rintro e V17 ⟨⟨k17a, k17b, k17c, q17a, q17b, q17c⟩, E17, rfl, hM17, S17, hF17⟩
  have F17 : Hid (Fd w E17 _ _ ⟨k17a, k17b, k17c, q17a, q17b, q17c⟩ _) := hF17
  have T17 : Hid (Sub E16 E17) := S17
  simp only [Fv.val]
  clear C17 hM16 hF17 S17
  have C18 := c_PoolI hM17 ⟨k17a, k17b, k17c, q17a, q17b, q17c⟩ F17.out
  simp only [Fv.val] at C18
  go_wp2_with fail
  refine C18.mono ?_
  rintro e V18 ⟨⟨k18a, k18b, k18c, q18a, q18b, q18c⟩, E18, rfl, hM18, S18, hF18⟩
  have F18 : Hid (Fd w E18 _ _ ⟨k18a, k18b, k18c, q18a, q18b, q18c⟩ _) := hF18
  have T18 : Hid (Sub E17 E18) := S18
  simp only
  clear C18 hM17 hF18 S18
  have C19 := c_pair hM18
  go_wp2_with fail
  refine C19.mono ?_
  rintro e V19 ⟨⟨k19a, k19b, k19c, q19a, q19b, q19c⟩, E19, rfl, hM19, S19, hF19⟩
  have F19 : Hid (Fd w E19 _ _ ⟨k19a, k19b, k19c, q19a, q19b, q19c⟩ _) := hF19
  have T19 : Hid (Sub E18 E19) := S19
  simp only [Fv.val]
  clear C19 hM18 hF19 S19
  have C20 := c_StaticsI hM19 ⟨k19a, k19b, k19c, q19a, q19b, q19c⟩ F19.out
  simp only [Fv.val] at C20
  go_wp2_with fail
  refine C20.mono ?_
  rintro e V20 ⟨⟨k20a, k20b, k20c, q20a, q20b, q20c⟩, E20, rfl, hM20, S20, hF20⟩
  have F20 : Hid (Fd w E20 _ _ ⟨k20a, k20b, k20c, q20a, q20b, q20c⟩ _) := hF20
  have T20 : Hid (Sub E19 E20) := S20
  simp only
  clear C20 hM19 hF20 S20
  have C21 := c_pair hM20
  go_wp2_with fail
  refine C21.mono ?_
  rintro e V21 ⟨⟨k21a, k21b, k21c, q21a, q21b, q21c⟩, E21, rfl, hM21, S21, hF21⟩
  have F21 : Hid (Fd w E21 _ _ ⟨k21a, k21b, k21c, q21a, q21b, q21c⟩ _) := hF21
  have T21 : Hid (Sub E20 E21) := S21
  simp only [Fv.val]
  clear C21 hM20 hF21 S21
  have C22 := c_TwicesI hM21 ⟨k21a, k21b, k21c, q21a, q21b, q21c⟩ F21.out
  simp only [Fv.val] at C22
  go_wp2_with fail
  refine C22.mono ?_
  rintro e V22 ⟨⟨k22a, k22b, k22c, q22a, q22b, q22c⟩, E22, rfl, hM22, S22, hF22⟩
  have F22 : Hid (Fd w E22 _ _ ⟨k22a, k22b, k22c, q22a, q22b, q22c⟩ _) := hF22
  have T22 : Hid (Sub E21 E22) := S22
  simp only
  clear C22 hM21 hF22 S22
  obtain ⟨lb, hlb⟩ : ∃ lb, V22.heap.size = lb := ⟨_, rfl⟩
  obtain ⟨fs, hfs⟩ : ∃ fs : List Fv, fs = [⟨k1a, k1b, k1c, q1a, q1b, q1c⟩, ⟨k2a, k2b, k2c, q2a, q2b, q2c⟩, ⟨k3a, k3b, k3c, q3a, q3b, q3c⟩, ⟨k4a, k4b, k4c, q4a, q4b, q4c⟩, ⟨k5a, k5b, k5c, q5a, q5b, q5c⟩, ⟨k6a, k6b, k6c, q6a, q6b, q6c⟩, ⟨k7a, k7b, k7c, q7a, q7b, q7c⟩, ⟨k8a, k8b, k8c, q8a, q8b, q8c⟩, ⟨k9a, k9b, k9c, q9a, q9b, q9c⟩, ⟨k10a, k10b, k10c, q10a, q10b, q10c⟩, ⟨k11a, k11b, k11c, q11a, q11b, q11c⟩, ⟨k12a, k12b, k12c, q12a, q12b, q12c⟩, ⟨k13a, k13b, k13c, q13a, q13b, q13c⟩, ⟨k14a, k14b, k14c, q14a, q14b, q14c⟩, ⟨k15a, k15b, k15c, q15a, q15b, q15c⟩, ⟨k16a, k16b, k16c, q16a, q16b, q16c⟩, ⟨k18a, k18b, k18c, q18a, q18b, q18c⟩, ⟨k20a, k20b, k20c, q20a, q20b, q20c⟩, ⟨k22a, k22b, k22c, q22a, q22b, q22c⟩] := ⟨_, rfl⟩
  have hMx : Mem w (V22.alloc (.cells (fs.flatMap Fv.cells).toArray 79)) ((lb, .cells (fs.flatMap Fv.cells).toArray 79 (0, 0)) :: (rb, .cells #[.nilFunc, .nilFunc, .nilFunc] 79 (0, 0)) :: (E22 ++ L)) :=
    (hM22.push lb _ hlb.symm).perm List.perm_append_comm
  have Cx := mk_all_T hMx lb 19
  have HA : Hid (FdAll w E22 IT JT fs tsp) := by
    have U22 : Sub E22 E22 := Sub.refl _
    have U21 : Sub E21 E22 := T22.out.trans U22
    have U20 : Sub E20 E22 := T21.out.trans U21
    have U19 : Sub E19 E22 := T20.out.trans U20
    have U18 : Sub E18 E22 := T19.out.trans U19
    have U17 : Sub E17 E22 := T18.out.trans U18
    have U16 : Sub E16 E22 := T17.out.trans U17
    have U15 : Sub E15 E22 := T16.out.trans U16
    have U14 : Sub E14 E22 := T15.out.trans U15
    have U13 : Sub E13 E22 := T14.out.trans U14
    have U12 : Sub E12 E22 := T13.out.trans U13
    have U11 : Sub E11 E22 := T12.out.trans U12
    have U10 : Sub E10 E22 := T11.out.trans U11
    have U9 : Sub E9 E22 := T10.out.trans U10
    have U8 : Sub E8 E22 := T9.out.trans U9
    have U7 : Sub E7 E22 := T8.out.trans U8
    have U6 : Sub E6 E22 := T7.out.trans U7
    have U5 : Sub E5 E22 := T6.out.trans U6
    have U4 : Sub E4 E22 := T5.out.trans U5
    have U3 : Sub E3 E22 := T4.out.trans U4
    have U2 : Sub E2 E22 := T3.out.trans U3
    have U1 : Sub E1 E22 := T2.out.trans U2
    rw [hfs]
    exact .cons (F1.out.more U1) (.cons (F2.out.more U2) (.cons (F3.out.more U3) (.cons (F4.out.more U4) (.cons (F5.out.more U5) (.cons (F6.out.more U6) (.cons (F7.out.more U7) (.cons (F8.out.more U8) (.cons (F9.out.more U9) (.cons (F10.out.more U10) (.cons (F11.out.more U11) (.cons (F12.out.more U12) (.cons (F13.out.more U13) (.cons (F14.out.more U14) (.cons (F15.out.more U15) (.cons (F16.out.more U16) (.cons (F18.out.more U18) (.cons (F20.out.more U20) (.cons (F22.out.more U22) (.nil)))))))))))))))))))
  clear hMx hM22 F1 T1 F2 T2 F3 T3 F4 T4 F5 T5 F6 T6 F7 T7 F8 T8 F9 T9 F10 T10 F11 T11 F12 T12 F13 T13 F14 T14 F15 T15 F16 T16 F17 T17 F18 T18 F19 T19 F20 T20 F21 T21 F22 T22
  rw [hfs] at Cx
  simp only [List.flatMap_cons, List.flatMap_nil, Fv.cells, List.cons_append, List.nil_append, List.append_nil] at Cx
  go_wp2_with fail
  refine Cx.mono ?_
  rintro e V ⟨cb, rfl, hM⟩
  obtain ⟨E, hE⟩ : ∃ E : List (Nat × Obj), E = (cb, .cells #[.slice (some ⟨lb, 0, none⟩) 19 19] 157 (0, 0)) :: (lb, .cells (fs.flatMap Fv.cells).toArray 79 (0, 0)) :: E22 := ⟨_, rfl⟩
  have hM2 : Mem w V ((rb, .cells #[.nilFunc, .nilFunc, .nilFunc] 79 (0, 0)) :: (E ++ L)) := by
    rw [hE, hfs]
    simp only [List.flatMap_cons, List.flatMap_nil, Fv.cells, List.cons_append, List.nil_append, List.append_nil]
    exact hM.perm (List.perm_middle (l₁ := [_, _]))
  have HF : Hid (Fd w E IT JT (fvAll_T cb) spT) := by
    refine fd_all_T cb lb 19 fs tsp (by rw [hfs]; rfl) (by omega) (by rw [hE]; exact List.mem_cons_self ..) (by rw [hE]; exact List.mem_cons_of_mem _ (List.mem_cons_self ..)) ?_ ?_ ?_
    · have : ∀ fs ss, FdAll w E22 IT JT fs ss → FdAll w E IT JT fs ss := by
        intro fs ss hA
        induction hA with
        | nil => exact .nil
        | cons h1 _ ih => exact .cons (h1.more (by rw [hE]; exact fun q hq => List.mem_cons_of_mem _ (List.mem_cons_of_mem _ hq))) ih
      exact this _ _ HA.out
    · rintro x g T pre post V V' K ⟨h1, h2, hp, hs, hq, h3⟩ hB
      exact ⟨h1, h2, hp, hs, hq, h3.after hB⟩
    · rintro x g T pre post V K ⟨h1, h2, hp, hs, hq, h3⟩
      exact h3.sub.dropA.dropA.dropA
  clear Cx hM hE hfs HA
  generalize fvAll_T cb = f at HF
  obtain ⟨m1, m2, m3, n1, n2, n3⟩ := f
  have hM3 := hM2.put3 (.func (.func m1) #[] n1) (.func (.func m2) #[] n2) (.func (.func m3) #[] n3)
  have e0 : V.cell? ⟨rb, 0, none⟩ = some .nilFunc := hM2.cell 0 rfl 0
  have e1 : V.cell? ⟨rb, 1, none⟩ = some .nilFunc := hM2.cell 0 rfl 1
  have e2 : V.cell? ⟨rb, 2, none⟩ = some .nilFunc := hM2.cell 0 rfl 2
  have e3 := hM2.free 0 rfl
  clear hM2
  simp only [Fv.val]
  go_wp2_with fail
  refine bodyPost_ret (v := .agg #[.func (.func m1) #[] n1, .func (.func m2) #[] n2, .func (.func m3) #[] n3]) ?_ rfl ⟨⟨m1, m2, m3, n1, n2, n3⟩, _ :: E, rfl, hM3, HF.out.more (fun q hq => List.mem_cons_of_mem _ hq)⟩
  exact results_cell_row (p := 0) (ty := 79) rfl _ _ rb 79 _ (0, 0) _ rfl (hM3.get 0 rfl) Tryz.underlying79 rfl (by kernel_rfl)
end Go.Proofs.YtngegdamcfmonaaGreat

