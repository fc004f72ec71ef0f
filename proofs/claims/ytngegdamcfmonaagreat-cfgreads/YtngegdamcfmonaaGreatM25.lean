/-
  Settings as bytes: the field of a list's elements keeps what is asked of a field (lych/api.Tenant, uint32).
  Settings as bytes: the field of a list's elements keeps what is asked of a field (lych/api.Tenant, lych/api.Pair).
-/
import Derived.Test.YtngegdamcfmonaaGreatM15
import Derived.Test.YtngegdamcfmonaaGreatM24
namespace Go.Proofs.YtngegdamcfmonaaGreat
open Go.RowKit
open Sm
open Cf
set_option linter.unusedVariables false
set_option maxRecDepth 20000

/-- One element, alone in its cells. -/
def IU : Rp Int Unit := fun x _ V g off => V.cell? ⟨g, off, none⟩ = some (.int .u32 x)
def JU : St' Int := fun w x g T pre post V K => Mem w V ((g, .cells (pre ++ ([Value.int .u32 x] ++ post)).toArray T (0, 0)) :: K)
theorem box_U {w V : World} {K : List (Nat × Obj)} {g : Nat} {x : Int} {t : TypeId} (hV : Mem w V ((g, .cells #[Value.int .u32 x] t (0, 0)) :: K)) : IU x () V g 0 := hV.cell 0 rfl 0
/-- A list of the call's own, its elements one behind the other. -/
def IMU (w : World) (hb : Nat) (M : List (Nat × Obj)) (V : World) (xs : List Int) : Prop :=
  if xs = [] then Mem w V M else Mem w V ((hb, .cells (ux xs).flatten.toArray 22 (0, 0)) :: M)
theorem flat_TU (xs : List Int) (i : Nat) (x : Int) (hi : xs[i]? = some x) : (ux xs).flatten = (ux (xs.take i)).flatten ++ ([Value.int .u32 x] ++ (ux (xs.drop (i + 1))).flatten) := by
  have h := (List.take_append_drop i xs).symm
  have hil := (List.getElem?_eq_some_iff.mp hi).1
  have h2 : xs.drop i = x :: xs.drop (i + 1) := by
    rw [List.drop_eq_getElem_cons hil]
    congr 1
    exact (List.getElem?_eq_some_iff.mp hi).2
  rw [h2] at h
  conv => lhs; rw [h]
  simp [ux]
theorem flatl_TU (xs : List Int) : (ux xs).flatten.length = xs.length * 1 := by
  induction xs with
  | nil => rfl
  | cons x xs ih =>
    have : (ux (x :: xs)).flatten.length = (ux xs).flatten.length + 1 := by
      simp [ux]
    rw [this, ih, List.length_cons, Nat.succ_mul]
def fvItm_TU (bo bi : Nat) : Fv := ⟨141, 142, 143, #[.pointer (some ⟨bo, 0, none⟩), .pointer (some ⟨bi, 0, none⟩)], #[.pointer (some ⟨bo, 0, none⟩), .pointer (some ⟨bi, 0, none⟩)], #[.pointer (some ⟨bo, 0, none⟩), .pointer (some ⟨bi, 0, none⟩)]⟩
theorem fd_Itm_TU {α ρ : Type} {w : World} {L : List (Nat × Obj)} {I : Rp α ρ} {J : St' α} (bo bi ko o : Nat) (fl : α → List Int) (fs : α → List Int → α) (fi : Fv) (se : Sp Int) (hse : ∀ x y, se.eq x y = decide (x = y)) (hfi : Fd w L IU JU fi se)
    (mo : (bo, .cells #[.func (.func ko) #[] #[]] 122 (0, 0)) ∈ L) (mi : (bi, .cells fi.cells.toArray 148 (0, 0)) ∈ L)
    (eo : Ent ko) (ho : ∀ V g off, Calls Tryz.prog ko #[.pointer (some ⟨g, off, none⟩)] V fun e V' => e = .returned (.pointer (some ⟨g, off + o, none⟩)) ∧ V = V')
    (sv : ρ → Value) (hI : ∀ x r V g off, I x r V g off → (fl x).length ≤ 1000000 ∧ Rw V 1 (sv r) (ux (fl x)) ∧ V.cell? ⟨g, off + o, none⟩ = some (sv r))
    (hJ : ∀ x g T pre post V K, J w x g T pre post V K → (fl x).length ≤ 255 ∧ ∃ hb M sa sc, (0 < (fl x).length → sa = some ⟨hb, 0, none⟩) ∧ Sub K M ∧ (∀ V', Mem w V' M → Mem w V' K) ∧ V.cell? ⟨g, pre.length + o, none⟩ = some (.slice sa (fl x).length sc) ∧
      IMU w hb M V (fl x) ∧ ∀ ys V', ys.length = (fl x).length → IMU w hb M V' ys → J w (fs x ys) g T pre post V' K) :
    Fd w L I J (fvItm_TU bo bi) (spItm 0 se fl fs) := by
  have ci : ∀ K, Sub L K → ∀ V, Mem w V K → V.cell? ⟨bi, 0, none⟩ = some (.func (.func fi.kw) #[] fi.cw) ∧ V.cell? ⟨bi, 1, none⟩ = some (.func (.func fi.kr) #[] fi.cr) ∧ V.cell? ⟨bi, 2, none⟩ = some (.func (.func fi.ks) #[] fi.cs) :=
    fun K hK V hV => ⟨by rw [mem_box hV (hK _ mi)]; rfl, by rw [mem_box hV (hK _ mi)]; rfl, by rw [mem_box hV (hK _ mi)]; rfl⟩
  refine ⟨enters_of Tryz.func141 (by kernel_rfl) rfl, enters_of Tryz.func142 (by kernel_rfl) rfl, enters_of Tryz.func143 (by kernel_rfl) rfl, ?_, ?_, ?_⟩
  · intro K hK x r g off hx v l V hO hb
    have hlen : (ux (fl x)).length = (fl x).length := by simp [ux]
    have := iwr_TU hO bo bi ko fi.kw fi.kr fi.ks fi.cw fi.cr fi.cs ⟨g, off, none⟩ ⟨g, off + o, none⟩ (sv r) (ux (fl x)) ?hx (fun V hV => by rw [mem_box hV (hK _ mo)]; rfl) (ci K hK) eo (fun V => ho V g off) hfi.ew
      (fun V hV => (hI _ _ _ _ _ (hx V hV)).2.2) (fun V hV => (hI _ _ _ _ _ (hx V hV)).2.1) (fun i => se.enc ((fl x).getD i 0)) ?hw (by rw [hlen]; exact hb)
    case hx =>
      intro q hq
      simp only [ux, List.mem_map] at hq
      obtain ⟨z, _, rfl⟩ := hq
      exact ⟨_, rfl⟩
    case hw =>
      intro i hi ge v l V hV hbb
      rw [hlen] at hi
      obtain ⟨z, hz⟩ : ∃ z, (fl x)[i]? = some z := ⟨_, List.getElem?_eq_getElem (by omega)⟩
      have ez : (ux (fl x)).getD i [] = [.int .u32 z] := by simp [ux, List.getD, hz]
      have ed : (fl x).getD i 0 = z := by simp [List.getD, hz]
      rw [ez] at hV
      rw [ed] at hbb ⊢
      refine (hfi.wr _ ((hK.cons _)) z () ge 0 (fun V hV => ?_) v l V hV hbb).mono ?_
      · exact box_U hV
      · rintro e V' ⟨v', h1, h2⟩
        exact ⟨v', h1, h2.drop⟩
    rw [hlen] at this
    exact this
  · intro K hK x g T pre post a l c V hj hS
    obtain ⟨hle, hb, M, sa, sc, hsa, hsub, hback, hcell, hIM, hset⟩ := hJ x g T pre post V K hj
    have key : ∀ ys V, IMU w hb M V ys → Mem w V M := by
      intro ys V h
      unfold IMU at h
      split at h
      · exact h
      · exact h.sub
    have := ird_TU (σ := List Int) (w := w) (L := M) (J := fun ys V => ys.length = (fl x).length ∧ IMU w hb M V ys) ?st (fun ys V h => key ys V h.2) bo bi ko fi.kw fi.kr fi.ks fi.cw fi.cr fi.cs ⟨g, pre.length, none⟩ ⟨g, pre.length + o, none⟩ sa (fl x).length sc hle hb hsa
      (fun V hV => by rw [mem_box hV (hsub _ (hK _ mo))]; rfl) (ci M (hK.trans hsub)) eo (fun V => ho V g pre.length) hfi.er (itd 0 se) ?hr (fl x) l a c V ⟨rfl, hIM⟩ hS hcell
    case st =>
      rintro ys V V' ⟨h1, h2⟩ hB
      refine ⟨h1, ?_⟩
      unfold IMU at h2 ⊢
      split at h2
      · rename_i e; rw [if_pos e]; exact h2.after hB
      · rename_i e; rw [if_neg e]; exact h2.after hB
    case hr =>
      rintro i hi ys l a c V ⟨h1, h2⟩ hS
      obtain ⟨z, hz⟩ : ∃ z, ys[i]? = some z := ⟨_, List.getElem?_eq_getElem (by omega)⟩
      have hne : ys ≠ [] := by rintro rfl; simp at hz
      have ed : ys.getD i 0 = z := by simp [List.getD, hz]
      unfold IMU at h2
      rw [if_neg hne, flat_TU ys i z hz] at h2
      have hpl : (ux (ys.take i)).flatten.length = i * 1 := by rw [flatl_TU, List.length_take]; congr 1; omega
      have := hfi.rd M (hK.trans hsub) z hb 22 (ux (ys.take i)).flatten (ux (ys.drop (i + 1))).flatten a l c V h2 hS
      rw [hpl] at this
      refine this.mono ?_
      intro e V' hR
      refine hR.mono (fun q => ys.set i q) (by simp only [itd, ed]) id (fun q hq => ⟨by rw [List.length_set]; exact h1, ?_⟩)
      have hne2 : ys.set i q ≠ [] := by intro e; apply hne; rw [← List.length_eq_zero_iff] at e ⊢; rwa [List.length_set] at e
      unfold IMU
      rw [if_neg hne2, flat_TU (ys.set i q) i q (by rw [List.getElem?_set_self (by omega)])]
      rw [List.take_set_of_le (Nat.le_refl i), List.drop_set_of_lt (Nat.lt_succ_self i)]
      exact hq
    refine this.mono ?_
    intro e V' hR
    exact hR.mono (fs x) rfl (hback V') (fun ys hy => hset ys V' hy.1 hy.2)
  · intro K hK x y r r' g off h of' hx V hV
    exact ism_TU hV bo bi ko fi.kw fi.kr fi.ks fi.cw fi.cr fi.cs ⟨g, off, none⟩ ⟨g, off + o, none⟩ ⟨h, of', none⟩ ⟨h, of' + o, none⟩ (sv r) (sv r') (fl x) (fl y) (fun V hV => by rw [mem_box hV (hK _ mo)]; rfl) (ci K hK) eo (fun V => ho V g off) (fun V => ho V h of') hfi.es
      (fun V hV => (hI _ _ _ _ _ (hx V hV).1).2.2) (fun V hV => (hI _ _ _ _ _ (hx V hV).2).2.2) (fun V hV => (hI _ _ _ _ _ (hx V hV).1).2.1) (fun V hV => (hI _ _ _ _ _ (hx V hV).2).2.1) (hI _ _ _ _ _ (hx V hV).1).1
      (fun p q gx gy V hV => by
        have := hfi.sm _ ((hK.cons _).cons _) p q () () gx 0 gy 0 (fun V hV => ⟨box_U hV, box_U hV.sub⟩) V hV
        rw [hse] at this
        refine this.mono ?_
        rintro e V' ⟨h1, h2⟩
        exact ⟨h1, h2.sub.sub⟩)

set_option maxHeartbeats 2000000 in
/-- The field is made. -/
theorem mk_Itm_TU {w W : World} {L : List (Nat × Obj)} (h : Mem w W L) (ko : Nat) (fi : Fv) :
    Calls Tryz.prog 85 #[.func (.func ko) #[] #[], fi.val] W fun e W' => ∃ bo bi, e = .returned (fvItm_TU bo bi).val ∧ Mem w W' ((bo, .cells #[.func (.func ko) #[] #[]] 122 (0, 0)) :: (bi, .cells fi.cells.toArray 148 (0, 0)) :: L) := by
  obtain ⟨k1, k2, k3, c1, c2, c3⟩ := fi
  have hM : Mem w ((W.alloc (.cells #[.func (.func ko) #[] #[]] 122)).alloc (.cells #[.func (.func k1) #[] c1, .func (.func k2) #[] c2, .func (.func k3) #[] c3] 148)) ((W.heap.size, .cells #[.func (.func ko) #[] #[]] 122 (0, 0)) :: (W.heap.size + 1, .cells #[.func (.func k1) #[] c1, .func (.func k2) #[] c2, .func (.func k3) #[] c3] 148 (0, 0)) :: L) := by
    have h1 := (h.push W.heap.size (.cells #[.func (.func ko) #[] #[]] 122 (0, 0)) rfl).push (W.heap.size + 1) (.cells #[.func (.func k1) #[] c1, .func (.func k2) #[] c2, .func (.func k3) #[] c3] 148 (0, 0)) (by simp)
    refine h1.perm ?_
    rw [List.append_assoc]
    exact List.perm_append_comm
  have hmf : ∀ (fn : Fn) (first cap : Array Value) (w : World), (Instr.makeFunc fn first cap).run Tryz.prog w = .ok (.func fn first cap) w := fun _ _ _ _ => rfl
  have HM : Hid (Mem w ((W.alloc (.cells #[.func (.func ko) #[] #[]] 122)).alloc (.cells #[.func (.func k1) #[] c1, .func (.func k2) #[] c2, .func (.func k3) #[] c3] 148)) ((W.heap.size, .cells #[.func (.func ko) #[] #[]] 122 (0, 0)) :: (W.heap.size + 1, .cells #[.func (.func k1) #[] c1, .func (.func k2) #[] c2, .func (.func k3) #[] c3] 148 (0, 0)) :: L)) := hM
  clear hM h
  simp only [Fv.val]
  go_enter Tryz.func85, Tryz.ntmps85
  go_wp2_with fail
  refine bodyPost_ret (v := (fvItm_TU W.heap.size (W.heap.size + 1)).val) ?_ rfl ⟨_, _, rfl, HM.out.after ((Below.refl _ _).alloc (Nat.le_refl _) _)⟩
  exact results_cell_row (p := 4) (ty := 79) rfl _ _ (W.heap.size + 1 + 1) 79 _ (0, 0) _ rfl (heap_alloc3_new _ _ _ _) Tryz.underlying79 rfl (by kernel_rfl)
end Go.Proofs.YtngegdamcfmonaaGreat

namespace Go.Proofs.YtngegdamcfmonaaGreat
open Go.RowKit
open Sm
open Cf
set_option linter.unusedVariables false
set_option maxRecDepth 20000

/-- One element, alone in its cells. -/
def IP : Rp (Int × Int) Unit := fun x _ V g off => V.cell? ⟨g, off, none⟩ = some (.int .u32 x.1) ∧ V.cell? ⟨g, off + 1, none⟩ = some (.int .u32 x.2)
def JP : St' (Int × Int) := fun w x g T pre post V K => Mem w V ((g, .cells (pre ++ ([Value.int .u32 x.1, Value.int .u32 x.2] ++ post)).toArray T (0, 0)) :: K)
theorem box_P {w V : World} {K : List (Nat × Obj)} {g : Nat} {x : (Int × Int)} {t : TypeId} (hV : Mem w V ((g, .cells #[Value.int .u32 x.1, Value.int .u32 x.2] t (0, 0)) :: K)) : IP x () V g 0 := ⟨hV.cell 0 rfl 0, hV.cell 0 rfl 1⟩
/-- A list of the call's own, its elements one behind the other. -/
def IMP (w : World) (hb : Nat) (M : List (Nat × Obj)) (V : World) (xs : List (Int × Int)) : Prop :=
  if xs = [] then Mem w V M else Mem w V ((hb, .cells (px xs).flatten.toArray 142 (0, 0)) :: M)
theorem flat_TP (xs : List (Int × Int)) (i : Nat) (x : (Int × Int)) (hi : xs[i]? = some x) : (px xs).flatten = (px (xs.take i)).flatten ++ ([Value.int .u32 x.1, Value.int .u32 x.2] ++ (px (xs.drop (i + 1))).flatten) := by
  have h := (List.take_append_drop i xs).symm
  have hil := (List.getElem?_eq_some_iff.mp hi).1
  have h2 : xs.drop i = x :: xs.drop (i + 1) := by
    rw [List.drop_eq_getElem_cons hil]
    congr 1
    exact (List.getElem?_eq_some_iff.mp hi).2
  rw [h2] at h
  conv => lhs; rw [h]
  simp [px]
theorem flatl_TP (xs : List (Int × Int)) : (px xs).flatten.length = xs.length * 2 := by
  induction xs with
  | nil => rfl
  | cons x xs ih =>
    have : (px (x :: xs)).flatten.length = (px xs).flatten.length + 2 := by
      simp [px]
    rw [this, ih, List.length_cons, Nat.succ_mul]
def fvItm_TP (bo bi : Nat) : Fv := ⟨148, 149, 150, #[.pointer (some ⟨bo, 0, none⟩), .pointer (some ⟨bi, 0, none⟩)], #[.pointer (some ⟨bo, 0, none⟩), .pointer (some ⟨bi, 0, none⟩)], #[.pointer (some ⟨bo, 0, none⟩), .pointer (some ⟨bi, 0, none⟩)]⟩
theorem fd_Itm_TP {α ρ : Type} {w : World} {L : List (Nat × Obj)} {I : Rp α ρ} {J : St' α} (bo bi ko o : Nat) (fl : α → List (Int × Int)) (fs : α → List (Int × Int) → α) (fi : Fv) (se : Sp (Int × Int)) (hse : ∀ x y, se.eq x y = decide (x = y)) (hfi : Fd w L IP JP fi se)
    (mo : (bo, .cells #[.func (.func ko) #[] #[]] 124 (0, 0)) ∈ L) (mi : (bi, .cells fi.cells.toArray 155 (0, 0)) ∈ L)
    (eo : Ent ko) (ho : ∀ V g off, Calls Tryz.prog ko #[.pointer (some ⟨g, off, none⟩)] V fun e V' => e = .returned (.pointer (some ⟨g, off + o, none⟩)) ∧ V = V')
    (sv : ρ → Value) (hI : ∀ x r V g off, I x r V g off → (fl x).length ≤ 1000000 ∧ Rw V 2 (sv r) (px (fl x)) ∧ V.cell? ⟨g, off + o, none⟩ = some (sv r))
    (hJ : ∀ x g T pre post V K, J w x g T pre post V K → (fl x).length ≤ 255 ∧ ∃ hb M sa sc, (0 < (fl x).length → sa = some ⟨hb, 0, none⟩) ∧ Sub K M ∧ (∀ V', Mem w V' M → Mem w V' K) ∧ V.cell? ⟨g, pre.length + o, none⟩ = some (.slice sa (fl x).length sc) ∧
      IMP w hb M V (fl x) ∧ ∀ ys V', ys.length = (fl x).length → IMP w hb M V' ys → J w (fs x ys) g T pre post V' K) :
    Fd w L I J (fvItm_TP bo bi) (spItm (0, 0) se fl fs) := by
  have ci : ∀ K, Sub L K → ∀ V, Mem w V K → V.cell? ⟨bi, 0, none⟩ = some (.func (.func fi.kw) #[] fi.cw) ∧ V.cell? ⟨bi, 1, none⟩ = some (.func (.func fi.kr) #[] fi.cr) ∧ V.cell? ⟨bi, 2, none⟩ = some (.func (.func fi.ks) #[] fi.cs) :=
    fun K hK V hV => ⟨by rw [mem_box hV (hK _ mi)]; rfl, by rw [mem_box hV (hK _ mi)]; rfl, by rw [mem_box hV (hK _ mi)]; rfl⟩
  refine ⟨enters_of Tryz.func148 (by kernel_rfl) rfl, enters_of Tryz.func149 (by kernel_rfl) rfl, enters_of Tryz.func150 (by kernel_rfl) rfl, ?_, ?_, ?_⟩
  · intro K hK x r g off hx v l V hO hb
    have hlen : (px (fl x)).length = (fl x).length := by simp [px]
    have := iwr_TP hO bo bi ko fi.kw fi.kr fi.ks fi.cw fi.cr fi.cs ⟨g, off, none⟩ ⟨g, off + o, none⟩ (sv r) (px (fl x)) ?hx (fun V hV => by rw [mem_box hV (hK _ mo)]; rfl) (ci K hK) eo (fun V => ho V g off) hfi.ew
      (fun V hV => (hI _ _ _ _ _ (hx V hV)).2.2) (fun V hV => (hI _ _ _ _ _ (hx V hV)).2.1) (fun i => se.enc ((fl x).getD i (0, 0))) ?hw (by rw [hlen]; exact hb)
    case hx =>
      intro q hq
      simp only [px, List.mem_map] at hq
      obtain ⟨z, _, rfl⟩ := hq
      exact ⟨_, _, rfl⟩
    case hw =>
      intro i hi ge v l V hV hbb
      rw [hlen] at hi
      obtain ⟨z, hz⟩ : ∃ z, (fl x)[i]? = some z := ⟨_, List.getElem?_eq_getElem (by omega)⟩
      have ez : (px (fl x)).getD i [] = [.int .u32 z.1, .int .u32 z.2] := by simp [px, List.getD, hz]
      have ed : (fl x).getD i (0, 0) = z := by simp [List.getD, hz]
      rw [ez] at hV
      rw [ed] at hbb ⊢
      refine (hfi.wr _ ((hK.cons _)) z () ge 0 (fun V hV => ?_) v l V hV hbb).mono ?_
      · exact box_P hV
      · rintro e V' ⟨v', h1, h2⟩
        exact ⟨v', h1, h2.drop⟩
    rw [hlen] at this
    exact this
  · intro K hK x g T pre post a l c V hj hS
    obtain ⟨hle, hb, M, sa, sc, hsa, hsub, hback, hcell, hIM, hset⟩ := hJ x g T pre post V K hj
    have key : ∀ ys V, IMP w hb M V ys → Mem w V M := by
      intro ys V h
      unfold IMP at h
      split at h
      · exact h
      · exact h.sub
    have := ird_TP (σ := List (Int × Int)) (w := w) (L := M) (J := fun ys V => ys.length = (fl x).length ∧ IMP w hb M V ys) ?st (fun ys V h => key ys V h.2) bo bi ko fi.kw fi.kr fi.ks fi.cw fi.cr fi.cs ⟨g, pre.length, none⟩ ⟨g, pre.length + o, none⟩ sa (fl x).length sc hle hb hsa
      (fun V hV => by rw [mem_box hV (hsub _ (hK _ mo))]; rfl) (ci M (hK.trans hsub)) eo (fun V => ho V g pre.length) hfi.er (itd (0, 0) se) ?hr (fl x) l a c V ⟨rfl, hIM⟩ hS hcell
    case st =>
      rintro ys V V' ⟨h1, h2⟩ hB
      refine ⟨h1, ?_⟩
      unfold IMP at h2 ⊢
      split at h2
      · rename_i e; rw [if_pos e]; exact h2.after hB
      · rename_i e; rw [if_neg e]; exact h2.after hB
    case hr =>
      rintro i hi ys l a c V ⟨h1, h2⟩ hS
      obtain ⟨z, hz⟩ : ∃ z, ys[i]? = some z := ⟨_, List.getElem?_eq_getElem (by omega)⟩
      have hne : ys ≠ [] := by rintro rfl; simp at hz
      have ed : ys.getD i (0, 0) = z := by simp [List.getD, hz]
      unfold IMP at h2
      rw [if_neg hne, flat_TP ys i z hz] at h2
      have hpl : (px (ys.take i)).flatten.length = i * 2 := by rw [flatl_TP, List.length_take]; congr 1; omega
      have := hfi.rd M (hK.trans hsub) z hb 142 (px (ys.take i)).flatten (px (ys.drop (i + 1))).flatten a l c V h2 hS
      rw [hpl] at this
      refine this.mono ?_
      intro e V' hR
      refine hR.mono (fun q => ys.set i q) (by simp only [itd, ed]) id (fun q hq => ⟨by rw [List.length_set]; exact h1, ?_⟩)
      have hne2 : ys.set i q ≠ [] := by intro e; apply hne; rw [← List.length_eq_zero_iff] at e ⊢; rwa [List.length_set] at e
      unfold IMP
      rw [if_neg hne2, flat_TP (ys.set i q) i q (by rw [List.getElem?_set_self (by omega)])]
      rw [List.take_set_of_le (Nat.le_refl i), List.drop_set_of_lt (Nat.lt_succ_self i)]
      exact hq
    refine this.mono ?_
    intro e V' hR
    exact hR.mono (fs x) rfl (hback V') (fun ys hy => hset ys V' hy.1 hy.2)
  · intro K hK x y r r' g off h of' hx V hV
    exact ism_TP hV bo bi ko fi.kw fi.kr fi.ks fi.cw fi.cr fi.cs ⟨g, off, none⟩ ⟨g, off + o, none⟩ ⟨h, of', none⟩ ⟨h, of' + o, none⟩ (sv r) (sv r') (fl x) (fl y) (fun V hV => by rw [mem_box hV (hK _ mo)]; rfl) (ci K hK) eo (fun V => ho V g off) (fun V => ho V h of') hfi.es
      (fun V hV => (hI _ _ _ _ _ (hx V hV).1).2.2) (fun V hV => (hI _ _ _ _ _ (hx V hV).2).2.2) (fun V hV => (hI _ _ _ _ _ (hx V hV).1).2.1) (fun V hV => (hI _ _ _ _ _ (hx V hV).2).2.1) (hI _ _ _ _ _ (hx V hV).1).1
      (fun p q gx gy V hV => by
        have := hfi.sm _ ((hK.cons _).cons _) p q () () gx 0 gy 0 (fun V hV => ⟨box_P hV, box_P hV.sub⟩) V hV
        rw [hse] at this
        refine this.mono ?_
        rintro e V' ⟨h1, h2⟩
        exact ⟨h1, h2.sub.sub⟩)

set_option maxHeartbeats 2000000 in
/-- The field is made. -/
theorem mk_Itm_TP {w W : World} {L : List (Nat × Obj)} (h : Mem w W L) (ko : Nat) (fi : Fv) :
    Calls Tryz.prog 87 #[.func (.func ko) #[] #[], fi.val] W fun e W' => ∃ bo bi, e = .returned (fvItm_TP bo bi).val ∧ Mem w W' ((bo, .cells #[.func (.func ko) #[] #[]] 124 (0, 0)) :: (bi, .cells fi.cells.toArray 155 (0, 0)) :: L) := by
  obtain ⟨k1, k2, k3, c1, c2, c3⟩ := fi
  have hM : Mem w ((W.alloc (.cells #[.func (.func ko) #[] #[]] 124)).alloc (.cells #[.func (.func k1) #[] c1, .func (.func k2) #[] c2, .func (.func k3) #[] c3] 155)) ((W.heap.size, .cells #[.func (.func ko) #[] #[]] 124 (0, 0)) :: (W.heap.size + 1, .cells #[.func (.func k1) #[] c1, .func (.func k2) #[] c2, .func (.func k3) #[] c3] 155 (0, 0)) :: L) := by
    have h1 := (h.push W.heap.size (.cells #[.func (.func ko) #[] #[]] 124 (0, 0)) rfl).push (W.heap.size + 1) (.cells #[.func (.func k1) #[] c1, .func (.func k2) #[] c2, .func (.func k3) #[] c3] 155 (0, 0)) (by simp)
    refine h1.perm ?_
    rw [List.append_assoc]
    exact List.perm_append_comm
  have hmf : ∀ (fn : Fn) (first cap : Array Value) (w : World), (Instr.makeFunc fn first cap).run Tryz.prog w = .ok (.func fn first cap) w := fun _ _ _ _ => rfl
  have HM : Hid (Mem w ((W.alloc (.cells #[.func (.func ko) #[] #[]] 124)).alloc (.cells #[.func (.func k1) #[] c1, .func (.func k2) #[] c2, .func (.func k3) #[] c3] 155)) ((W.heap.size, .cells #[.func (.func ko) #[] #[]] 124 (0, 0)) :: (W.heap.size + 1, .cells #[.func (.func k1) #[] c1, .func (.func k2) #[] c2, .func (.func k3) #[] c3] 155 (0, 0)) :: L)) := hM
  clear hM h
  simp only [Fv.val]
  go_enter Tryz.func87, Tryz.ntmps87
  go_wp2_with fail
  refine bodyPost_ret (v := (fvItm_TP W.heap.size (W.heap.size + 1)).val) ?_ rfl ⟨_, _, rfl, HM.out.after ((Below.refl _ _).alloc (Nat.le_refl _) _)⟩
  exact results_cell_row (p := 4) (ty := 79) rfl _ _ (W.heap.size + 1 + 1) 79 _ (0, 0) _ rfl (heap_alloc3_new _ _ _ _) Tryz.underlying79 rfl (by kernel_rfl)
end Go.Proofs.YtngegdamcfmonaaGreat

