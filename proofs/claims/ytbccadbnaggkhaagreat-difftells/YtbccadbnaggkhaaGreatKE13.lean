/-
  Settings as bytes: the field of a list's elements keeps what is asked of a field (lych/api.Tenant, lych/api.Pair).
  Settings as bytes: the field of a list's elements keeps what is asked of a field (lych/api.Tenant, uint32).
  Settings as bytes: addresses and pairs: the program's address() and pair().
-/
import Derived.Test.YtbccadbnaggkhaaGreatKE07
import Derived.Test.YtbccadbnaggkhaaGreatKE12
import Derived.Test.YtbccadbnaggkhaaGreatKE10
import Derived.Test.YtbccadbnaggkhaaGreatKE11
namespace Go.Proofs.YtbccadbnaggkhaaGreat
open Go.RowKit
open Sm
open Cf
set_option linter.unusedVariables false
set_option maxRecDepth 20000

/-- One element, alone in its cells. -/
def IP : Rp (Int × Int) Unit := fun x _ V g off => V.cell? ⟨g, off, none⟩ = some (.int .u32 x.1) ∧ V.cell? ⟨g, off + 1, none⟩ = some (.int .u32 x.2)
def JP : St' (Int × Int) := fun w x g T pre post V K => Mem w V ((g, .cells (pre ++ ([Value.int .u32 x.1, Value.int .u32 x.2] ++ post)).toArray T (0, 0)) :: K)
theorem box_P {w V : World} {K : List (Nat × Obj)} {g : Nat} {x : (Int × Int)} {t : TypeId} (hV : Mem w V ((g, .cells #[Value.int .u32 x.1, Value.int .u32 x.2] t (0, 0)) :: K)) : IP x () V g 0 := ⟨hV.cell 0 rfl 0, hV.cell 0 rfl 1⟩
/-- A list of the call's own, its elements one behind the other. -/
def IMP (w : World) (hb : Nat) (M : List (Nat × Obj)) (V : World) (xs : List (Int × Int)) : Prop :=
  if xs = [] then Mem w V M else Mem w V ((hb, .cells (px xs).flatten.toArray 62 (0, 0)) :: M)
theorem flat_TP (xs : List (Int × Int)) (i : Nat) (x : (Int × Int)) (hi : xs[i]? = some x) : (px xs).flatten = (px (xs.take i)).flatten ++ ([Value.int .u32 x.1, Value.int .u32 x.2] ++ (px (xs.drop (i + 1))).flatten) := by
  have h := (List.take_append_drop i xs).symm
  have hil := (List.getElem?_eq_some_iff.mp hi).1
  have h2 : xs.drop i = x :: xs.drop (i + 1) := by
    rw [List.drop_eq_getElem_cons hil]
    congr 1
    exact (List.getElem?_eq_some_iff.mp hi).2
  rw [h2] at h
  conv => lhs; rw [h]
  simp [px]
theorem flatl_TP (xs : List (Int × Int)) : (px xs).flatten.length = xs.length * 2 := by
  induction xs with
  | nil => rfl
  | cons x xs ih =>
    have : (px (x :: xs)).flatten.length = (px xs).flatten.length + 2 := by
      simp [px]
    rw [this, ih, List.length_cons, Nat.succ_mul]
def fvItm_TP (bo bi : Nat) : Fv := ⟨114, 115, 116, #[.pointer (some ⟨bo, 0, none⟩), .pointer (some ⟨bi, 0, none⟩)], #[.pointer (some ⟨bo, 0, none⟩), .pointer (some ⟨bi, 0, none⟩)], #[.pointer (some ⟨bo, 0, none⟩), .pointer (some ⟨bi, 0, none⟩)]⟩
theorem fd_Itm_TP {α ρ : Type} {w : World} {L : List (Nat × Obj)} {I : Rp α ρ} {J : St' α} (bo bi ko o : Nat) (fl : α → List (Int × Int)) (fs : α → List (Int × Int) → α) (fi : Fv) (se : Sp (Int × Int)) (hse : ∀ x y, se.eq x y = decide (x = y)) (hfi : Fd w L IP JP fi se)
    (mo : (bo, .cells #[.func (.func ko) #[] #[]] 78 (0, 0)) ∈ L) (mi : (bi, .cells fi.cells.toArray 109 (0, 0)) ∈ L)
    (eo : Ent ko) (ho : ∀ V g off, Calls Tryz.prog ko #[.pointer (some ⟨g, off, none⟩)] V fun e V' => e = .returned (.pointer (some ⟨g, off + o, none⟩)) ∧ V = V')
    (sv : ρ → Value) (hI : ∀ x r V g off, I x r V g off → (fl x).length ≤ 1000000 ∧ Rw V 2 (sv r) (px (fl x)) ∧ V.cell? ⟨g, off + o, none⟩ = some (sv r))
    (hJ : ∀ x g T pre post V K, J w x g T pre post V K → (fl x).length ≤ 255 ∧ ∃ hb M sa sc, (0 < (fl x).length → sa = some ⟨hb, 0, none⟩) ∧ Sub K M ∧ (∀ V', Mem w V' M → Mem w V' K) ∧ V.cell? ⟨g, pre.length + o, none⟩ = some (.slice sa (fl x).length sc) ∧
      IMP w hb M V (fl x) ∧ ∀ ys V', ys.length = (fl x).length → IMP w hb M V' ys → J w (fs x ys) g T pre post V' K) :
    Fd w L I J (fvItm_TP bo bi) (spItm (0, 0) se fl fs) := by
  have ci : ∀ K, Sub L K → ∀ V, Mem w V K → V.cell? ⟨bi, 0, none⟩ = some (.func (.func fi.kw) #[] fi.cw) ∧ V.cell? ⟨bi, 1, none⟩ = some (.func (.func fi.kr) #[] fi.cr) ∧ V.cell? ⟨bi, 2, none⟩ = some (.func (.func fi.ks) #[] fi.cs) :=
    fun K hK V hV => ⟨by rw [mem_box hV (hK _ mi)]; rfl, by rw [mem_box hV (hK _ mi)]; rfl, by rw [mem_box hV (hK _ mi)]; rfl⟩
  refine ⟨enters_of Tryz.func114 (by kernel_rfl) rfl, enters_of Tryz.func115 (by kernel_rfl) rfl, enters_of Tryz.func116 (by kernel_rfl) rfl, ?_, ?_, ?_⟩
  · intro K hK x r g off hx v l V hO hb
    have hlen : (px (fl x)).length = (fl x).length := by simp [px]
    have := iwr_TP hO bo bi ko fi.kw fi.kr fi.ks fi.cw fi.cr fi.cs ⟨g, off, none⟩ ⟨g, off + o, none⟩ (sv r) (px (fl x)) ?hx (fun V hV => by rw [mem_box hV (hK _ mo)]; rfl) (ci K hK) eo (fun V => ho V g off) hfi.ew
      (fun V hV => (hI _ _ _ _ _ (hx V hV)).2.2) (fun V hV => (hI _ _ _ _ _ (hx V hV)).2.1) (fun i => se.enc ((fl x).getD i (0, 0))) ?hw (by rw [hlen]; exact hb)
    case hx =>
      intro q hq
      simp only [px, List.mem_map] at hq
      obtain ⟨z, _, rfl⟩ := hq
      exact ⟨_, _, rfl⟩
    case hw =>
      intro i hi ge v l V hV hbb
      rw [hlen] at hi
      obtain ⟨z, hz⟩ : ∃ z, (fl x)[i]? = some z := ⟨_, List.getElem?_eq_getElem (by omega)⟩
      have ez : (px (fl x)).getD i [] = [.int .u32 z.1, .int .u32 z.2] := by simp [px, List.getD, hz]
      have ed : (fl x).getD i (0, 0) = z := by simp [List.getD, hz]
      rw [ez] at hV
      rw [ed] at hbb ⊢
      refine (hfi.wr _ ((hK.cons _)) z () ge 0 (fun V hV => ?_) v l V hV hbb).mono ?_
      · exact box_P hV
      · rintro e V' ⟨v', h1, h2⟩
        exact ⟨v', h1, h2.drop⟩
    rw [hlen] at this
    exact this
  · intro K hK x g T pre post a l c V hj hS
    obtain ⟨hle, hb, M, sa, sc, hsa, hsub, hback, hcell, hIM, hset⟩ := hJ x g T pre post V K hj
    have key : ∀ ys V, IMP w hb M V ys → Mem w V M := by
      intro ys V h
      unfold IMP at h
      split at h
      · exact h
      · exact h.sub
    have := ird_TP (σ := List (Int × Int)) (w := w) (L := M) (J := fun ys V => ys.length = (fl x).length ∧ IMP w hb M V ys) ?st (fun ys V h => key ys V h.2) bo bi ko fi.kw fi.kr fi.ks fi.cw fi.cr fi.cs ⟨g, pre.length, none⟩ ⟨g, pre.length + o, none⟩ sa (fl x).length sc hle hb hsa
      (fun V hV => by rw [mem_box hV (hsub _ (hK _ mo))]; rfl) (ci M (hK.trans hsub)) eo (fun V => ho V g pre.length) hfi.er (itd (0, 0) se) ?hr (fl x) l a c V ⟨rfl, hIM⟩ hS hcell
    case st =>
      rintro ys V V' ⟨h1, h2⟩ hB
      refine ⟨h1, ?_⟩
      unfold IMP at h2 ⊢
      split at h2
      · rename_i e; rw [if_pos e]; exact h2.after hB
      · rename_i e; rw [if_neg e]; exact h2.after hB
    case hr =>
      rintro i hi ys l a c V ⟨h1, h2⟩ hS
      obtain ⟨z, hz⟩ : ∃ z, ys[i]? = some z := ⟨_, List.getElem?_eq_getElem (by omega)⟩
      have hne : ys ≠ [] := by rintro rfl; simp at hz
      have ed : ys.getD i (0, 0) = z := by simp [List.getD, hz]
      unfold IMP at h2
      rw [if_neg hne, flat_TP ys i z hz] at h2
      have hpl : (px (ys.take i)).flatten.length = i * 2 := by rw [flatl_TP, List.length_take]; congr 1; omega
      have := hfi.rd M (hK.trans hsub) z hb 62 (px (ys.take i)).flatten (px (ys.drop (i + 1))).flatten a l c V h2 hS
      rw [hpl] at this
      refine this.mono ?_
      intro e V' hR
      refine hR.mono (fun q => ys.set i q) (by simp only [itd, ed]) id (fun q hq => ⟨by rw [List.length_set]; exact h1, ?_⟩)
      have hne2 : ys.set i q ≠ [] := by intro e; apply hne; rw [← List.length_eq_zero_iff] at e ⊢; rwa [List.length_set] at e
      unfold IMP
      rw [if_neg hne2, flat_TP (ys.set i q) i q (by rw [List.getElem?_set_self (by omega)])]
      rw [List.take_set_of_le (Nat.le_refl i), List.drop_set_of_lt (Nat.lt_succ_self i)]
      exact hq
    refine this.mono ?_
    intro e V' hR
    exact hR.mono (fs x) rfl (hback V') (fun ys hy => hset ys V' hy.1 hy.2)
  · intro K hK x y r r' g off h of' hx V hV
    exact ism_TP hV bo bi ko fi.kw fi.kr fi.ks fi.cw fi.cr fi.cs ⟨g, off, none⟩ ⟨g, off + o, none⟩ ⟨h, of', none⟩ ⟨h, of' + o, none⟩ (sv r) (sv r') (fl x) (fl y) (fun V hV => by rw [mem_box hV (hK _ mo)]; rfl) (ci K hK) eo (fun V => ho V g off) (fun V => ho V h of') hfi.es
      (fun V hV => (hI _ _ _ _ _ (hx V hV).1).2.2) (fun V hV => (hI _ _ _ _ _ (hx V hV).2).2.2) (fun V hV => (hI _ _ _ _ _ (hx V hV).1).2.1) (fun V hV => (hI _ _ _ _ _ (hx V hV).2).2.1) (hI _ _ _ _ _ (hx V hV).1).1
      (fun p q gx gy V hV => by
        have := hfi.sm _ ((hK.cons _).cons _) p q () () gx 0 gy 0 (fun V hV => ⟨box_P hV, box_P hV.sub⟩) V hV
        rw [hse] at this
        refine this.mono ?_
        rintro e V' ⟨h1, h2⟩
        exact ⟨h1, h2.sub.sub⟩)

set_option maxHeartbeats 2000000 in
theorem mk_Itm_TP {w W : World} {L : List (Nat × Obj)} (h : Mem w W L) (ko : Nat) (fi : Fv) :
    Calls Tryz.prog 64 #[.func (.func ko) #[] #[], fi.val] W fun e W' => ∃ bo bi, e = .returned (fvItm_TP bo bi).val ∧ Mem w W' ((bo, .cells #[.func (.func ko) #[] #[]] 78 (0, 0)) :: (bi, .cells fi.cells.toArray 109 (0, 0)) :: L) := by
  obtain ⟨k1, k2, k3, c1, c2, c3⟩ := fi
  have hM : Mem w ((W.alloc (.cells #[.func (.func ko) #[] #[]] 78)).alloc (.cells #[.func (.func k1) #[] c1, .func (.func k2) #[] c2, .func (.func k3) #[] c3] 109)) ((W.heap.size, .cells #[.func (.func ko) #[] #[]] 78 (0, 0)) :: (W.heap.size + 1, .cells #[.func (.func k1) #[] c1, .func (.func k2) #[] c2, .func (.func k3) #[] c3] 109 (0, 0)) :: L) := by
    have h1 := (h.push W.heap.size (.cells #[.func (.func ko) #[] #[]] 78 (0, 0)) rfl).push (W.heap.size + 1) (.cells #[.func (.func k1) #[] c1, .func (.func k2) #[] c2, .func (.func k3) #[] c3] 109 (0, 0)) (by simp)
    refine h1.perm ?_
    rw [List.append_assoc]
    exact List.perm_append_comm
  have hmf : ∀ (fn : Fn) (first cap : Array Value) (w : World), (Instr.makeFunc fn first cap).run Tryz.prog w = .ok (.func fn first cap) w := fun _ _ _ _ => rfl
  have HM : Hid (Mem w ((W.alloc (.cells #[.func (.func ko) #[] #[]] 78)).alloc (.cells #[.func (.func k1) #[] c1, .func (.func k2) #[] c2, .func (.func k3) #[] c3] 109)) ((W.heap.size, .cells #[.func (.func ko) #[] #[]] 78 (0, 0)) :: (W.heap.size + 1, .cells #[.func (.func k1) #[] c1, .func (.func k2) #[] c2, .func (.func k3) #[] c3] 109 (0, 0)) :: L)) := hM
  clear hM h
  simp only [Fv.val]
  go_enter Tryz.func64, Tryz.ntmps64
  go_wp2_with fail
  refine bodyPost_ret (v := (fvItm_TP W.heap.size (W.heap.size + 1)).val) ?_ rfl ⟨_, _, rfl, HM.out.after ((Below.refl _ _).alloc (Nat.le_refl _) _)⟩
  exact results_cell_row (p := 4) (ty := 70) rfl _ _ (W.heap.size + 1 + 1) 70 _ (0, 0) _ rfl (heap_alloc3_new _ _ _ _) Tryz.underlying70 rfl (by kernel_rfl)
end Go.Proofs.YtbccadbnaggkhaaGreat

namespace Go.Proofs.YtbccadbnaggkhaaGreat
open Go.RowKit
open Sm
open Cf
set_option linter.unusedVariables false
set_option maxRecDepth 20000

/-- One element, alone in its cells. -/
def IU : Rp Int Unit := fun x _ V g off => V.cell? ⟨g, off, none⟩ = some (.int .u32 x)
def JU : St' Int := fun w x g T pre post V K => Mem w V ((g, .cells (pre ++ ([Value.int .u32 x] ++ post)).toArray T (0, 0)) :: K)
theorem box_U {w V : World} {K : List (Nat × Obj)} {g : Nat} {x : Int} {t : TypeId} (hV : Mem w V ((g, .cells #[Value.int .u32 x] t (0, 0)) :: K)) : IU x () V g 0 := hV.cell 0 rfl 0
/-- A list of the call's own, its elements one behind the other. -/
def IMU (w : World) (hb : Nat) (M : List (Nat × Obj)) (V : World) (xs : List Int) : Prop :=
  if xs = [] then Mem w V M else Mem w V ((hb, .cells (ux xs).flatten.toArray 26 (0, 0)) :: M)
theorem flat_TU (xs : List Int) (i : Nat) (x : Int) (hi : xs[i]? = some x) : (ux xs).flatten = (ux (xs.take i)).flatten ++ ([Value.int .u32 x] ++ (ux (xs.drop (i + 1))).flatten) := by
  have h := (List.take_append_drop i xs).symm
  have hil := (List.getElem?_eq_some_iff.mp hi).1
  have h2 : xs.drop i = x :: xs.drop (i + 1) := by
    rw [List.drop_eq_getElem_cons hil]
    congr 1
    exact (List.getElem?_eq_some_iff.mp hi).2
  rw [h2] at h
  conv => lhs; rw [h]
  simp [ux]
theorem flatl_TU (xs : List Int) : (ux xs).flatten.length = xs.length * 1 := by
  induction xs with
  | nil => rfl
  | cons x xs ih =>
    have : (ux (x :: xs)).flatten.length = (ux xs).flatten.length + 1 := by
      simp [ux]
    rw [this, ih, List.length_cons, Nat.succ_mul]
def fvItm_TU (bo bi : Nat) : Fv := ⟨107, 108, 109, #[.pointer (some ⟨bo, 0, none⟩), .pointer (some ⟨bi, 0, none⟩)], #[.pointer (some ⟨bo, 0, none⟩), .pointer (some ⟨bi, 0, none⟩)], #[.pointer (some ⟨bo, 0, none⟩), .pointer (some ⟨bi, 0, none⟩)]⟩
theorem fd_Itm_TU {α ρ : Type} {w : World} {L : List (Nat × Obj)} {I : Rp α ρ} {J : St' α} (bo bi ko o : Nat) (fl : α → List Int) (fs : α → List Int → α) (fi : Fv) (se : Sp Int) (hse : ∀ x y, se.eq x y = decide (x = y)) (hfi : Fd w L IU JU fi se)
    (mo : (bo, .cells #[.func (.func ko) #[] #[]] 76 (0, 0)) ∈ L) (mi : (bi, .cells fi.cells.toArray 102 (0, 0)) ∈ L)
    (eo : Ent ko) (ho : ∀ V g off, Calls Tryz.prog ko #[.pointer (some ⟨g, off, none⟩)] V fun e V' => e = .returned (.pointer (some ⟨g, off + o, none⟩)) ∧ V = V')
    (sv : ρ → Value) (hI : ∀ x r V g off, I x r V g off → (fl x).length ≤ 1000000 ∧ Rw V 1 (sv r) (ux (fl x)) ∧ V.cell? ⟨g, off + o, none⟩ = some (sv r))
    (hJ : ∀ x g T pre post V K, J w x g T pre post V K → (fl x).length ≤ 255 ∧ ∃ hb M sa sc, (0 < (fl x).length → sa = some ⟨hb, 0, none⟩) ∧ Sub K M ∧ (∀ V', Mem w V' M → Mem w V' K) ∧ V.cell? ⟨g, pre.length + o, none⟩ = some (.slice sa (fl x).length sc) ∧
      IMU w hb M V (fl x) ∧ ∀ ys V', ys.length = (fl x).length → IMU w hb M V' ys → J w (fs x ys) g T pre post V' K) :
    Fd w L I J (fvItm_TU bo bi) (spItm 0 se fl fs) := by
  have ci : ∀ K, Sub L K → ∀ V, Mem w V K → V.cell? ⟨bi, 0, none⟩ = some (.func (.func fi.kw) #[] fi.cw) ∧ V.cell? ⟨bi, 1, none⟩ = some (.func (.func fi.kr) #[] fi.cr) ∧ V.cell? ⟨bi, 2, none⟩ = some (.func (.func fi.ks) #[] fi.cs) :=
    fun K hK V hV => ⟨by rw [mem_box hV (hK _ mi)]; rfl, by rw [mem_box hV (hK _ mi)]; rfl, by rw [mem_box hV (hK _ mi)]; rfl⟩
  refine ⟨enters_of Tryz.func107 (by kernel_rfl) rfl, enters_of Tryz.func108 (by kernel_rfl) rfl, enters_of Tryz.func109 (by kernel_rfl) rfl, ?_, ?_, ?_⟩
  · intro K hK x r g off hx v l V hO hb
    have hlen : (ux (fl x)).length = (fl x).length := by simp [ux]
    have := iwr_TU hO bo bi ko fi.kw fi.kr fi.ks fi.cw fi.cr fi.cs ⟨g, off, none⟩ ⟨g, off + o, none⟩ (sv r) (ux (fl x)) ?hx (fun V hV => by rw [mem_box hV (hK _ mo)]; rfl) (ci K hK) eo (fun V => ho V g off) hfi.ew
      (fun V hV => (hI _ _ _ _ _ (hx V hV)).2.2) (fun V hV => (hI _ _ _ _ _ (hx V hV)).2.1) (fun i => se.enc ((fl x).getD i 0)) ?hw (by rw [hlen]; exact hb)
    case hx =>
      intro q hq
      simp only [ux, List.mem_map] at hq
      obtain ⟨z, _, rfl⟩ := hq
      exact ⟨_, rfl⟩
    case hw =>
      intro i hi ge v l V hV hbb
      rw [hlen] at hi
      obtain ⟨z, hz⟩ : ∃ z, (fl x)[i]? = some z := ⟨_, List.getElem?_eq_getElem (by omega)⟩
      have ez : (ux (fl x)).getD i [] = [.int .u32 z] := by simp [ux, List.getD, hz]
      have ed : (fl x).getD i 0 = z := by simp [List.getD, hz]
      rw [ez] at hV
      rw [ed] at hbb ⊢
      refine (hfi.wr _ ((hK.cons _)) z () ge 0 (fun V hV => ?_) v l V hV hbb).mono ?_
      · exact box_U hV
      · rintro e V' ⟨v', h1, h2⟩
        exact ⟨v', h1, h2.drop⟩
    rw [hlen] at this
    exact this
  · intro K hK x g T pre post a l c V hj hS
    obtain ⟨hle, hb, M, sa, sc, hsa, hsub, hback, hcell, hIM, hset⟩ := hJ x g T pre post V K hj
    have key : ∀ ys V, IMU w hb M V ys → Mem w V M := by
      intro ys V h
      unfold IMU at h
      split at h
      · exact h
      · exact h.sub
    have := ird_TU (σ := List Int) (w := w) (L := M) (J := fun ys V => ys.length = (fl x).length ∧ IMU w hb M V ys) ?st (fun ys V h => key ys V h.2) bo bi ko fi.kw fi.kr fi.ks fi.cw fi.cr fi.cs ⟨g, pre.length, none⟩ ⟨g, pre.length + o, none⟩ sa (fl x).length sc hle hb hsa
      (fun V hV => by rw [mem_box hV (hsub _ (hK _ mo))]; rfl) (ci M (hK.trans hsub)) eo (fun V => ho V g pre.length) hfi.er (itd 0 se) ?hr (fl x) l a c V ⟨rfl, hIM⟩ hS hcell
    case st =>
      rintro ys V V' ⟨h1, h2⟩ hB
      refine ⟨h1, ?_⟩
      unfold IMU at h2 ⊢
      split at h2
      · rename_i e; rw [if_pos e]; exact h2.after hB
      · rename_i e; rw [if_neg e]; exact h2.after hB
    case hr =>
      rintro i hi ys l a c V ⟨h1, h2⟩ hS
      obtain ⟨z, hz⟩ : ∃ z, ys[i]? = some z := ⟨_, List.getElem?_eq_getElem (by omega)⟩
      have hne : ys ≠ [] := by rintro rfl; simp at hz
      have ed : ys.getD i 0 = z := by simp [List.getD, hz]
      unfold IMU at h2
      rw [if_neg hne, flat_TU ys i z hz] at h2
      have hpl : (ux (ys.take i)).flatten.length = i * 1 := by rw [flatl_TU, List.length_take]; congr 1; omega
      have := hfi.rd M (hK.trans hsub) z hb 26 (ux (ys.take i)).flatten (ux (ys.drop (i + 1))).flatten a l c V h2 hS
      rw [hpl] at this
      refine this.mono ?_
      intro e V' hR
      refine hR.mono (fun q => ys.set i q) (by simp only [itd, ed]) id (fun q hq => ⟨by rw [List.length_set]; exact h1, ?_⟩)
      have hne2 : ys.set i q ≠ [] := by intro e; apply hne; rw [← List.length_eq_zero_iff] at e ⊢; rwa [List.length_set] at e
      unfold IMU
      rw [if_neg hne2, flat_TU (ys.set i q) i q (by rw [List.getElem?_set_self (by omega)])]
      rw [List.take_set_of_le (Nat.le_refl i), List.drop_set_of_lt (Nat.lt_succ_self i)]
      exact hq
    refine this.mono ?_
    intro e V' hR
    exact hR.mono (fs x) rfl (hback V') (fun ys hy => hset ys V' hy.1 hy.2)
  · intro K hK x y r r' g off h of' hx V hV
    exact ism_TU hV bo bi ko fi.kw fi.kr fi.ks fi.cw fi.cr fi.cs ⟨g, off, none⟩ ⟨g, off + o, none⟩ ⟨h, of', none⟩ ⟨h, of' + o, none⟩ (sv r) (sv r') (fl x) (fl y) (fun V hV => by rw [mem_box hV (hK _ mo)]; rfl) (ci K hK) eo (fun V => ho V g off) (fun V => ho V h of') hfi.es
      (fun V hV => (hI _ _ _ _ _ (hx V hV).1).2.2) (fun V hV => (hI _ _ _ _ _ (hx V hV).2).2.2) (fun V hV => (hI _ _ _ _ _ (hx V hV).1).2.1) (fun V hV => (hI _ _ _ _ _ (hx V hV).2).2.1) (hI _ _ _ _ _ (hx V hV).1).1
      (fun p q gx gy V hV => by
        have := hfi.sm _ ((hK.cons _).cons _) p q () () gx 0 gy 0 (fun V hV => ⟨box_U hV, box_U hV.sub⟩) V hV
        rw [hse] at this
        refine this.mono ?_
        rintro e V' ⟨h1, h2⟩
        exact ⟨h1, h2.sub.sub⟩)

set_option maxHeartbeats 2000000 in
theorem mk_Itm_TU {w W : World} {L : List (Nat × Obj)} (h : Mem w W L) (ko : Nat) (fi : Fv) :
    Calls Tryz.prog 62 #[.func (.func ko) #[] #[], fi.val] W fun e W' => ∃ bo bi, e = .returned (fvItm_TU bo bi).val ∧ Mem w W' ((bo, .cells #[.func (.func ko) #[] #[]] 76 (0, 0)) :: (bi, .cells fi.cells.toArray 102 (0, 0)) :: L) := by
  obtain ⟨k1, k2, k3, c1, c2, c3⟩ := fi
  have hM : Mem w ((W.alloc (.cells #[.func (.func ko) #[] #[]] 76)).alloc (.cells #[.func (.func k1) #[] c1, .func (.func k2) #[] c2, .func (.func k3) #[] c3] 102)) ((W.heap.size, .cells #[.func (.func ko) #[] #[]] 76 (0, 0)) :: (W.heap.size + 1, .cells #[.func (.func k1) #[] c1, .func (.func k2) #[] c2, .func (.func k3) #[] c3] 102 (0, 0)) :: L) := by
    have h1 := (h.push W.heap.size (.cells #[.func (.func ko) #[] #[]] 76 (0, 0)) rfl).push (W.heap.size + 1) (.cells #[.func (.func k1) #[] c1, .func (.func k2) #[] c2, .func (.func k3) #[] c3] 102 (0, 0)) (by simp)
    refine h1.perm ?_
    rw [List.append_assoc]
    exact List.perm_append_comm
  have hmf : ∀ (fn : Fn) (first cap : Array Value) (w : World), (Instr.makeFunc fn first cap).run Tryz.prog w = .ok (.func fn first cap) w := fun _ _ _ _ => rfl
  have HM : Hid (Mem w ((W.alloc (.cells #[.func (.func ko) #[] #[]] 76)).alloc (.cells #[.func (.func k1) #[] c1, .func (.func k2) #[] c2, .func (.func k3) #[] c3] 102)) ((W.heap.size, .cells #[.func (.func ko) #[] #[]] 76 (0, 0)) :: (W.heap.size + 1, .cells #[.func (.func k1) #[] c1, .func (.func k2) #[] c2, .func (.func k3) #[] c3] 102 (0, 0)) :: L)) := hM
  clear hM h
  simp only [Fv.val]
  go_enter Tryz.func62, Tryz.ntmps62
  go_wp2_with fail
  refine bodyPost_ret (v := (fvItm_TU W.heap.size (W.heap.size + 1)).val) ?_ rfl ⟨_, _, rfl, HM.out.after ((Below.refl _ _).alloc (Nat.le_refl _) _)⟩
  exact results_cell_row (p := 4) (ty := 70) rfl _ _ (W.heap.size + 1 + 1) 70 _ (0, 0) _ rfl (heap_alloc3_new _ _ _ _) Tryz.underlying70 rfl (by kernel_rfl)
end Go.Proofs.YtbccadbnaggkhaaGreat

namespace Go.Proofs.YtbccadbnaggkhaaGreat
open Go.RowKit
open Sm
open Cf
set_option linter.unusedVariables false
set_option maxRecDepth 20000

def spU : Sp Int := spNum 4 id (fun _ y => y)
def spA : Sp (Int × Int) := spNum 4 Prod.fst (fun x y => (y, x.2))
def spB : Sp (Int × Int) := spNum 4 Prod.snd (fun x y => (x.1, y))
def spP : Sp (Int × Int) := spAll [spA, spB]
theorem fits32 : ∀ q, 0 ≤ q → q < 256 ^ 4 → IntKind.u32.wrap q = q := fun q h0 h1 => wraps_u32 q h0 (by omega)
theorem spU_eq (x y : Int) : spU.eq x y = decide (x = y) := rfl
theorem spP_eq (x y : Int × Int) : spP.eq x y = decide (x = y) := by
  obtain ⟨a, b⟩ := x
  obtain ⟨c, d⟩ := y
  simp only [spP, spAll, spA, spB, spNum, List.length_cons, List.length_nil]
  by_cases h : (a, b) = (c, d)
  · rw [decide_eq_true h]
    apply decide_eq_true
    intro i hi
    simp only [Prod.mk.injEq] at h
    match i, hi with
    | 0, _ => simp [h.1]
    | 1, _ => simp [h.2]
  · rw [decide_eq_false h]
    apply decide_eq_false
    intro hc
    apply h
    have h0 := hc 0 (by omega)
    have h1 := hc 1 (by omega)
    simp at h0 h1
    rw [h0, h1]
theorem acc_address (V : World) (g off : Nat) : Calls Tryz.prog 113 #[.pointer (some ⟨g, off, none⟩)] V fun e V' => e = .returned (.pointer (some ⟨g, off + 0, none⟩)) ∧ V = V' := by
  go_enter Tryz.func113, Tryz.ntmps113
  go_wp2
  go_ret
  exact ⟨rfl, rfl⟩
theorem acc_pair1 (V : World) (g off : Nat) : Calls Tryz.prog 121 #[.pointer (some ⟨g, off, none⟩)] V fun e V' => e = .returned (.pointer (some ⟨g, off + 0, none⟩)) ∧ V = V' := by
  go_enter Tryz.func121, Tryz.ntmps121
  go_wp2
  go_ret
  exact ⟨rfl, rfl⟩
theorem acc_pair2 (V : World) (g off : Nat) : Calls Tryz.prog 122 #[.pointer (some ⟨g, off, none⟩)] V fun e V' => e = .returned (.pointer (some ⟨g, off + 1, none⟩)) ∧ V = V' := by
  go_enter Tryz.func122, Tryz.ntmps122
  go_wp2
  go_ret
  exact ⟨rfl, rfl⟩
theorem get_mid (pre mid post : List Value) (o : Nat) (v : Value) (h : mid[o]? = some v) : (pre ++ (mid ++ post)).toArray[pre.length + o]? = some v := by
  have ho := (List.getElem?_eq_some_iff.mp h).1
  simp only [List.getElem?_toArray]
  rw [List.getElem?_append_right (by omega), List.getElem?_append_left (by omega), Nat.add_sub_cancel_left]
  exact h
theorem set_mid (pre mid post : List Value) (o : Nat) (v : Value) (h : o < mid.length) : (pre ++ (mid ++ post)).toArray.setIfInBounds (pre.length + o) v = (pre ++ (mid.set o v ++ post)).toArray := by
  simp only [List.setIfInBounds_toArray]
  rw [List.set_append_right _ _ (by omega), List.set_append_left _ _ (by omega), Nat.add_sub_cancel_left]
theorem Mem.put3 {w V : World} {M : List (Nat × Obj)} {rb : Nat} {a b c : Value} {t : TypeId} (h : Mem w V ((rb, .cells #[a, b, c] t (0, 0)) :: M)) (x y z : Value) :
    Mem w (((V.setCell ⟨rb, 0, none⟩ x).setCell ⟨rb, 1, none⟩ y).setCell ⟨rb, 2, none⟩ z) ((rb, .cells #[x, y, z] t (0, 0)) :: M) := by
  have h1 := h.set 0 rfl 0 x
  have h2 := Mem.set h1 0 rfl 1 y
  exact Mem.set h2 0 rfl 2 z
theorem lens_U {w : World} : ∀ x g T pre post V K, JU w x g T pre post V K → ∃ A M, Lens w JU 0 x g T pre post V K M A ∧ A[pre.length + 0]? = some (.int .u32 (id x)) ∧
      ∀ y V', Mem w V' ((g, .cells (A.setIfInBounds (pre.length + 0) (.int .u32 y)) T (0, 0)) :: M) → JU w y g T pre post V' K := by
  intro x g T pre post V K h
  refine ⟨_, K, ⟨h, Sub.refl _, fun V' h => h⟩, get_mid _ _ _ 0 _ rfl, fun y V' hV => ?_⟩
  rw [set_mid _ _ _ 0 _ (by simp)] at hV
  exact hV
set_option maxHeartbeats 2000000 in
theorem address_any {w W : World} {L : List (Nat × Obj)} (h : Mem w W L) :
    Calls Tryz.prog 63 #[] W fun e W' => ∃ f E, e = .returned f.val ∧ Mem w W' (E ++ L) ∧ Fd w E IU JU f spU := by
  have h0 : Mem w (W.alloc (.cells #[.nilFunc, .nilFunc, .nilFunc] 102)) ((W.heap.size, .cells #[.nilFunc, .nilFunc, .nilFunc] 102 (0, 0)) :: L) := (h.push W.heap.size _ rfl).perm List.perm_append_comm
  have C := mk_num_UU h0 4 113
  obtain ⟨rb, hrb⟩ : ∃ rb, W.heap.size = rb := ⟨_, rfl⟩
  rw [hrb] at C
  go_enter Tryz.func63, Tryz.ntmps63
  go_wp2_with fail
  refine C.mono ?_
  rintro e V ⟨bs, bo, rfl, hM⟩
  have hM2 : Mem w V ((rb, .cells #[.nilFunc, .nilFunc, .nilFunc] 102 (0, 0)) :: ((bs, .cells #[.int .i64 4] 3 (0, 0)) :: (bo, .cells #[.func (.func 113) #[] #[]] 135 (0, 0)) :: L)) := hM.perm (by
    refine List.Perm.trans ?_ (List.perm_middle (l₁ := [_, _]))
    exact List.Perm.refl _)
  have HF : Hid (Fd w ([(rb, .cells (fvNum_UU bs bo).cells.toArray 102 (0, 0)), (bs, .cells #[.int .i64 4] 3 (0, 0)), (bo, .cells #[.func (.func 113) #[] #[]] 135 (0, 0))]) IU JU (fvNum_UU bs bo) spU) :=
    fd_num_UU bs bo 4 113 0 (by omega) fits32 id (fun _ y => y) (by simp) (by simp) (enters_of Tryz.func113 (by kernel_rfl) rfl) acc_address (fun x r V g off h => h) lens_U
  clear C h0 hM h
  generalize fvNum_UU bs bo = f at HF
  obtain ⟨k1, k2, k3, c1, c2, c3⟩ := f
  have hM3 := hM2.put3 (.func (.func k1) #[] c1) (.func (.func k2) #[] c2) (.func (.func k3) #[] c3)
  have e0 : V.cell? ⟨rb, 0, none⟩ = some .nilFunc := hM2.cell 0 rfl 0
  have e1 : V.cell? ⟨rb, 1, none⟩ = some .nilFunc := hM2.cell 0 rfl 1
  have e2 : V.cell? ⟨rb, 2, none⟩ = some .nilFunc := hM2.cell 0 rfl 2
  have e3 := hM2.free 0 rfl
  clear hM2
  simp only [Fv.val]
  go_wp2_with fail
  refine bodyPost_ret (v := .agg #[.func (.func k1) #[] c1, .func (.func k2) #[] c2, .func (.func k3) #[] c3]) ?_ rfl ⟨⟨k1, k2, k3, c1, c2, c3⟩, [_, _, _], rfl, hM3, HF.out⟩
  exact results_cell_row (p := 0) (ty := 102) rfl _ _ rb 102 _ (0, 0) _ rfl (hM3.get 0 rfl) Tryz.underlying102 rfl (by kernel_rfl)
theorem lens_A {w : World} : ∀ x g T pre post V K, JP w x g T pre post V K → ∃ A M, Lens w JP 0 x g T pre post V K M A ∧ A[pre.length + 0]? = some (.int .u32 x.1) ∧
      ∀ y V', Mem w V' ((g, .cells (A.setIfInBounds (pre.length + 0) (.int .u32 y)) T (0, 0)) :: M) → JP w (y, x.2) g T pre post V' K := by
  intro x g T pre post V K h
  refine ⟨_, K, ⟨h, Sub.refl _, fun V' h => h⟩, get_mid _ _ _ 0 _ rfl, fun y V' hV => ?_⟩
  rw [set_mid _ _ _ 0 _ (by simp)] at hV
  exact hV
theorem lens_B {w : World} : ∀ x g T pre post V K, JP w x g T pre post V K → ∃ A M, Lens w JP 1 x g T pre post V K M A ∧ A[pre.length + 1]? = some (.int .u32 x.2) ∧
      ∀ y V', Mem w V' ((g, .cells (A.setIfInBounds (pre.length + 1) (.int .u32 y)) T (0, 0)) :: M) → JP w (x.1, y) g T pre post V' K := by
  intro x g T pre post V K h
  refine ⟨_, K, ⟨h, Sub.refl _, fun V' h => h⟩, get_mid _ _ _ 1 _ rfl, fun y V' hV => ?_⟩
  rw [set_mid _ _ _ 1 _ (by simp)] at hV
  exact hV
set_option maxHeartbeats 4000000 in
theorem pair_any {w W : World} {L : List (Nat × Obj)} (h : Mem w W L) :
    Calls Tryz.prog 65 #[] W fun e W' => ∃ f E, e = .returned f.val ∧ Mem w W' (E ++ L) ∧ Fd w E IP JP f spP := by
  have h0 : Mem w (W.alloc (.cells #[.nilFunc, .nilFunc, .nilFunc] 109)) ((W.heap.size, .cells #[.nilFunc, .nilFunc, .nilFunc] 109 (0, 0)) :: L) := (h.push W.heap.size _ rfl).perm List.perm_append_comm
  have C := mk_num_PU h0 4 121
  obtain ⟨rb, hrb⟩ : ∃ rb, W.heap.size = rb := ⟨_, rfl⟩
  rw [hrb] at C
  go_enter Tryz.func65, Tryz.ntmps65
  go_wp2_with fail
  refine C.mono ?_
  rintro e V ⟨bs, bo, rfl, hM⟩
  have C2 := mk_num_PU hM 4 122
  clear C hM h0 h
  go_wp2_with fail
  refine C2.mono ?_
  rintro e V2 ⟨bs2, bo2, rfl, hM2⟩
  obtain ⟨f1, hf1⟩ : ∃ f1, fvNum_PU bs bo = f1 := ⟨_, rfl⟩
  obtain ⟨f2, hf2⟩ : ∃ f2, fvNum_PU bs2 bo2 = f2 := ⟨_, rfl⟩
  obtain ⟨lb, hlb⟩ : ∃ lb, V2.heap.size = lb := ⟨_, rfl⟩
  have hM3 : Mem w (V2.alloc (.cells ([f1, f2].flatMap Fv.cells).toArray 109)) ((lb, .cells ([f1, f2].flatMap Fv.cells).toArray 109 (0, 0)) :: (bs2, .cells #[.int .i64 4] 3 (0, 0)) :: (bo2, .cells #[.func (.func 122) #[] #[]] 141 (0, 0)) :: (bs, .cells #[.int .i64 4] 3 (0, 0)) :: (bo, .cells #[.func (.func 121) #[] #[]] 141 (0, 0)) :: (rb, .cells #[.nilFunc, .nilFunc, .nilFunc] 109 (0, 0)) :: L) :=
    (hM2.push lb _ hlb.symm).perm List.perm_append_comm
  have C3 := mk_all_P hM3 lb 2
  rw [hf1, hf2]
  clear C2 hM2 hM3
  obtain ⟨k1, k2, k3, c1, c2, c3⟩ := f1
  obtain ⟨q1, q2, q3, d1, d2, d3⟩ := f2
  simp only [Fv.val]
  simp only [List.flatMap_cons, List.flatMap_nil, Fv.cells, List.cons_append, List.nil_append, List.append_nil] at C3
  go_wp2_with fail
  refine C3.mono ?_
  rintro e V3 ⟨cb, rfl, hM⟩
  obtain ⟨E, hE⟩ : ∃ E : List (Nat × Obj), E = [(cb, .cells #[.slice (some ⟨lb, 0, none⟩) 2 2] 142 (0, 0)), (lb, .cells #[.func (.func k1) #[] c1, .func (.func k2) #[] c2, .func (.func k3) #[] c3, .func (.func q1) #[] d1, .func (.func q2) #[] d2, .func (.func q3) #[] d3] 109 (0, 0)),
    (bs2, .cells #[.int .i64 4] 3 (0, 0)), (bo2, .cells #[.func (.func 122) #[] #[]] 141 (0, 0)), (bs, .cells #[.int .i64 4] 3 (0, 0)), (bo, .cells #[.func (.func 121) #[] #[]] 141 (0, 0))] := ⟨_, rfl⟩
  have hM2 : Mem w V3 ((rb, .cells #[.nilFunc, .nilFunc, .nilFunc] 109 (0, 0)) :: (E ++ L)) := hM.perm (by
    rw [hE]
    exact List.perm_middle (l₁ := [_, _, _, _, _, _]))
  have HF : Hid (Fd w E IP JP (fvAll_P cb) spP) := by
    refine fd_all_P cb lb 2 [⟨k1, k2, k3, c1, c2, c3⟩, ⟨q1, q2, q3, d1, d2, d3⟩] [spA, spB] rfl (by omega) (by rw [hE]; simp) (by rw [hE]; simp [Fv.cells]) ?_ (fun x g T pre post V V' K h hB => Mem.after h hB) (fun x g T pre post V K h => Mem.sub h)
    rw [← hf1, ← hf2]
    refine FdAll.cons ?_ (FdAll.cons ?_ FdAll.nil)
    · exact fd_num_PU bs bo 4 121 0 (by omega) fits32 Prod.fst (fun x y => (y, x.2)) (by rw [hE]; simp) (by rw [hE]; simp) (enters_of Tryz.func121 (by kernel_rfl) rfl) acc_pair1 (fun x r V g off h => h.1) lens_A
    · exact fd_num_PU bs2 bo2 4 122 1 (by omega) fits32 Prod.snd (fun x y => (x.1, y)) (by rw [hE]; simp) (by rw [hE]; simp) (enters_of Tryz.func122 (by kernel_rfl) rfl) acc_pair2 (fun x r V g off h => h.2) lens_B
  clear C3 hM hE hf1 hf2
  generalize fvAll_P cb = f at HF
  obtain ⟨m1, m2, m3, n1, n2, n3⟩ := f
  have hM3 := hM2.put3 (.func (.func m1) #[] n1) (.func (.func m2) #[] n2) (.func (.func m3) #[] n3)
  have e0 : V3.cell? ⟨rb, 0, none⟩ = some .nilFunc := hM2.cell 0 rfl 0
  have e1 : V3.cell? ⟨rb, 1, none⟩ = some .nilFunc := hM2.cell 0 rfl 1
  have e2 : V3.cell? ⟨rb, 2, none⟩ = some .nilFunc := hM2.cell 0 rfl 2
  have e3 := hM2.free 0 rfl
  clear hM2
  simp only [Fv.val]
  go_wp2_with fail
  refine bodyPost_ret (v := .agg #[.func (.func m1) #[] n1, .func (.func m2) #[] n2, .func (.func m3) #[] n3]) ?_ rfl ⟨⟨m1, m2, m3, n1, n2, n3⟩, _ :: E, rfl, hM3, HF.out.more (fun q hq => List.mem_cons_of_mem _ hq)⟩
  exact results_cell_row (p := 0) (ty := 109) rfl _ _ rb 109 _ (0, 0) _ rfl (hM3.get 0 rfl) Tryz.underlying109 rfl (by kernel_rfl)
end Go.Proofs.YtbccadbnaggkhaaGreat

