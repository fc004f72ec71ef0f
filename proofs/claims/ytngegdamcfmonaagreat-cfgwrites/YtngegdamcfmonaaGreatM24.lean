/-
  Settings as bytes: fields one behind the other keep what is asked of a field (lych/api.Pair).
  Settings as bytes: fields one behind the other keep what is asked of a field (lych/api.Tenant).
-/
import Derived.Test.YtngegdamcfmonaaGreatM17
import Derived.Test.YtngegdamcfmonaaGreatM12
import Derived.Test.YtngegdamcfmonaaGreatM14
namespace Go.Proofs.YtngegdamcfmonaaGreat
open Go.RowKit
open Sm
open Cf
set_option linter.unusedVariables false
set_option maxRecDepth 20000

def fvAll_P (cb : Nat) : Fv := ⟨163, 164, 165, #[.pointer (some ⟨cb, 0, none⟩)], #[.pointer (some ⟨cb, 0, none⟩)], #[.pointer (some ⟨cb, 0, none⟩)]⟩
theorem fd_all_P {α ρ : Type} {w : World} {L : List (Nat × Obj)} {I : Rp α ρ} {J : St' α} (cb lb n : Nat) (fs : List Fv) (ss : List (Sp α)) (hn : fs.length = n) (hn2 : n ≤ 1000)
    (mc : (cb, .cells #[.slice (some ⟨lb, 0, none⟩) n n] 180 (0, 0)) ∈ L) (ml : (lb, .cells (fs.flatMap Fv.cells).toArray 155 (0, 0)) ∈ L)
    (hfs : FdAll w L I J fs ss) (hst : ∀ x g T pre post V V' K, J w x g T pre post V K → Below V.heap.size V V' → J w x g T pre post V' K) (hJM : ∀ x g T pre post V K, J w x g T pre post V K → Mem w V K) :
    Fd w L I J (fvAll_P cb) (spAll ss) := by
  have hss : ss.length = n := by rw [← hfs.len]; exact hn
  have hcell : ∀ K, Sub L K → ∀ V, Mem w V K → V.cell? ⟨cb, 0, none⟩ = some (.slice (some ⟨lb, 0, none⟩) n n) := fun K hK V hV => by rw [mem_box hV (hK _ mc)]; rfl
  have hcells : ∀ K, Sub L K → ∀ V, Mem w V K → ∀ i, i < n → V.cell? ⟨lb, i * 3, none⟩ = some (.func (.func (fs.getD i fv0).kw) #[] (fs.getD i fv0).cw) ∧
      V.cell? ⟨lb, i * 3 + 1, none⟩ = some (.func (.func (fs.getD i fv0).kr) #[] (fs.getD i fv0).cr) ∧ V.cell? ⟨lb, i * 3 + 2, none⟩ = some (.func (.func (fs.getD i fv0).ks) #[] (fs.getD i fv0).cs) := by
    intro K hK V hV i hi
    obtain ⟨h1, h2, h3⟩ := flat_get fs i (by omega)
    refine ⟨?_, ?_, ?_⟩
    · rw [mem_box hV (hK _ ml)]; simpa using h1
    · rw [mem_box hV (hK _ ml)]; simpa using h2
    · rw [mem_box hV (hK _ ml)]; simpa using h3
  refine ⟨enters_of Tryz.func163 (by kernel_rfl) rfl, enters_of Tryz.func164 (by kernel_rfl) rfl, enters_of Tryz.func165 (by kernel_rfl) rfl, ?_, ?_, ?_⟩
  · intro K hK x r g off hx v l V hO hb
    have := awr_P (H := fun v l V => Out w V v l K) (fun v l V V' h hB => h.after hB) ⟨g, off, none⟩ cb lb n hn2 (fun i => (fs.getD i fv0).kw) (fun i => (fs.getD i fv0).kr) (fun i => (fs.getD i fv0).ks) (fun i => (fs.getD i fv0).cw) (fun i => (fs.getD i fv0).cr) (fun i => (fs.getD i fv0).cs)
      (fun v l V h => hcell K hK V h.mem) (fun v l V h => hcells K hK V h.mem) (fun i => (ss.getD i sp0).enc x) (fun i hi => (hfs.at_ i (by omega)).ew) (fun i hi v l V h hb => (hfs.at_ i (by omega)).wr K hK x r g off hx v l V h hb) v l V hO (by simp only [spAll, hss] at hb; exact hb)
    simp only [spAll, hss]
    exact this
  · intro K hK x g T pre post a l c V hj hS
    have := ard_P (w := w) (L := K) (J := fun y V => J w y g T pre post V K) (fun y V V' h hB => hst y g T pre post V V' K h hB) ⟨g, pre.length, none⟩ cb lb n hn2 (fun i => (fs.getD i fv0).kw) (fun i => (fs.getD i fv0).kr) (fun i => (fs.getD i fv0).ks) (fun i => (fs.getD i fv0).cw) (fun i => (fs.getD i fv0).cr) (fun i => (fs.getD i fv0).cs)
      (fun y V h => hcell K hK V (hJM _ _ _ _ _ _ _ h)) (fun y V h => hcells K hK V (hJM _ _ _ _ _ _ _ h)) (fun i => (ss.getD i sp0).dec) (fun i hi => (hfs.at_ i (by omega)).er) (fun i hi y l a c V h hS => (hfs.at_ i (by omega)).rd K hK y g T pre post a l c V h hS) x l a c V hj hS
    simp only [spAll, hss]
    exact this
  · intro K hK x y r r' g off h of' hx V hV
    have := asm_P (M := fun V => Mem w V K) (fun V V' h hB => h.after hB) ⟨g, off, none⟩ ⟨h, of', none⟩ cb lb n hn2 (fun i => (fs.getD i fv0).kw) (fun i => (fs.getD i fv0).kr) (fun i => (fs.getD i fv0).ks) (fun i => (fs.getD i fv0).cw) (fun i => (fs.getD i fv0).cr) (fun i => (fs.getD i fv0).cs)
      (fun V h => hcell K hK V h) (fun V h => hcells K hK V h) (fun i => (ss.getD i sp0).eq x y) (fun i hi => (hfs.at_ i (by omega)).es) (fun i hi V hV => (hfs.at_ i (by omega)).sm K hK x y r r' g off h of' hx V hV) V hV
    simp only [spAll, hss]
    exact this

set_option maxHeartbeats 2000000 in
/-- The field is made. -/
theorem mk_all_P {w W : World} {L : List (Nat × Obj)} (h : Mem w W L) (lb n : Nat) :
    Calls Tryz.prog 153 #[.slice (some ⟨lb, 0, none⟩) n n] W fun e W' => ∃ cb, e = .returned (fvAll_P cb).val ∧ Mem w W' ((cb, .cells #[.slice (some ⟨lb, 0, none⟩) n n] 180 (0, 0)) :: L) := by
  have hM : Mem w (W.alloc (.cells #[.slice (some ⟨lb, 0, none⟩) n n] 180)) ((W.heap.size, .cells #[.slice (some ⟨lb, 0, none⟩) n n] 180 (0, 0)) :: L) := (h.push W.heap.size (.cells #[.slice (some ⟨lb, 0, none⟩) n n] 180 (0, 0)) rfl).perm List.perm_append_comm
  have hmf : ∀ (fn : Fn) (first cap : Array Value) (w : World), (Instr.makeFunc fn first cap).run Tryz.prog w = .ok (.func fn first cap) w := fun _ _ _ _ => rfl
  have HM : Hid (Mem w (W.alloc (.cells #[.slice (some ⟨lb, 0, none⟩) n n] 180)) ((W.heap.size, .cells #[.slice (some ⟨lb, 0, none⟩) n n] 180 (0, 0)) :: L)) := hM
  clear hM h
  go_enter Tryz.func153, Tryz.ntmps153
  go_wp2_with fail
  refine bodyPost_ret (v := (fvAll_P W.heap.size).val) ?_ rfl ⟨_, rfl, HM.out.after ((Below.refl _ _).alloc (Nat.le_refl _) _)⟩
  exact results_cell_row (p := 2) (ty := 155) rfl _ _ (W.heap.size + 1) 155 _ (0, 0) _ rfl (heap_alloc2_new _ _ _) Tryz.underlying155 rfl (by kernel_rfl)
end Go.Proofs.YtngegdamcfmonaaGreat

namespace Go.Proofs.YtngegdamcfmonaaGreat
open Go.RowKit
open Sm
open Cf
set_option linter.unusedVariables false
set_option maxRecDepth 20000

def fvAll_T (cb : Nat) : Fv := ⟨115, 116, 117, #[.pointer (some ⟨cb, 0, none⟩)], #[.pointer (some ⟨cb, 0, none⟩)], #[.pointer (some ⟨cb, 0, none⟩)]⟩
theorem fd_all_T {α ρ : Type} {w : World} {L : List (Nat × Obj)} {I : Rp α ρ} {J : St' α} (cb lb n : Nat) (fs : List Fv) (ss : List (Sp α)) (hn : fs.length = n) (hn2 : n ≤ 1000)
    (mc : (cb, .cells #[.slice (some ⟨lb, 0, none⟩) n n] 157 (0, 0)) ∈ L) (ml : (lb, .cells (fs.flatMap Fv.cells).toArray 79 (0, 0)) ∈ L)
    (hfs : FdAll w L I J fs ss) (hst : ∀ x g T pre post V V' K, J w x g T pre post V K → Below V.heap.size V V' → J w x g T pre post V' K) (hJM : ∀ x g T pre post V K, J w x g T pre post V K → Mem w V K) :
    Fd w L I J (fvAll_T cb) (spAll ss) := by
  have hss : ss.length = n := by rw [← hfs.len]; exact hn
  have hcell : ∀ K, Sub L K → ∀ V, Mem w V K → V.cell? ⟨cb, 0, none⟩ = some (.slice (some ⟨lb, 0, none⟩) n n) := fun K hK V hV => by rw [mem_box hV (hK _ mc)]; rfl
  have hcells : ∀ K, Sub L K → ∀ V, Mem w V K → ∀ i, i < n → V.cell? ⟨lb, i * 3, none⟩ = some (.func (.func (fs.getD i fv0).kw) #[] (fs.getD i fv0).cw) ∧
      V.cell? ⟨lb, i * 3 + 1, none⟩ = some (.func (.func (fs.getD i fv0).kr) #[] (fs.getD i fv0).cr) ∧ V.cell? ⟨lb, i * 3 + 2, none⟩ = some (.func (.func (fs.getD i fv0).ks) #[] (fs.getD i fv0).cs) := by
    intro K hK V hV i hi
    obtain ⟨h1, h2, h3⟩ := flat_get fs i (by omega)
    refine ⟨?_, ?_, ?_⟩
    · rw [mem_box hV (hK _ ml)]; simpa using h1
    · rw [mem_box hV (hK _ ml)]; simpa using h2
    · rw [mem_box hV (hK _ ml)]; simpa using h3
  refine ⟨enters_of Tryz.func115 (by kernel_rfl) rfl, enters_of Tryz.func116 (by kernel_rfl) rfl, enters_of Tryz.func117 (by kernel_rfl) rfl, ?_, ?_, ?_⟩
  · intro K hK x r g off hx v l V hO hb
    have := awr_T (H := fun v l V => Out w V v l K) (fun v l V V' h hB => h.after hB) ⟨g, off, none⟩ cb lb n hn2 (fun i => (fs.getD i fv0).kw) (fun i => (fs.getD i fv0).kr) (fun i => (fs.getD i fv0).ks) (fun i => (fs.getD i fv0).cw) (fun i => (fs.getD i fv0).cr) (fun i => (fs.getD i fv0).cs)
      (fun v l V h => hcell K hK V h.mem) (fun v l V h => hcells K hK V h.mem) (fun i => (ss.getD i sp0).enc x) (fun i hi => (hfs.at_ i (by omega)).ew) (fun i hi v l V h hb => (hfs.at_ i (by omega)).wr K hK x r g off hx v l V h hb) v l V hO (by simp only [spAll, hss] at hb; exact hb)
    simp only [spAll, hss]
    exact this
  · intro K hK x g T pre post a l c V hj hS
    have := ard_T (w := w) (L := K) (J := fun y V => J w y g T pre post V K) (fun y V V' h hB => hst y g T pre post V V' K h hB) ⟨g, pre.length, none⟩ cb lb n hn2 (fun i => (fs.getD i fv0).kw) (fun i => (fs.getD i fv0).kr) (fun i => (fs.getD i fv0).ks) (fun i => (fs.getD i fv0).cw) (fun i => (fs.getD i fv0).cr) (fun i => (fs.getD i fv0).cs)
      (fun y V h => hcell K hK V (hJM _ _ _ _ _ _ _ h)) (fun y V h => hcells K hK V (hJM _ _ _ _ _ _ _ h)) (fun i => (ss.getD i sp0).dec) (fun i hi => (hfs.at_ i (by omega)).er) (fun i hi y l a c V h hS => (hfs.at_ i (by omega)).rd K hK y g T pre post a l c V h hS) x l a c V hj hS
    simp only [spAll, hss]
    exact this
  · intro K hK x y r r' g off h of' hx V hV
    have := asm_T (M := fun V => Mem w V K) (fun V V' h hB => h.after hB) ⟨g, off, none⟩ ⟨h, of', none⟩ cb lb n hn2 (fun i => (fs.getD i fv0).kw) (fun i => (fs.getD i fv0).kr) (fun i => (fs.getD i fv0).ks) (fun i => (fs.getD i fv0).cw) (fun i => (fs.getD i fv0).cr) (fun i => (fs.getD i fv0).cs)
      (fun V h => hcell K hK V h) (fun V h => hcells K hK V h) (fun i => (ss.getD i sp0).eq x y) (fun i hi => (hfs.at_ i (by omega)).es) (fun i hi V hV => (hfs.at_ i (by omega)).sm K hK x y r r' g off h of' hx V hV) V hV
    simp only [spAll, hss]
    exact this

set_option maxHeartbeats 2000000 in
/-- The field is made. -/
theorem mk_all_T {w W : World} {L : List (Nat × Obj)} (h : Mem w W L) (lb n : Nat) :
    Calls Tryz.prog 64 #[.slice (some ⟨lb, 0, none⟩) n n] W fun e W' => ∃ cb, e = .returned (fvAll_T cb).val ∧ Mem w W' ((cb, .cells #[.slice (some ⟨lb, 0, none⟩) n n] 157 (0, 0)) :: L) := by
  have hM : Mem w (W.alloc (.cells #[.slice (some ⟨lb, 0, none⟩) n n] 157)) ((W.heap.size, .cells #[.slice (some ⟨lb, 0, none⟩) n n] 157 (0, 0)) :: L) := (h.push W.heap.size (.cells #[.slice (some ⟨lb, 0, none⟩) n n] 157 (0, 0)) rfl).perm List.perm_append_comm
  have hmf : ∀ (fn : Fn) (first cap : Array Value) (w : World), (Instr.makeFunc fn first cap).run Tryz.prog w = .ok (.func fn first cap) w := fun _ _ _ _ => rfl
  have HM : Hid (Mem w (W.alloc (.cells #[.slice (some ⟨lb, 0, none⟩) n n] 157)) ((W.heap.size, .cells #[.slice (some ⟨lb, 0, none⟩) n n] 157 (0, 0)) :: L)) := hM
  clear hM h
  go_enter Tryz.func64, Tryz.ntmps64
  go_wp2_with fail
  refine bodyPost_ret (v := (fvAll_T W.heap.size).val) ?_ rfl ⟨_, rfl, HM.out.after ((Below.refl _ _).alloc (Nat.le_refl _) _)⟩
  exact results_cell_row (p := 2) (ty := 79) rfl _ _ (W.heap.size + 1) 79 _ (0, 0) _ rfl (heap_alloc2_new _ _ _) Tryz.underlying79 rfl (by kernel_rfl)
end Go.Proofs.YtngegdamcfmonaaGreat

