/-
  Settings as bytes: fields one behind the other keep what is asked of a field (lych/api.Pair).
  Settings as bytes: the field of a list's length keeps what is asked of a field.
  Settings as bytes: the field of a text keeps what is asked of a field.
  Settings as bytes: fields one behind the other keep what is asked of a field (lych/api.Tenant).
  Settings as bytes: the field of an array of bytes keeps what is asked of a field.
  Settings as bytes: the field of a list's length keeps what is asked of a field.
  Settings as bytes: the field of an array of bytes keeps what is asked of a field.
  Settings as bytes: the field of a list's elements (lych/api.Config, lych/api.Tenant).
-/
import Derived.Test.YtbccadbnaggkhaaGreatKE07
import Derived.Test.YtbccadbnaggkhaaGreatKE04
import Derived.Test.YtbccadbnaggkhaaGreatKE06
import Derived.Test.YtbccadbnaggkhaaGreatKE05
import Derived.Deep.MidRow
import Derived.Deep.WholeRow
namespace Go.Proofs.YtbccadbnaggkhaaGreat
open Go.RowKit
open Sm
open Cf
set_option linter.unusedVariables false
set_option maxRecDepth 20000

def fvAll_P (cb : Nat) : Fv := ⟨132, 133, 134, #[.pointer (some ⟨cb, 0, none⟩)], #[.pointer (some ⟨cb, 0, none⟩)], #[.pointer (some ⟨cb, 0, none⟩)]⟩
theorem fd_all_P {α ρ : Type} {w : World} {L : List (Nat × Obj)} {I : Rp α ρ} {J : St' α} (cb lb n : Nat) (fs : List Fv) (ss : List (Sp α)) (hn : fs.length = n) (hn2 : n ≤ 1000)
    (mc : (cb, .cells #[.slice (some ⟨lb, 0, none⟩) n n] 142 (0, 0)) ∈ L) (ml : (lb, .cells (fs.flatMap Fv.cells).toArray 109 (0, 0)) ∈ L)
    (hfs : FdAll w L I J fs ss) (hst : ∀ x g T pre post V V' K, J w x g T pre post V K → Below V.heap.size V V' → J w x g T pre post V' K) (hJM : ∀ x g T pre post V K, J w x g T pre post V K → Mem w V K) :
    Fd w L I J (fvAll_P cb) (spAll ss) := by
  have hss : ss.length = n := by rw [← hfs.len]; exact hn
  have hcell : ∀ K, Sub L K → ∀ V, Mem w V K → V.cell? ⟨cb, 0, none⟩ = some (.slice (some ⟨lb, 0, none⟩) n n) := fun K hK V hV => by rw [mem_box hV (hK _ mc)]; rfl
  have hcells : ∀ K, Sub L K → ∀ V, Mem w V K → ∀ i, i < n → V.cell? ⟨lb, i * 3, none⟩ = some (.func (.func (fs.getD i fv0).kw) #[] (fs.getD i fv0).cw) ∧
      V.cell? ⟨lb, i * 3 + 1, none⟩ = some (.func (.func (fs.getD i fv0).kr) #[] (fs.getD i fv0).cr) ∧ V.cell? ⟨lb, i * 3 + 2, none⟩ = some (.func (.func (fs.getD i fv0).ks) #[] (fs.getD i fv0).cs) := by
    intro K hK V hV i hi
    obtain ⟨h1, h2, h3⟩ := flat_get fs i (by omega)
    refine ⟨?_, ?_, ?_⟩
    · rw [mem_box hV (hK _ ml)]; simpa using h1
    · rw [mem_box hV (hK _ ml)]; simpa using h2
    · rw [mem_box hV (hK _ ml)]; simpa using h3
  refine ⟨enters_of Tryz.func132 (by kernel_rfl) rfl, enters_of Tryz.func133 (by kernel_rfl) rfl, enters_of Tryz.func134 (by kernel_rfl) rfl, ?_, ?_, ?_⟩
  · intro K hK x r g off hx v l V hO hb
    have := awr_P (H := fun v l V => Out w V v l K) (fun v l V V' h hB => h.after hB) ⟨g, off, none⟩ cb lb n hn2 (fun i => (fs.getD i fv0).kw) (fun i => (fs.getD i fv0).kr) (fun i => (fs.getD i fv0).ks) (fun i => (fs.getD i fv0).cw) (fun i => (fs.getD i fv0).cr) (fun i => (fs.getD i fv0).cs)
      (fun v l V h => hcell K hK V h.mem) (fun v l V h => hcells K hK V h.mem) (fun i => (ss.getD i sp0).enc x) (fun i hi => (hfs.at_ i (by omega)).ew) (fun i hi v l V h hb => (hfs.at_ i (by omega)).wr K hK x r g off hx v l V h hb) v l V hO (by simp only [spAll, hss] at hb; exact hb)
    simp only [spAll, hss]
    exact this
  · intro K hK x g T pre post a l c V hj hS
    have := ard_P (w := w) (L := K) (J := fun y V => J w y g T pre post V K) (fun y V V' h hB => hst y g T pre post V V' K h hB) ⟨g, pre.length, none⟩ cb lb n hn2 (fun i => (fs.getD i fv0).kw) (fun i => (fs.getD i fv0).kr) (fun i => (fs.getD i fv0).ks) (fun i => (fs.getD i fv0).cw) (fun i => (fs.getD i fv0).cr) (fun i => (fs.getD i fv0).cs)
      (fun y V h => hcell K hK V (hJM _ _ _ _ _ _ _ h)) (fun y V h => hcells K hK V (hJM _ _ _ _ _ _ _ h)) (fun i => (ss.getD i sp0).dec) (fun i hi => (hfs.at_ i (by omega)).er) (fun i hi y l a c V h hS => (hfs.at_ i (by omega)).rd K hK y g T pre post a l c V h hS) x l a c V hj hS
    simp only [spAll, hss]
    exact this
  · intro K hK x y r r' g off h of' hx V hV
    have := asm_P (M := fun V => Mem w V K) (fun V V' h hB => h.after hB) ⟨g, off, none⟩ ⟨h, of', none⟩ cb lb n hn2 (fun i => (fs.getD i fv0).kw) (fun i => (fs.getD i fv0).kr) (fun i => (fs.getD i fv0).ks) (fun i => (fs.getD i fv0).cw) (fun i => (fs.getD i fv0).cr) (fun i => (fs.getD i fv0).cs)
      (fun V h => hcell K hK V h) (fun V h => hcells K hK V h) (fun i => (ss.getD i sp0).eq x y) (fun i hi => (hfs.at_ i (by omega)).es) (fun i hi V hV => (hfs.at_ i (by omega)).sm K hK x y r r' g off h of' hx V hV) V hV
    simp only [spAll, hss]
    exact this

set_option maxHeartbeats 2000000 in
theorem mk_all_P {w W : World} {L : List (Nat × Obj)} (h : Mem w W L) (lb n : Nat) :
    Calls Tryz.prog 119 #[.slice (some ⟨lb, 0, none⟩) n n] W fun e W' => ∃ cb, e = .returned (fvAll_P cb).val ∧ Mem w W' ((cb, .cells #[.slice (some ⟨lb, 0, none⟩) n n] 142 (0, 0)) :: L) := by
  have hM : Mem w (W.alloc (.cells #[.slice (some ⟨lb, 0, none⟩) n n] 142)) ((W.heap.size, .cells #[.slice (some ⟨lb, 0, none⟩) n n] 142 (0, 0)) :: L) := (h.push W.heap.size (.cells #[.slice (some ⟨lb, 0, none⟩) n n] 142 (0, 0)) rfl).perm List.perm_append_comm
  have hmf : ∀ (fn : Fn) (first cap : Array Value) (w : World), (Instr.makeFunc fn first cap).run Tryz.prog w = .ok (.func fn first cap) w := fun _ _ _ _ => rfl
  have HM : Hid (Mem w (W.alloc (.cells #[.slice (some ⟨lb, 0, none⟩) n n] 142)) ((W.heap.size, .cells #[.slice (some ⟨lb, 0, none⟩) n n] 142 (0, 0)) :: L)) := hM
  clear hM h
  go_enter Tryz.func119, Tryz.ntmps119
  go_wp2_with fail
  refine bodyPost_ret (v := (fvAll_P W.heap.size).val) ?_ rfl ⟨_, rfl, HM.out.after ((Below.refl _ _).alloc (Nat.le_refl _) _)⟩
  exact results_cell_row (p := 2) (ty := 109) rfl _ _ (W.heap.size + 1) 109 _ (0, 0) _ rfl (heap_alloc2_new _ _ _) Tryz.underlying109 rfl (by kernel_rfl)
end Go.Proofs.YtbccadbnaggkhaaGreat

namespace Go.Proofs.YtbccadbnaggkhaaGreat
open Go.RowKit
open Sm
open Cf
set_option linter.unusedVariables false
set_option maxRecDepth 20000

def fvCnt_TU (bo : Nat) : Fv := ⟨99, 101, 102, #[.pointer (some ⟨bo, 0, none⟩)], #[.pointer (some ⟨bo, 0, none⟩)], #[.pointer (some ⟨bo, 0, none⟩)]⟩
theorem fd_Cnt_TU {α ρ : Type} {w : World} {L : List (Nat × Obj)} {I : Rp α ρ} {J : St' α} (bo ko o : Nat) (fl : α → Nat) (fs : α → Nat → α)
    (mo : (bo, .cells #[.func (.func ko) #[] #[]] 76 (0, 0)) ∈ L)
    (eo : Ent ko) (ho : ∀ V g off, Calls Tryz.prog ko #[.pointer (some ⟨g, off, none⟩)] V fun e V' => e = .returned (.pointer (some ⟨g, off + o, none⟩)) ∧ V = V')
    (sv : ρ → Value) (hI : ∀ x r V g off, I x r V g off → (∃ a c, sv r = .slice a (fl x) c ∧ fl x ≤ c ∧ c ≤ 9223372036854775807 ∧ (a = none → c = 0)) ∧ V.cell? ⟨g, off + o, none⟩ = some (sv r))
    (hJ : ∀ x g T pre post V K, J w x g T pre post V K → ∃ A M y, Lens w J o x g T pre post V K M A ∧ A[pre.length + o]? = some y ∧
      ∀ m V', m ≤ 255 → CMade_TU w V' g A T (pre.length + o) M m → J w (fs x m) g T pre post V' K) :
    Fd w L I J (fvCnt_TU bo) (spCnt fl fs) := by
  refine ⟨enters_of Tryz.func99 (by kernel_rfl) rfl, enters_of Tryz.func101 (by kernel_rfl) rfl, enters_of Tryz.func102 (by kernel_rfl) rfl, ?_, ?_, ?_⟩
  · intro K hK x r g off hx v l V hO hb
    obtain ⟨⟨a, c, e, h1, h2, h3⟩, -⟩ := hI _ _ _ _ _ (hx V hO.mem)
    exact cwr_TU hO bo ko ⟨g, off, none⟩ ⟨g, off + o, none⟩ a (fl x) c h1 h2 h3 (fun V hV => by rw [mem_box hV (hK _ mo)]; rfl) eo (fun V => ho V g off) (fun V hV => by rw [← e]; exact (hI _ _ _ _ _ (hx V hV)).2) (by simpa [spCnt] using hb)
  · intro K hK x g T pre post a l c V hj hS
    obtain ⟨A, M, y, hl, hA, hset⟩ := hJ x g T pre post V K hj
    have := crd_TU hl.mem hS bo ko (pre.length + o) ⟨g, pre.length, none⟩ y hA (fun V hV => by rw [mem_box hV (hl.sub _ (hK _ mo))]; rfl) eo (fun V => ho V g pre.length)
    refine this.mono ?_
    intro e V' hR
    refine hR.mono2 (fs x) ?_ (hl.back V') (fun m l' hm hc => ?_)
    · cases l <;> rfl
    · cases l with
      | nil => cases hm
      | cons b r =>
        simp only [Option.some.injEq, Prod.mk.injEq] at hm
        obtain ⟨rfl, rfl⟩ := hm
        have := hS.row.bytes 0
        simp only [List.getD_cons_zero] at this
        exact hset _ V' (by omega) hc
  · intro K hK x y r r' g off h of' hx V hV
    obtain ⟨⟨a, c, e, h1, h2, h3⟩, -⟩ := hI _ _ _ _ _ (hx V hV).1
    obtain ⟨⟨a', c', e', h1', h2', h3'⟩, -⟩ := hI _ _ _ _ _ (hx V hV).2
    exact csm_TU hV bo ko ⟨g, off, none⟩ ⟨g, off + o, none⟩ ⟨h, of', none⟩ ⟨h, of' + o, none⟩ a a' (fl x) (fl y) c c' (fun V hV => by rw [mem_box hV (hK _ mo)]; rfl) eo (fun V => ho V g off) (fun V => ho V h of') (fun V hV => by rw [← e]; exact (hI _ _ _ _ _ (hx V hV).1).2) (fun V hV => by rw [← e']; exact (hI _ _ _ _ _ (hx V hV).2).2)
set_option maxHeartbeats 2000000 in
theorem mk_Cnt_TU {w W : World} {L : List (Nat × Obj)} (h : Mem w W L) (ko : Nat) :
    Calls Tryz.prog 60 #[.func (.func ko) #[] #[]] W fun e W' => ∃ bo, e = .returned (fvCnt_TU bo).val ∧ Mem w W' ((bo, .cells #[.func (.func ko) #[] #[]] 76 (0, 0)) :: L) := by
  have hM : Mem w (W.alloc (.cells #[.func (.func ko) #[] #[]] 76)) ((W.heap.size, .cells #[.func (.func ko) #[] #[]] 76 (0, 0)) :: L) := (h.push W.heap.size (.cells #[.func (.func ko) #[] #[]] 76 (0, 0)) rfl).perm List.perm_append_comm
  have hmf : ∀ (fn : Fn) (first cap : Array Value) (w : World), (Instr.makeFunc fn first cap).run Tryz.prog w = .ok (.func fn first cap) w := fun _ _ _ _ => rfl
  have HM : Hid (Mem w (W.alloc (.cells #[.func (.func ko) #[] #[]] 76)) ((W.heap.size, .cells #[.func (.func ko) #[] #[]] 76 (0, 0)) :: L)) := hM
  clear hM h
  go_enter Tryz.func60, Tryz.ntmps60
  go_wp2_with fail
  refine bodyPost_ret (v := (fvCnt_TU W.heap.size).val) ?_ rfl ⟨_, rfl, HM.out.after ((Below.refl _ _).alloc (Nat.le_refl _) _)⟩
  exact results_cell_row (p := 2) (ty := 70) rfl _ _ (W.heap.size + 1) 70 _ (0, 0) _ rfl (heap_alloc2_new _ _ _) Tryz.underlying70 rfl (by kernel_rfl)
end Go.Proofs.YtbccadbnaggkhaaGreat

namespace Go.Proofs.YtbccadbnaggkhaaGreat
open Go.RowKit
open Sm
open Cf
set_option linter.unusedVariables false
set_option maxRecDepth 20000

def fvTxt_T (bo : Nat) : Fv := ⟨80, 81, 83, #[.pointer (some ⟨bo, 0, none⟩)], #[.pointer (some ⟨bo, 0, none⟩)], #[.pointer (some ⟨bo, 0, none⟩)]⟩
theorem fd_Txt_T {α ρ : Type} {w : World} {L : List (Nat × Obj)} {I : Rp α ρ} {J : St' α} (bo ko o : Nat) (fg : α → ByteArray) (fs : α → ByteArray → α)
    (mo : (bo, .cells #[.func (.func ko) #[] #[]] 82 (0, 0)) ∈ L)
    (eo : Ent ko) (ho : ∀ V g off, Calls Tryz.prog ko #[.pointer (some ⟨g, off, none⟩)] V fun e V' => e = .returned (.pointer (some ⟨g, off + o, none⟩)) ∧ V = V')
    (hI : ∀ x r V g off, I x r V g off → (fg x).size ≤ 140737488351232 ∧ V.cell? ⟨g, off + o, none⟩ = some (.string (fg x)))
    (hJ : ∀ x g T pre post V K, J w x g T pre post V K → ∃ A M, Lens w J o x g T pre post V K M A ∧ A[pre.length + o]? = some (.string (fg x)) ∧
      ∀ y V', Mem w V' ((g, .cells (A.setIfInBounds (pre.length + o) (.string y)) T (0, 0)) :: M) → J w (fs x y) g T pre post V' K) :
    Fd w L I J (fvTxt_T bo) (spTxt fg fs) := by
  refine ⟨enters_of Tryz.func80 (by kernel_rfl) rfl, enters_of Tryz.func81 (by kernel_rfl) rfl, enters_of Tryz.func83 (by kernel_rfl) rfl, ?_, ?_, ?_⟩
  · intro K hK x r g off hx v l V hO hb
    exact twr_T hO bo ko ⟨g, off, none⟩ ⟨g, off + o, none⟩ (fg x) (hI _ _ _ _ _ (hx V hO.mem)).1 (fun V hV => by rw [mem_box hV (hK _ mo)]; rfl) eo (fun V => ho V g off) (fun V hV => (hI _ _ _ _ _ (hx V hV)).2) hb
  · intro K hK x g T pre post a l c V hj hS
    obtain ⟨A, M, hl, hA, hset⟩ := hJ x g T pre post V K hj
    have := trd_T hl.mem hS bo ko (pre.length + o) ⟨g, pre.length, none⟩ (fg x) hA (fun V hV => by rw [mem_box hV (hl.sub _ (hK _ mo))]; rfl) eo (fun V => ho V g pre.length)
    refine this.mono ?_
    intro e V' hR
    exact hR.mono (fs x) rfl (hl.back V') (fun y hy => hset y V' hy)
  · intro K hK x y r r' g off h of' hx V hV
    exact tsm_T hV bo ko ⟨g, off, none⟩ ⟨g, off + o, none⟩ ⟨h, of', none⟩ ⟨h, of' + o, none⟩ (fg x) (fg y) (fun V hV => by rw [mem_box hV (hK _ mo)]; rfl) eo (fun V => ho V g off) (fun V => ho V h of') (fun V hV => (hI _ _ _ _ _ (hx V hV).1).2) (fun V hV => (hI _ _ _ _ _ (hx V hV).2).2)
set_option maxHeartbeats 2000000 in
theorem mk_Txt_T {w W : World} {L : List (Nat × Obj)} (h : Mem w W L) (ko : Nat) :
    Calls Tryz.prog 42 #[.func (.func ko) #[] #[]] W fun e W' => ∃ bo, e = .returned (fvTxt_T bo).val ∧ Mem w W' ((bo, .cells #[.func (.func ko) #[] #[]] 82 (0, 0)) :: L) := by
  have hM : Mem w (W.alloc (.cells #[.func (.func ko) #[] #[]] 82)) ((W.heap.size, .cells #[.func (.func ko) #[] #[]] 82 (0, 0)) :: L) := (h.push W.heap.size (.cells #[.func (.func ko) #[] #[]] 82 (0, 0)) rfl).perm List.perm_append_comm
  have hmf : ∀ (fn : Fn) (first cap : Array Value) (w : World), (Instr.makeFunc fn first cap).run Tryz.prog w = .ok (.func fn first cap) w := fun _ _ _ _ => rfl
  have HM : Hid (Mem w (W.alloc (.cells #[.func (.func ko) #[] #[]] 82)) ((W.heap.size, .cells #[.func (.func ko) #[] #[]] 82 (0, 0)) :: L)) := hM
  clear hM h
  go_enter Tryz.func42, Tryz.ntmps42
  go_wp2_with fail
  refine bodyPost_ret (v := (fvTxt_T W.heap.size).val) ?_ rfl ⟨_, rfl, HM.out.after ((Below.refl _ _).alloc (Nat.le_refl _) _)⟩
  exact results_cell_row (p := 2) (ty := 70) rfl _ _ (W.heap.size + 1) 70 _ (0, 0) _ rfl (heap_alloc2_new _ _ _) Tryz.underlying70 rfl (by kernel_rfl)
end Go.Proofs.YtbccadbnaggkhaaGreat

namespace Go.Proofs.YtbccadbnaggkhaaGreat
open Go.RowKit
open Sm
open Cf
set_option linter.unusedVariables false
set_option maxRecDepth 20000

def fvAll_T (cb : Nat) : Fv := ⟨77, 78, 79, #[.pointer (some ⟨cb, 0, none⟩)], #[.pointer (some ⟨cb, 0, none⟩)], #[.pointer (some ⟨cb, 0, none⟩)]⟩
theorem fd_all_T {α ρ : Type} {w : World} {L : List (Nat × Obj)} {I : Rp α ρ} {J : St' α} (cb lb n : Nat) (fs : List Fv) (ss : List (Sp α)) (hn : fs.length = n) (hn2 : n ≤ 1000)
    (mc : (cb, .cells #[.slice (some ⟨lb, 0, none⟩) n n] 111 (0, 0)) ∈ L) (ml : (lb, .cells (fs.flatMap Fv.cells).toArray 70 (0, 0)) ∈ L)
    (hfs : FdAll w L I J fs ss) (hst : ∀ x g T pre post V V' K, J w x g T pre post V K → Below V.heap.size V V' → J w x g T pre post V' K) (hJM : ∀ x g T pre post V K, J w x g T pre post V K → Mem w V K) :
    Fd w L I J (fvAll_T cb) (spAll ss) := by
  have hss : ss.length = n := by rw [← hfs.len]; exact hn
  have hcell : ∀ K, Sub L K → ∀ V, Mem w V K → V.cell? ⟨cb, 0, none⟩ = some (.slice (some ⟨lb, 0, none⟩) n n) := fun K hK V hV => by rw [mem_box hV (hK _ mc)]; rfl
  have hcells : ∀ K, Sub L K → ∀ V, Mem w V K → ∀ i, i < n → V.cell? ⟨lb, i * 3, none⟩ = some (.func (.func (fs.getD i fv0).kw) #[] (fs.getD i fv0).cw) ∧
      V.cell? ⟨lb, i * 3 + 1, none⟩ = some (.func (.func (fs.getD i fv0).kr) #[] (fs.getD i fv0).cr) ∧ V.cell? ⟨lb, i * 3 + 2, none⟩ = some (.func (.func (fs.getD i fv0).ks) #[] (fs.getD i fv0).cs) := by
    intro K hK V hV i hi
    obtain ⟨h1, h2, h3⟩ := flat_get fs i (by omega)
    refine ⟨?_, ?_, ?_⟩
    · rw [mem_box hV (hK _ ml)]; simpa using h1
    · rw [mem_box hV (hK _ ml)]; simpa using h2
    · rw [mem_box hV (hK _ ml)]; simpa using h3
  refine ⟨enters_of Tryz.func77 (by kernel_rfl) rfl, enters_of Tryz.func78 (by kernel_rfl) rfl, enters_of Tryz.func79 (by kernel_rfl) rfl, ?_, ?_, ?_⟩
  · intro K hK x r g off hx v l V hO hb
    have := awr_T (H := fun v l V => Out w V v l K) (fun v l V V' h hB => h.after hB) ⟨g, off, none⟩ cb lb n hn2 (fun i => (fs.getD i fv0).kw) (fun i => (fs.getD i fv0).kr) (fun i => (fs.getD i fv0).ks) (fun i => (fs.getD i fv0).cw) (fun i => (fs.getD i fv0).cr) (fun i => (fs.getD i fv0).cs)
      (fun v l V h => hcell K hK V h.mem) (fun v l V h => hcells K hK V h.mem) (fun i => (ss.getD i sp0).enc x) (fun i hi => (hfs.at_ i (by omega)).ew) (fun i hi v l V h hb => (hfs.at_ i (by omega)).wr K hK x r g off hx v l V h hb) v l V hO (by simp only [spAll, hss] at hb; exact hb)
    simp only [spAll, hss]
    exact this
  · intro K hK x g T pre post a l c V hj hS
    have := ard_T (w := w) (L := K) (J := fun y V => J w y g T pre post V K) (fun y V V' h hB => hst y g T pre post V V' K h hB) ⟨g, pre.length, none⟩ cb lb n hn2 (fun i => (fs.getD i fv0).kw) (fun i => (fs.getD i fv0).kr) (fun i => (fs.getD i fv0).ks) (fun i => (fs.getD i fv0).cw) (fun i => (fs.getD i fv0).cr) (fun i => (fs.getD i fv0).cs)
      (fun y V h => hcell K hK V (hJM _ _ _ _ _ _ _ h)) (fun y V h => hcells K hK V (hJM _ _ _ _ _ _ _ h)) (fun i => (ss.getD i sp0).dec) (fun i hi => (hfs.at_ i (by omega)).er) (fun i hi y l a c V h hS => (hfs.at_ i (by omega)).rd K hK y g T pre post a l c V h hS) x l a c V hj hS
    simp only [spAll, hss]
    exact this
  · intro K hK x y r r' g off h of' hx V hV
    have := asm_T (M := fun V => Mem w V K) (fun V V' h hB => h.after hB) ⟨g, off, none⟩ ⟨h, of', none⟩ cb lb n hn2 (fun i => (fs.getD i fv0).kw) (fun i => (fs.getD i fv0).kr) (fun i => (fs.getD i fv0).ks) (fun i => (fs.getD i fv0).cw) (fun i => (fs.getD i fv0).cr) (fun i => (fs.getD i fv0).cs)
      (fun V h => hcell K hK V h) (fun V h => hcells K hK V h) (fun i => (ss.getD i sp0).eq x y) (fun i hi => (hfs.at_ i (by omega)).es) (fun i hi V hV => (hfs.at_ i (by omega)).sm K hK x y r r' g off h of' hx V hV) V hV
    simp only [spAll, hss]
    exact this

set_option maxHeartbeats 2000000 in
theorem mk_all_T {w W : World} {L : List (Nat × Obj)} (h : Mem w W L) (lb n : Nat) :
    Calls Tryz.prog 41 #[.slice (some ⟨lb, 0, none⟩) n n] W fun e W' => ∃ cb, e = .returned (fvAll_T cb).val ∧ Mem w W' ((cb, .cells #[.slice (some ⟨lb, 0, none⟩) n n] 111 (0, 0)) :: L) := by
  have hM : Mem w (W.alloc (.cells #[.slice (some ⟨lb, 0, none⟩) n n] 111)) ((W.heap.size, .cells #[.slice (some ⟨lb, 0, none⟩) n n] 111 (0, 0)) :: L) := (h.push W.heap.size (.cells #[.slice (some ⟨lb, 0, none⟩) n n] 111 (0, 0)) rfl).perm List.perm_append_comm
  have hmf : ∀ (fn : Fn) (first cap : Array Value) (w : World), (Instr.makeFunc fn first cap).run Tryz.prog w = .ok (.func fn first cap) w := fun _ _ _ _ => rfl
  have HM : Hid (Mem w (W.alloc (.cells #[.slice (some ⟨lb, 0, none⟩) n n] 111)) ((W.heap.size, .cells #[.slice (some ⟨lb, 0, none⟩) n n] 111 (0, 0)) :: L)) := hM
  clear hM h
  go_enter Tryz.func41, Tryz.ntmps41
  go_wp2_with fail
  refine bodyPost_ret (v := (fvAll_T W.heap.size).val) ?_ rfl ⟨_, rfl, HM.out.after ((Below.refl _ _).alloc (Nat.le_refl _) _)⟩
  exact results_cell_row (p := 2) (ty := 70) rfl _ _ (W.heap.size + 1) 70 _ (0, 0) _ rfl (heap_alloc2_new _ _ _) Tryz.underlying70 rfl (by kernel_rfl)
end Go.Proofs.YtbccadbnaggkhaaGreat

namespace Go.Proofs.YtbccadbnaggkhaaGreat
open Go.RowKit
open Sm
open Cf
set_option linter.unusedVariables false
set_option maxRecDepth 20000

def fvOct_T (bo : Nat) : Fv := ⟨89, 90, 91, #[.pointer (some ⟨bo, 0, none⟩)], #[.pointer (some ⟨bo, 0, none⟩)], #[.pointer (some ⟨bo, 0, none⟩)]⟩
theorem fd_Oct_T {α ρ : Type} {w : World} {L : List (Nat × Obj)} {I : Rp α ρ} {J : St' α} (bo n ko o : Nat) (hn : n ≤ 8) (hn0 : 0 < n) (fg : α → List Int) (fs : α → List Int → α)
    (mo : (bo, .cells #[.func (.func ko) #[] #[]] 88 (0, 0)) ∈ L)
    (eo : Ent ko) (ho : ∀ V g off, Calls Tryz.prog ko #[.pointer (some ⟨g, off, none⟩)] V fun e V' => e = .returned (.slice (some ⟨g, off + o, none⟩) n n) ∧ V = V')
    (hI : ∀ x r V g off, I x r V g off → (fg x).length = n ∧ Row V (some ⟨g, off + o, none⟩) (fg x))
    (hJ : ∀ x g T pre post V K, J w x g T pre post V K → ∃ A M, Lens w J o x g T pre post V K M A ∧ pre.length + o + n ≤ A.size ∧
      ∀ y V', y.length = n → IsBytes y → Mem w V' ((g, .cells (spl A (pre.length + o) y) T (0, 0)) :: M) → J w (fs x y) g T pre post V' K) :
    Fd w L I J (fvOct_T bo) (spOct n fg fs) := by
  refine ⟨enters_of Tryz.func89 (by kernel_rfl) rfl, enters_of Tryz.func90 (by kernel_rfl) rfl, enters_of Tryz.func91 (by kernel_rfl) rfl, ?_, ?_, ?_⟩
  · intro K hK x r g off hx v l V hO hb
    obtain ⟨hl, -⟩ := hI _ _ _ _ _ (hx V hO.mem)
    exact owr_T hO bo ko n ⟨g, off, none⟩ ⟨g, off + o, none⟩ (fg x) hl (fun V hV => by rw [mem_box hV (hK _ mo)]; rfl) eo (fun V => ho V g off) (fun V hV => (hI _ _ _ _ _ (hx V hV)).2) (by rw [← hl]; exact hb)
  · intro K hK x g T pre post a l c V hj hS
    obtain ⟨A, M, hl, hA, hset⟩ := hJ x g T pre post V K hj
    have := ord_T hl.mem hS bo n ko (pre.length + o) ⟨g, pre.length, none⟩ hn hn0 hA (fun V hV => by rw [mem_box hV (hl.sub _ (hK _ mo))]; rfl) eo (fun V => ho V g pre.length)
    refine this.mono ?_
    intro e V' hR
    refine hR.mono2 (fs x) ?_ (hl.back V') (fun y l' hy hm => ?_)
    · simp only [spOct]
      split <;> rfl
    · by_cases hlt : l.length < n
      · rw [if_pos hlt] at hy; cases hy
      · rw [if_neg hlt] at hy
        simp only [Option.some.injEq, Prod.mk.injEq] at hy
        obtain ⟨rfl, rfl⟩ := hy
        exact hset _ V' (by rw [List.length_take]; omega) (bytes_tk hS.row.bytes n) hm
  · intro K hK x y r r' g off h of' hx V hV
    obtain ⟨hl, -⟩ := hI _ _ _ _ _ (hx V hV).1
    obtain ⟨hl2, -⟩ := hI _ _ _ _ _ (hx V hV).2
    exact osm_T hV bo ko n ⟨g, off, none⟩ ⟨g, off + o, none⟩ ⟨h, of', none⟩ ⟨h, of' + o, none⟩ (fg x) (fg y) hl hl2 (fun V hV => by rw [mem_box hV (hK _ mo)]; rfl) eo (fun V => ho V g off) (fun V => ho V h of') (fun V hV => (hI _ _ _ _ _ (hx V hV).1).2) (fun V hV => (hI _ _ _ _ _ (hx V hV).2).2)
set_option maxHeartbeats 2000000 in
theorem mk_Oct_T {w W : World} {L : List (Nat × Obj)} (h : Mem w W L) (ko : Nat) :
    Calls Tryz.prog 46 #[.func (.func ko) #[] #[]] W fun e W' => ∃ bo, e = .returned (fvOct_T bo).val ∧ Mem w W' ((bo, .cells #[.func (.func ko) #[] #[]] 88 (0, 0)) :: L) := by
  have hM : Mem w (W.alloc (.cells #[.func (.func ko) #[] #[]] 88)) ((W.heap.size, .cells #[.func (.func ko) #[] #[]] 88 (0, 0)) :: L) := (h.push W.heap.size (.cells #[.func (.func ko) #[] #[]] 88 (0, 0)) rfl).perm List.perm_append_comm
  have hmf : ∀ (fn : Fn) (first cap : Array Value) (w : World), (Instr.makeFunc fn first cap).run Tryz.prog w = .ok (.func fn first cap) w := fun _ _ _ _ => rfl
  have HM : Hid (Mem w (W.alloc (.cells #[.func (.func ko) #[] #[]] 88)) ((W.heap.size, .cells #[.func (.func ko) #[] #[]] 88 (0, 0)) :: L)) := hM
  clear hM h
  go_enter Tryz.func46, Tryz.ntmps46
  go_wp2_with fail
  refine bodyPost_ret (v := (fvOct_T W.heap.size).val) ?_ rfl ⟨_, rfl, HM.out.after ((Below.refl _ _).alloc (Nat.le_refl _) _)⟩
  exact results_cell_row (p := 2) (ty := 70) rfl _ _ (W.heap.size + 1) 70 _ (0, 0) _ rfl (heap_alloc2_new _ _ _) Tryz.underlying70 rfl (by kernel_rfl)
end Go.Proofs.YtbccadbnaggkhaaGreat

namespace Go.Proofs.YtbccadbnaggkhaaGreat
open Go.RowKit
open Sm
open Cf
set_option linter.unusedVariables false
set_option maxRecDepth 20000

end Go.Proofs.YtbccadbnaggkhaaGreat

namespace Go.Proofs.YtbccadbnaggkhaaGreat
open Go.RowKit
open Sm
open Cf
set_option linter.unusedVariables false
set_option maxRecDepth 20000

end Go.Proofs.YtbccadbnaggkhaaGreat

namespace Go.Proofs.YtbccadbnaggkhaaGreat
open Go.RowKit
open Sm
open Cf
set_option linter.unusedVariables false
set_option maxRecDepth 20000

end Go.Proofs.YtbccadbnaggkhaaGreat

