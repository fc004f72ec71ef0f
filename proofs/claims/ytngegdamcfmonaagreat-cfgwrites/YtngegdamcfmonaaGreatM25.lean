/-
  Settings as bytes: the field of a list's length keeps what is asked of a field.
  Settings as bytes: the field of a text keeps what is asked of a field.
-/
import Derived.Test.YtngegdamcfmonaaGreatM17
import Derived.Test.YtngegdamcfmonaaGreatM11
namespace Go.Proofs.YtngegdamcfmonaaGreat
open Go.RowKit
open Sm
open Cf
set_option linter.unusedVariables false
set_option maxRecDepth 20000

def fvCnt_TU (bo : Nat) : Fv := ⟨133, 135, 136, #[.pointer (some ⟨bo, 0, none⟩)], #[.pointer (some ⟨bo, 0, none⟩)], #[.pointer (some ⟨bo, 0, none⟩)]⟩
theorem fd_Cnt_TU {α ρ : Type} {w : World} {L : List (Nat × Obj)} {I : Rp α ρ} {J : St' α} (bo ko o : Nat) (fl : α → Nat) (fs : α → Nat → α)
    (mo : (bo, .cells #[.func (.func ko) #[] #[]] 122 (0, 0)) ∈ L)
    (eo : Ent ko) (ho : ∀ V g off, Calls Tryz.prog ko #[.pointer (some ⟨g, off, none⟩)] V fun e V' => e = .returned (.pointer (some ⟨g, off + o, none⟩)) ∧ V = V')
    (sv : ρ → Value) (hI : ∀ x r V g off, I x r V g off → (∃ a c, sv r = .slice a (fl x) c ∧ fl x ≤ c ∧ c ≤ 9223372036854775807 ∧ (a = none → c = 0)) ∧ V.cell? ⟨g, off + o, none⟩ = some (sv r))
    (hJ : ∀ x g T pre post V K, J w x g T pre post V K → ∃ A M y, Lens w J o x g T pre post V K M A ∧ A[pre.length + o]? = some y ∧
      ∀ m V', m ≤ 255 → CMade_TU w V' g A T (pre.length + o) M m → J w (fs x m) g T pre post V' K) :
    Fd w L I J (fvCnt_TU bo) (spCnt fl fs) := by
  refine ⟨enters_of Tryz.func133 (by kernel_rfl) rfl, enters_of Tryz.func135 (by kernel_rfl) rfl, enters_of Tryz.func136 (by kernel_rfl) rfl, ?_, ?_, ?_⟩
  · intro K hK x r g off hx v l V hO hb
    obtain ⟨⟨a, c, e, h1, h2, h3⟩, -⟩ := hI _ _ _ _ _ (hx V hO.mem)
    exact cwr_TU hO bo ko ⟨g, off, none⟩ ⟨g, off + o, none⟩ a (fl x) c h1 h2 h3 (fun V hV => by rw [mem_box hV (hK _ mo)]; rfl) eo (fun V => ho V g off) (fun V hV => by rw [← e]; exact (hI _ _ _ _ _ (hx V hV)).2) (by simpa [spCnt] using hb)
  · intro K hK x g T pre post a l c V hj hS
    obtain ⟨A, M, y, hl, hA, hset⟩ := hJ x g T pre post V K hj
    have := crd_TU hl.mem hS bo ko (pre.length + o) ⟨g, pre.length, none⟩ y hA (fun V hV => by rw [mem_box hV (hl.sub _ (hK _ mo))]; rfl) eo (fun V => ho V g pre.length)
    refine this.mono ?_
    intro e V' hR
    refine hR.mono2 (fs x) ?_ (hl.back V') (fun m l' hm hc => ?_)
    · cases l <;> rfl
    · cases l with
      | nil => cases hm
      | cons b r =>
        simp only [Option.some.injEq, Prod.mk.injEq] at hm
        obtain ⟨rfl, rfl⟩ := hm
        have := hS.row.bytes 0
        simp only [List.getD_cons_zero] at this
        exact hset _ V' (by omega) hc
  · intro K hK x y r r' g off h of' hx V hV
    obtain ⟨⟨a, c, e, h1, h2, h3⟩, -⟩ := hI _ _ _ _ _ (hx V hV).1
    obtain ⟨⟨a', c', e', h1', h2', h3'⟩, -⟩ := hI _ _ _ _ _ (hx V hV).2
    exact csm_TU hV bo ko ⟨g, off, none⟩ ⟨g, off + o, none⟩ ⟨h, of', none⟩ ⟨h, of' + o, none⟩ a a' (fl x) (fl y) c c' (fun V hV => by rw [mem_box hV (hK _ mo)]; rfl) eo (fun V => ho V g off) (fun V => ho V h of') (fun V hV => by rw [← e]; exact (hI _ _ _ _ _ (hx V hV).1).2) (fun V hV => by rw [← e']; exact (hI _ _ _ _ _ (hx V hV).2).2)
set_option maxHeartbeats 2000000 in
/-- The field is made. -/
theorem mk_Cnt_TU {w W : World} {L : List (Nat × Obj)} (h : Mem w W L) (ko : Nat) :
    Calls Tryz.prog 83 #[.func (.func ko) #[] #[]] W fun e W' => ∃ bo, e = .returned (fvCnt_TU bo).val ∧ Mem w W' ((bo, .cells #[.func (.func ko) #[] #[]] 122 (0, 0)) :: L) := by
  have hM : Mem w (W.alloc (.cells #[.func (.func ko) #[] #[]] 122)) ((W.heap.size, .cells #[.func (.func ko) #[] #[]] 122 (0, 0)) :: L) := (h.push W.heap.size (.cells #[.func (.func ko) #[] #[]] 122 (0, 0)) rfl).perm List.perm_append_comm
  have hmf : ∀ (fn : Fn) (first cap : Array Value) (w : World), (Instr.makeFunc fn first cap).run Tryz.prog w = .ok (.func fn first cap) w := fun _ _ _ _ => rfl
  have HM : Hid (Mem w (W.alloc (.cells #[.func (.func ko) #[] #[]] 122)) ((W.heap.size, .cells #[.func (.func ko) #[] #[]] 122 (0, 0)) :: L)) := hM
  clear hM h
  go_enter Tryz.func83, Tryz.ntmps83
  go_wp2_with fail
  refine bodyPost_ret (v := (fvCnt_TU W.heap.size).val) ?_ rfl ⟨_, rfl, HM.out.after ((Below.refl _ _).alloc (Nat.le_refl _) _)⟩
  exact results_cell_row (p := 2) (ty := 79) rfl _ _ (W.heap.size + 1) 79 _ (0, 0) _ rfl (heap_alloc2_new _ _ _) Tryz.underlying79 rfl (by kernel_rfl)
end Go.Proofs.YtngegdamcfmonaaGreat

namespace Go.Proofs.YtngegdamcfmonaaGreat
open Go.RowKit
open Sm
open Cf
set_option linter.unusedVariables false
set_option maxRecDepth 20000

def fvTxt_H (bo : Nat) : Fv := ⟨157, 158, 159, #[.pointer (some ⟨bo, 0, none⟩)], #[.pointer (some ⟨bo, 0, none⟩)], #[.pointer (some ⟨bo, 0, none⟩)]⟩
theorem fd_Txt_H {α ρ : Type} {w : World} {L : List (Nat × Obj)} {I : Rp α ρ} {J : St' α} (bo ko o : Nat) (fg : α → ByteArray) (fs : α → ByteArray → α)
    (mo : (bo, .cells #[.func (.func ko) #[] #[]] 159 (0, 0)) ∈ L)
    (eo : Ent ko) (ho : ∀ V g off, Calls Tryz.prog ko #[.pointer (some ⟨g, off, none⟩)] V fun e V' => e = .returned (.pointer (some ⟨g, off + o, none⟩)) ∧ V = V')
    (hI : ∀ x r V g off, I x r V g off → (fg x).size ≤ 140737488351232 ∧ V.cell? ⟨g, off + o, none⟩ = some (.string (fg x)))
    (hJ : ∀ x g T pre post V K, J w x g T pre post V K → ∃ A M, Lens w J o x g T pre post V K M A ∧ A[pre.length + o]? = some (.string (fg x)) ∧
      ∀ y V', Mem w V' ((g, .cells (A.setIfInBounds (pre.length + o) (.string y)) T (0, 0)) :: M) → J w (fs x y) g T pre post V' K) :
    Fd w L I J (fvTxt_H bo) (spTxt fg fs) := by
  refine ⟨enters_of Tryz.func157 (by kernel_rfl) rfl, enters_of Tryz.func158 (by kernel_rfl) rfl, enters_of Tryz.func159 (by kernel_rfl) rfl, ?_, ?_, ?_⟩
  · intro K hK x r g off hx v l V hO hb
    exact twr_H hO bo ko ⟨g, off, none⟩ ⟨g, off + o, none⟩ (fg x) (hI _ _ _ _ _ (hx V hO.mem)).1 (fun V hV => by rw [mem_box hV (hK _ mo)]; rfl) eo (fun V => ho V g off) (fun V hV => (hI _ _ _ _ _ (hx V hV)).2) hb
  · intro K hK x g T pre post a l c V hj hS
    obtain ⟨A, M, hl, hA, hset⟩ := hJ x g T pre post V K hj
    have := trd_H hl.mem hS bo ko (pre.length + o) ⟨g, pre.length, none⟩ (fg x) hA (fun V hV => by rw [mem_box hV (hl.sub _ (hK _ mo))]; rfl) eo (fun V => ho V g pre.length)
    refine this.mono ?_
    intro e V' hR
    exact hR.mono (fs x) rfl (hl.back V') (fun y hy => hset y V' hy)
  · intro K hK x y r r' g off h of' hx V hV
    exact tsm_H hV bo ko ⟨g, off, none⟩ ⟨g, off + o, none⟩ ⟨h, of', none⟩ ⟨h, of' + o, none⟩ (fg x) (fg y) (fun V hV => by rw [mem_box hV (hK _ mo)]; rfl) eo (fun V => ho V g off) (fun V => ho V h of') (fun V hV => (hI _ _ _ _ _ (hx V hV).1).2) (fun V hV => (hI _ _ _ _ _ (hx V hV).2).2)
set_option maxHeartbeats 2000000 in
/-- The field is made. -/
theorem mk_Txt_H {w W : World} {L : List (Nat × Obj)} (h : Mem w W L) (ko : Nat) :
    Calls Tryz.prog 89 #[.func (.func ko) #[] #[]] W fun e W' => ∃ bo, e = .returned (fvTxt_H bo).val ∧ Mem w W' ((bo, .cells #[.func (.func ko) #[] #[]] 159 (0, 0)) :: L) := by
  have hM : Mem w (W.alloc (.cells #[.func (.func ko) #[] #[]] 159)) ((W.heap.size, .cells #[.func (.func ko) #[] #[]] 159 (0, 0)) :: L) := (h.push W.heap.size (.cells #[.func (.func ko) #[] #[]] 159 (0, 0)) rfl).perm List.perm_append_comm
  have hmf : ∀ (fn : Fn) (first cap : Array Value) (w : World), (Instr.makeFunc fn first cap).run Tryz.prog w = .ok (.func fn first cap) w := fun _ _ _ _ => rfl
  have HM : Hid (Mem w (W.alloc (.cells #[.func (.func ko) #[] #[]] 159)) ((W.heap.size, .cells #[.func (.func ko) #[] #[]] 159 (0, 0)) :: L)) := hM
  clear hM h
  go_enter Tryz.func89, Tryz.ntmps89
  go_wp2_with fail
  refine bodyPost_ret (v := (fvTxt_H W.heap.size).val) ?_ rfl ⟨_, rfl, HM.out.after ((Below.refl _ _).alloc (Nat.le_refl _) _)⟩
  exact results_cell_row (p := 2) (ty := 86) rfl _ _ (W.heap.size + 1) 86 _ (0, 0) _ rfl (heap_alloc2_new _ _ _) Tryz.underlying86 rfl (by kernel_rfl)
end Go.Proofs.YtngegdamcfmonaaGreat

