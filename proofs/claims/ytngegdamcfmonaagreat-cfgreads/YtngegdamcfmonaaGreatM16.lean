/-
  Settings as bytes: the field of a list's length keeps what is asked of a field.
  Settings as bytes: the field of a number keeps what is asked of a field (lych/api.Tenant, uint16).
  Settings as bytes: the field of an array of bytes keeps what is asked of a field.
  Settings as bytes: the field of a list's length keeps what is asked of a field.
-/
import Derived.Test.YtngegdamcfmonaaGreatM09
import Derived.Test.YtngegdamcfmonaaGreatM10
import Derived.Test.YtngegdamcfmonaaGreatM06
import Derived.Test.YtngegdamcfmonaaGreatM05
namespace Go.Proofs.YtngegdamcfmonaaGreat
open Go.RowKit
open Sm
open Cf
set_option linter.unusedVariables false
set_option maxRecDepth 20000

def fvCnt_TU (bo : Nat) : Fv := ⟨133, 135, 136, #[.pointer (some ⟨bo, 0, none⟩)], #[.pointer (some ⟨bo, 0, none⟩)], #[.pointer (some ⟨bo, 0, none⟩)]⟩
theorem fd_Cnt_TU {α ρ : Type} {w : World} {L : List (Nat × Obj)} {I : Rp α ρ} {J : St' α} (bo ko o : Nat) (fl : α → Nat) (fs : α → Nat → α)
    (mo : (bo, .cells #[.func (.func ko) #[] #[]] 122 (0, 0)) ∈ L)
    (eo : Ent ko) (ho : ∀ V g off, Calls Tryz.prog ko #[.pointer (some ⟨g, off, none⟩)] V fun e V' => e = .returned (.pointer (some ⟨g, off + o, none⟩)) ∧ V = V')
    (sv : ρ → Value) (hI : ∀ x r V g off, I x r V g off → (∃ a c, sv r = .slice a (fl x) c ∧ fl x ≤ c ∧ c ≤ 9223372036854775807 ∧ (a = none → c = 0)) ∧ V.cell? ⟨g, off + o, none⟩ = some (sv r))
    (hJ : ∀ x g T pre post V K, J w x g T pre post V K → ∃ A M y, Lens w J o x g T pre post V K M A ∧ A[pre.length + o]? = some y ∧
      ∀ m V', m ≤ 255 → CMade_TU w V' g A T (pre.length + o) M m → J w (fs x m) g T pre post V' K) :
    Fd w L I J (fvCnt_TU bo) (spCnt fl fs) := by
  refine ⟨enters_of Tryz.func133 (by kernel_rfl) rfl, enters_of Tryz.func135 (by kernel_rfl) rfl, enters_of Tryz.func136 (by kernel_rfl) rfl, ?_, ?_, ?_⟩
  · intro K hK x r g off hx v l V hO hb
    obtain ⟨⟨a, c, e, h1, h2, h3⟩, -⟩ := hI _ _ _ _ _ (hx V hO.mem)
    exact cwr_TU hO bo ko ⟨g, off, none⟩ ⟨g, off + o, none⟩ a (fl x) c h1 h2 h3 (fun V hV => by rw [mem_box hV (hK _ mo)]; rfl) eo (fun V => ho V g off) (fun V hV => by rw [← e]; exact (hI _ _ _ _ _ (hx V hV)).2) (by simpa [spCnt] using hb)
  · intro K hK x g T pre post a l c V hj hS
    obtain ⟨A, M, y, hl, hA, hset⟩ := hJ x g T pre post V K hj
    have := crd_TU hl.mem hS bo ko (pre.length + o) ⟨g, pre.length, none⟩ y hA (fun V hV => by rw [mem_box hV (hl.sub _ (hK _ mo))]; rfl) eo (fun V => ho V g pre.length)
    refine this.mono ?_
    intro e V' hR
    refine hR.mono2 (fs x) ?_ (hl.back V') (fun m l' hm hc => ?_)
    · cases l <;> rfl
    · cases l with
      | nil => cases hm
      | cons b r =>
        simp only [Option.some.injEq, Prod.mk.injEq] at hm
        obtain ⟨rfl, rfl⟩ := hm
        have := hS.row.bytes 0
        simp only [List.getD_cons_zero] at this
        exact hset _ V' (by omega) hc
  · intro K hK x y r r' g off h of' hx V hV
    obtain ⟨⟨a, c, e, h1, h2, h3⟩, -⟩ := hI _ _ _ _ _ (hx V hV).1
    obtain ⟨⟨a', c', e', h1', h2', h3'⟩, -⟩ := hI _ _ _ _ _ (hx V hV).2
    exact csm_TU hV bo ko ⟨g, off, none⟩ ⟨g, off + o, none⟩ ⟨h, of', none⟩ ⟨h, of' + o, none⟩ a a' (fl x) (fl y) c c' (fun V hV => by rw [mem_box hV (hK _ mo)]; rfl) eo (fun V => ho V g off) (fun V => ho V h of') (fun V hV => by rw [← e]; exact (hI _ _ _ _ _ (hx V hV).1).2) (fun V hV => by rw [← e']; exact (hI _ _ _ _ _ (hx V hV).2).2)
set_option maxHeartbeats 2000000 in
/-- The field is made. -/
theorem mk_Cnt_TU {w W : World} {L : List (Nat × Obj)} (h : Mem w W L) (ko : Nat) :
    Calls Tryz.prog 83 #[.func (.func ko) #[] #[]] W fun e W' => ∃ bo, e = .returned (fvCnt_TU bo).val ∧ Mem w W' ((bo, .cells #[.func (.func ko) #[] #[]] 122 (0, 0)) :: L) := by
  have hM : Mem w (W.alloc (.cells #[.func (.func ko) #[] #[]] 122)) ((W.heap.size, .cells #[.func (.func ko) #[] #[]] 122 (0, 0)) :: L) := (h.push W.heap.size (.cells #[.func (.func ko) #[] #[]] 122 (0, 0)) rfl).perm List.perm_append_comm
  have hmf : ∀ (fn : Fn) (first cap : Array Value) (w : World), (Instr.makeFunc fn first cap).run Tryz.prog w = .ok (.func fn first cap) w := fun _ _ _ _ => rfl
  have HM : Hid (Mem w (W.alloc (.cells #[.func (.func ko) #[] #[]] 122)) ((W.heap.size, .cells #[.func (.func ko) #[] #[]] 122 (0, 0)) :: L)) := hM
  clear hM h
  go_enter Tryz.func83, Tryz.ntmps83
  go_wp2_with fail
  refine bodyPost_ret (v := (fvCnt_TU W.heap.size).val) ?_ rfl ⟨_, rfl, HM.out.after ((Below.refl _ _).alloc (Nat.le_refl _) _)⟩
  exact results_cell_row (p := 2) (ty := 79) rfl _ _ (W.heap.size + 1) 79 _ (0, 0) _ rfl (heap_alloc2_new _ _ _) Tryz.underlying79 rfl (by kernel_rfl)
end Go.Proofs.YtngegdamcfmonaaGreat

namespace Go.Proofs.YtngegdamcfmonaaGreat
open Go.RowKit
open Sm
open Cf
set_option linter.unusedVariables false
set_option maxRecDepth 20000

def fvNum_TH (bs bo : Nat) : Fv := ⟨127, 128, 129, #[.pointer (some ⟨bs, 0, none⟩), .pointer (some ⟨bo, 0, none⟩)], #[.pointer (some ⟨bs, 0, none⟩), .pointer (some ⟨bo, 0, none⟩)], #[.pointer (some ⟨bo, 0, none⟩)]⟩
theorem fd_num_TH {α ρ : Type} {w : World} {L : List (Nat × Obj)} {I : Rp α ρ} {J : St' α} (bs bo sz ko o : Nat) (hs : sz ≤ 4) (fits : ∀ q, 0 ≤ q → q < 256 ^ sz → IntKind.u16.wrap q = q) (fg : α → Int) (fs : α → Int → α)
    (mb : (bs, .cells #[.int .i64 sz] 3 (0, 0)) ∈ L) (mo : (bo, .cells #[.func (.func ko) #[] #[]] 135 (0, 0)) ∈ L)
    (eo : Ent ko) (ho : ∀ V g off, Calls Tryz.prog ko #[.pointer (some ⟨g, off, none⟩)] V fun e V' => e = .returned (.pointer (some ⟨g, off + o, none⟩)) ∧ V = V')
    (hI : ∀ x r V g off, I x r V g off → V.cell? ⟨g, off + o, none⟩ = some (.int .u16 (fg x)))
    (hJ : ∀ x g T pre post V K, J w x g T pre post V K → ∃ A M, Lens w J o x g T pre post V K M A ∧ A[pre.length + o]? = some (.int .u16 (fg x)) ∧
      ∀ y V', Mem w V' ((g, .cells (A.setIfInBounds (pre.length + o) (.int .u16 y)) T (0, 0)) :: M) → J w (fs x y) g T pre post V' K) :
    Fd w L I J (fvNum_TH bs bo) (spNum sz fg fs) := by
  refine ⟨enters_of Tryz.func127 (by kernel_rfl) rfl, enters_of Tryz.func128 (by kernel_rfl) rfl, enters_of Tryz.func129 (by kernel_rfl) rfl, ?_, ?_, ?_⟩
  · intro K hK x r g off hx v l V hO hb
    have hb' : l.length + sz ≤ 1000000000 := by simpa [spNum, be_len] using hb
    have := nwr_TH hO bs bo sz ko ⟨g, off, none⟩ ⟨g, off + o, none⟩ (fg x) (by omega) (fun V hV => by rw [mem_box hV (hK _ mb)]; rfl) (fun V hV => by rw [mem_box hV (hK _ mo)]; rfl) eo (fun V => ho V g off) (fun V hV => hI _ _ _ _ _ (hx V hV)) hb'
    rw [be_wrap sz (by omega)] at this
    exact this
  · intro K hK x g T pre post a l c V hj hS
    obtain ⟨A, M, hl, hA, hset⟩ := hJ x g T pre post V K hj
    have := nrd_TH hl.mem hS bs bo sz ko (pre.length + o) ⟨g, pre.length, none⟩ (fg x) hs fits hA (fun V hV => by rw [mem_box hV (hl.sub _ (hK _ mb))]; rfl) (fun V hV => by rw [mem_box hV (hl.sub _ (hK _ mo))]; rfl) eo (fun V => ho V g pre.length)
    refine this.mono ?_
    intro e V' hR
    refine hR.mono (fs x) ?_ (hl.back V') (fun y hy => hset y V' hy)
    simp only [spNum]
    split <;> rfl
  · intro K hK x y r r' g off h of' hx V hV
    exact nsm_TH hV bo ko ⟨g, off, none⟩ ⟨g, off + o, none⟩ ⟨h, of', none⟩ ⟨h, of' + o, none⟩ (fg x) (fg y) (fun V hV => by rw [mem_box hV (hK _ mo)]; rfl) eo (fun V => ho V g off) (fun V => ho V h of') (fun V hV => hI _ _ _ _ _ (hx V hV).1) (fun V hV => hI _ _ _ _ _ (hx V hV).2)

set_option maxHeartbeats 2000000 in
/-- The field is made. -/
theorem mk_num_TH {w W : World} {L : List (Nat × Obj)} (h : Mem w W L) (sz ko : Nat) :
    Calls Tryz.prog 74 #[.int .i64 sz, .func (.func ko) #[] #[]] W fun e W' => ∃ bs bo, e = .returned (fvNum_TH bs bo).val ∧ Mem w W' ((bs, .cells #[.int .i64 sz] 3 (0, 0)) :: (bo, .cells #[.func (.func ko) #[] #[]] 135 (0, 0)) :: L) := by
  have hM : Mem w ((W.alloc (.cells #[.int .i64 sz] 3)).alloc (.cells #[.func (.func ko) #[] #[]] 135)) ((W.heap.size, .cells #[.int .i64 sz] 3 (0, 0)) :: (W.heap.size + 1, .cells #[.func (.func ko) #[] #[]] 135 (0, 0)) :: L) := by
    have h1 := (h.push W.heap.size (.cells #[.int .i64 sz] 3 (0, 0)) rfl).push (W.heap.size + 1) (.cells #[.func (.func ko) #[] #[]] 135 (0, 0)) (by simp)
    refine h1.perm ?_
    rw [List.append_assoc]
    exact List.perm_append_comm
  have hmf : ∀ (fn : Fn) (first cap : Array Value) (w : World), (Instr.makeFunc fn first cap).run Tryz.prog w = .ok (.func fn first cap) w := fun _ _ _ _ => rfl
  have HM : Hid (Mem w ((W.alloc (.cells #[.int .i64 sz] 3)).alloc (.cells #[.func (.func ko) #[] #[]] 135)) ((W.heap.size, .cells #[.int .i64 sz] 3 (0, 0)) :: (W.heap.size + 1, .cells #[.func (.func ko) #[] #[]] 135 (0, 0)) :: L)) := hM
  clear hM h
  go_enter Tryz.func74, Tryz.ntmps74
  go_wp2_with fail
  refine bodyPost_ret (v := (fvNum_TH W.heap.size (W.heap.size + 1)).val) ?_ rfl ⟨_, _, rfl, HM.out.after ((Below.refl _ _).alloc (Nat.le_refl _) _)⟩
  exact results_cell_row (p := 4) (ty := 79) rfl _ _ (W.heap.size + 1 + 1) 79 _ (0, 0) _ rfl (heap_alloc3_new _ _ _ _) Tryz.underlying79 rfl (by kernel_rfl)
end Go.Proofs.YtngegdamcfmonaaGreat

namespace Go.Proofs.YtngegdamcfmonaaGreat
open Go.RowKit
open Sm
open Cf
set_option linter.unusedVariables false
set_option maxRecDepth 20000

def fvOct_C (bo : Nat) : Fv := ⟨102, 103, 104, #[.pointer (some ⟨bo, 0, none⟩)], #[.pointer (some ⟨bo, 0, none⟩)], #[.pointer (some ⟨bo, 0, none⟩)]⟩
theorem fd_Oct_C {α ρ : Type} {w : World} {L : List (Nat × Obj)} {I : Rp α ρ} {J : St' α} (bo n ko o : Nat) (hn : n ≤ 8) (hn0 : 0 < n) (fg : α → List Int) (fs : α → List Int → α)
    (mo : (bo, .cells #[.func (.func ko) #[] #[]] 116 (0, 0)) ∈ L)
    (eo : Ent ko) (ho : ∀ V g off, Calls Tryz.prog ko #[.pointer (some ⟨g, off, none⟩)] V fun e V' => e = .returned (.slice (some ⟨g, off + o, none⟩) n n) ∧ V = V')
    (hI : ∀ x r V g off, I x r V g off → (fg x).length = n ∧ Row V (some ⟨g, off + o, none⟩) (fg x))
    (hJ : ∀ x g T pre post V K, J w x g T pre post V K → ∃ A M, Lens w J o x g T pre post V K M A ∧ pre.length + o + n ≤ A.size ∧
      ∀ y V', y.length = n → IsBytes y → Mem w V' ((g, .cells (spl A (pre.length + o) y) T (0, 0)) :: M) → J w (fs x y) g T pre post V' K) :
    Fd w L I J (fvOct_C bo) (spOct n fg fs) := by
  refine ⟨enters_of Tryz.func102 (by kernel_rfl) rfl, enters_of Tryz.func103 (by kernel_rfl) rfl, enters_of Tryz.func104 (by kernel_rfl) rfl, ?_, ?_, ?_⟩
  · intro K hK x r g off hx v l V hO hb
    obtain ⟨hl, -⟩ := hI _ _ _ _ _ (hx V hO.mem)
    exact owr_C hO bo ko n ⟨g, off, none⟩ ⟨g, off + o, none⟩ (fg x) hl (fun V hV => by rw [mem_box hV (hK _ mo)]; rfl) eo (fun V => ho V g off) (fun V hV => (hI _ _ _ _ _ (hx V hV)).2) (by rw [← hl]; exact hb)
  · intro K hK x g T pre post a l c V hj hS
    obtain ⟨A, M, hl, hA, hset⟩ := hJ x g T pre post V K hj
    have := ord_C hl.mem hS bo n ko (pre.length + o) ⟨g, pre.length, none⟩ hn hn0 hA (fun V hV => by rw [mem_box hV (hl.sub _ (hK _ mo))]; rfl) eo (fun V => ho V g pre.length)
    refine this.mono ?_
    intro e V' hR
    refine hR.mono2 (fs x) ?_ (hl.back V') (fun y l' hy hm => ?_)
    · simp only [spOct]
      split <;> rfl
    · by_cases hlt : l.length < n
      · rw [if_pos hlt] at hy; cases hy
      · rw [if_neg hlt] at hy
        simp only [Option.some.injEq, Prod.mk.injEq] at hy
        obtain ⟨rfl, rfl⟩ := hy
        exact hset _ V' (by rw [List.length_take]; omega) (bytes_tk hS.row.bytes n) hm
  · intro K hK x y r r' g off h of' hx V hV
    obtain ⟨hl, -⟩ := hI _ _ _ _ _ (hx V hV).1
    obtain ⟨hl2, -⟩ := hI _ _ _ _ _ (hx V hV).2
    exact osm_C hV bo ko n ⟨g, off, none⟩ ⟨g, off + o, none⟩ ⟨h, of', none⟩ ⟨h, of' + o, none⟩ (fg x) (fg y) hl hl2 (fun V hV => by rw [mem_box hV (hK _ mo)]; rfl) eo (fun V => ho V g off) (fun V => ho V h of') (fun V hV => (hI _ _ _ _ _ (hx V hV).1).2) (fun V hV => (hI _ _ _ _ _ (hx V hV).2).2)
set_option maxHeartbeats 2000000 in
/-- The field is made. -/
theorem mk_Oct_C {w W : World} {L : List (Nat × Obj)} (h : Mem w W L) (ko : Nat) :
    Calls Tryz.prog 53 #[.func (.func ko) #[] #[]] W fun e W' => ∃ bo, e = .returned (fvOct_C bo).val ∧ Mem w W' ((bo, .cells #[.func (.func ko) #[] #[]] 116 (0, 0)) :: L) := by
  have hM : Mem w (W.alloc (.cells #[.func (.func ko) #[] #[]] 116)) ((W.heap.size, .cells #[.func (.func ko) #[] #[]] 116 (0, 0)) :: L) := (h.push W.heap.size (.cells #[.func (.func ko) #[] #[]] 116 (0, 0)) rfl).perm List.perm_append_comm
  have hmf : ∀ (fn : Fn) (first cap : Array Value) (w : World), (Instr.makeFunc fn first cap).run Tryz.prog w = .ok (.func fn first cap) w := fun _ _ _ _ => rfl
  have HM : Hid (Mem w (W.alloc (.cells #[.func (.func ko) #[] #[]] 116)) ((W.heap.size, .cells #[.func (.func ko) #[] #[]] 116 (0, 0)) :: L)) := hM
  clear hM h
  go_enter Tryz.func53, Tryz.ntmps53
  go_wp2_with fail
  refine bodyPost_ret (v := (fvOct_C W.heap.size).val) ?_ rfl ⟨_, rfl, HM.out.after ((Below.refl _ _).alloc (Nat.le_refl _) _)⟩
  exact results_cell_row (p := 2) (ty := 71) rfl _ _ (W.heap.size + 1) 71 _ (0, 0) _ rfl (heap_alloc2_new _ _ _) Tryz.underlying71 rfl (by kernel_rfl)
end Go.Proofs.YtngegdamcfmonaaGreat

namespace Go.Proofs.YtngegdamcfmonaaGreat
open Go.RowKit
open Sm
open Cf
set_option linter.unusedVariables false
set_option maxRecDepth 20000

def fvCnt_TP (bo : Nat) : Fv := ⟨137, 139, 140, #[.pointer (some ⟨bo, 0, none⟩)], #[.pointer (some ⟨bo, 0, none⟩)], #[.pointer (some ⟨bo, 0, none⟩)]⟩
theorem fd_Cnt_TP {α ρ : Type} {w : World} {L : List (Nat × Obj)} {I : Rp α ρ} {J : St' α} (bo ko o : Nat) (fl : α → Nat) (fs : α → Nat → α)
    (mo : (bo, .cells #[.func (.func ko) #[] #[]] 124 (0, 0)) ∈ L)
    (eo : Ent ko) (ho : ∀ V g off, Calls Tryz.prog ko #[.pointer (some ⟨g, off, none⟩)] V fun e V' => e = .returned (.pointer (some ⟨g, off + o, none⟩)) ∧ V = V')
    (sv : ρ → Value) (hI : ∀ x r V g off, I x r V g off → (∃ a c, sv r = .slice a (fl x) c ∧ fl x ≤ c ∧ c ≤ 9223372036854775807 ∧ (a = none → c = 0)) ∧ V.cell? ⟨g, off + o, none⟩ = some (sv r))
    (hJ : ∀ x g T pre post V K, J w x g T pre post V K → ∃ A M y, Lens w J o x g T pre post V K M A ∧ A[pre.length + o]? = some y ∧
      ∀ m V', m ≤ 255 → CMade_TP w V' g A T (pre.length + o) M m → J w (fs x m) g T pre post V' K) :
    Fd w L I J (fvCnt_TP bo) (spCnt fl fs) := by
  refine ⟨enters_of Tryz.func137 (by kernel_rfl) rfl, enters_of Tryz.func139 (by kernel_rfl) rfl, enters_of Tryz.func140 (by kernel_rfl) rfl, ?_, ?_, ?_⟩
  · intro K hK x r g off hx v l V hO hb
    obtain ⟨⟨a, c, e, h1, h2, h3⟩, -⟩ := hI _ _ _ _ _ (hx V hO.mem)
    exact cwr_TP hO bo ko ⟨g, off, none⟩ ⟨g, off + o, none⟩ a (fl x) c h1 h2 h3 (fun V hV => by rw [mem_box hV (hK _ mo)]; rfl) eo (fun V => ho V g off) (fun V hV => by rw [← e]; exact (hI _ _ _ _ _ (hx V hV)).2) (by simpa [spCnt] using hb)
  · intro K hK x g T pre post a l c V hj hS
    obtain ⟨A, M, y, hl, hA, hset⟩ := hJ x g T pre post V K hj
    have := crd_TP hl.mem hS bo ko (pre.length + o) ⟨g, pre.length, none⟩ y hA (fun V hV => by rw [mem_box hV (hl.sub _ (hK _ mo))]; rfl) eo (fun V => ho V g pre.length)
    refine this.mono ?_
    intro e V' hR
    refine hR.mono2 (fs x) ?_ (hl.back V') (fun m l' hm hc => ?_)
    · cases l <;> rfl
    · cases l with
      | nil => cases hm
      | cons b r =>
        simp only [Option.some.injEq, Prod.mk.injEq] at hm
        obtain ⟨rfl, rfl⟩ := hm
        have := hS.row.bytes 0
        simp only [List.getD_cons_zero] at this
        exact hset _ V' (by omega) hc
  · intro K hK x y r r' g off h of' hx V hV
    obtain ⟨⟨a, c, e, h1, h2, h3⟩, -⟩ := hI _ _ _ _ _ (hx V hV).1
    obtain ⟨⟨a', c', e', h1', h2', h3'⟩, -⟩ := hI _ _ _ _ _ (hx V hV).2
    exact csm_TP hV bo ko ⟨g, off, none⟩ ⟨g, off + o, none⟩ ⟨h, of', none⟩ ⟨h, of' + o, none⟩ a a' (fl x) (fl y) c c' (fun V hV => by rw [mem_box hV (hK _ mo)]; rfl) eo (fun V => ho V g off) (fun V => ho V h of') (fun V hV => by rw [← e]; exact (hI _ _ _ _ _ (hx V hV).1).2) (fun V hV => by rw [← e']; exact (hI _ _ _ _ _ (hx V hV).2).2)
set_option maxHeartbeats 2000000 in
/-- The field is made. -/
theorem mk_Cnt_TP {w W : World} {L : List (Nat × Obj)} (h : Mem w W L) (ko : Nat) :
    Calls Tryz.prog 84 #[.func (.func ko) #[] #[]] W fun e W' => ∃ bo, e = .returned (fvCnt_TP bo).val ∧ Mem w W' ((bo, .cells #[.func (.func ko) #[] #[]] 124 (0, 0)) :: L) := by
  have hM : Mem w (W.alloc (.cells #[.func (.func ko) #[] #[]] 124)) ((W.heap.size, .cells #[.func (.func ko) #[] #[]] 124 (0, 0)) :: L) := (h.push W.heap.size (.cells #[.func (.func ko) #[] #[]] 124 (0, 0)) rfl).perm List.perm_append_comm
  have hmf : ∀ (fn : Fn) (first cap : Array Value) (w : World), (Instr.makeFunc fn first cap).run Tryz.prog w = .ok (.func fn first cap) w := fun _ _ _ _ => rfl
  have HM : Hid (Mem w (W.alloc (.cells #[.func (.func ko) #[] #[]] 124)) ((W.heap.size, .cells #[.func (.func ko) #[] #[]] 124 (0, 0)) :: L)) := hM
  clear hM h
  go_enter Tryz.func84, Tryz.ntmps84
  go_wp2_with fail
  refine bodyPost_ret (v := (fvCnt_TP W.heap.size).val) ?_ rfl ⟨_, rfl, HM.out.after ((Below.refl _ _).alloc (Nat.le_refl _) _)⟩
  exact results_cell_row (p := 2) (ty := 79) rfl _ _ (W.heap.size + 1) 79 _ (0, 0) _ rfl (heap_alloc2_new _ _ _) Tryz.underlying79 rfl (by kernel_rfl)
end Go.Proofs.YtngegdamcfmonaaGreat

