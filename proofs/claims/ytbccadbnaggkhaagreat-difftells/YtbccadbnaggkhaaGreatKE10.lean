/-
  Settings as bytes: the field of a number keeps what is asked of a field (lych/api.Tenant, uint32).
  Settings as bytes: the field of a list's length keeps what is asked of a field.
  Settings as bytes: the field of a number keeps what is asked of a field (lych/api.Tenant, uint16).
  Settings as bytes: the field of a number keeps what is asked of a field (uint32, uint32).
  Settings as bytes: the field of a number keeps what is asked of a field (lych/api.Pair, uint32).
  Settings as bytes: the field of a number keeps what is asked of a field (lych/api.Tenant, int).
  Settings as bytes: the field of a number keeps what is asked of a field (lych/api.Config, uint32).
  Settings as bytes: the field of a text keeps what is asked of a field.
  Settings as bytes: fields one behind the other keep what is asked of a field (lych/api.Config).
-/
import Derived.Test.YtbccadbnaggkhaaGreatKE07
import Derived.Test.YtbccadbnaggkhaaGreatKE05
import Derived.Test.YtbccadbnaggkhaaGreatKE04
import Derived.Test.YtbccadbnaggkhaaGreatKE06
namespace Go.Proofs.YtbccadbnaggkhaaGreat
open Go.RowKit
open Sm
open Cf
set_option linter.unusedVariables false
set_option maxRecDepth 20000

def fvNum_TU (bs bo : Nat) : Fv := ⟨84, 86, 88, #[.pointer (some ⟨bs, 0, none⟩), .pointer (some ⟨bo, 0, none⟩)], #[.pointer (some ⟨bs, 0, none⟩), .pointer (some ⟨bo, 0, none⟩)], #[.pointer (some ⟨bo, 0, none⟩)]⟩
theorem fd_num_TU {α ρ : Type} {w : World} {L : List (Nat × Obj)} {I : Rp α ρ} {J : St' α} (bs bo sz ko o : Nat) (hs : sz ≤ 4) (fits : ∀ q, 0 ≤ q → q < 256 ^ sz → IntKind.u32.wrap q = q) (fg : α → Int) (fs : α → Int → α)
    (mb : (bs, .cells #[.int .i64 sz] 3 (0, 0)) ∈ L) (mo : (bo, .cells #[.func (.func ko) #[] #[]] 85 (0, 0)) ∈ L)
    (eo : Ent ko) (ho : ∀ V g off, Calls Tryz.prog ko #[.pointer (some ⟨g, off, none⟩)] V fun e V' => e = .returned (.pointer (some ⟨g, off + o, none⟩)) ∧ V = V')
    (hI : ∀ x r V g off, I x r V g off → V.cell? ⟨g, off + o, none⟩ = some (.int .u32 (fg x)))
    (hJ : ∀ x g T pre post V K, J w x g T pre post V K → ∃ A M, Lens w J o x g T pre post V K M A ∧ A[pre.length + o]? = some (.int .u32 (fg x)) ∧
      ∀ y V', Mem w V' ((g, .cells (A.setIfInBounds (pre.length + o) (.int .u32 y)) T (0, 0)) :: M) → J w (fs x y) g T pre post V' K) :
    Fd w L I J (fvNum_TU bs bo) (spNum sz fg fs) := by
  refine ⟨enters_of Tryz.func84 (by kernel_rfl) rfl, enters_of Tryz.func86 (by kernel_rfl) rfl, enters_of Tryz.func88 (by kernel_rfl) rfl, ?_, ?_, ?_⟩
  · intro K hK x r g off hx v l V hO hb
    have hb' : l.length + sz ≤ 1000000000 := by simpa [spNum, be_len] using hb
    have := nwr_TU hO bs bo sz ko ⟨g, off, none⟩ ⟨g, off + o, none⟩ (fg x) (by omega) (fun V hV => by rw [mem_box hV (hK _ mb)]; rfl) (fun V hV => by rw [mem_box hV (hK _ mo)]; rfl) eo (fun V => ho V g off) (fun V hV => hI _ _ _ _ _ (hx V hV)) hb'
    rw [be_wrap sz (by omega)] at this
    exact this
  · intro K hK x g T pre post a l c V hj hS
    obtain ⟨A, M, hl, hA, hset⟩ := hJ x g T pre post V K hj
    have := nrd_TU hl.mem hS bs bo sz ko (pre.length + o) ⟨g, pre.length, none⟩ (fg x) hs fits hA (fun V hV => by rw [mem_box hV (hl.sub _ (hK _ mb))]; rfl) (fun V hV => by rw [mem_box hV (hl.sub _ (hK _ mo))]; rfl) eo (fun V => ho V g pre.length)
    refine this.mono ?_
    intro e V' hR
    refine hR.mono (fs x) ?_ (hl.back V') (fun y hy => hset y V' hy)
    simp only [spNum]
    split <;> rfl
  · intro K hK x y r r' g off h of' hx V hV
    exact nsm_TU hV bo ko ⟨g, off, none⟩ ⟨g, off + o, none⟩ ⟨h, of', none⟩ ⟨h, of' + o, none⟩ (fg x) (fg y) (fun V hV => by rw [mem_box hV (hK _ mo)]; rfl) eo (fun V => ho V g off) (fun V => ho V h of') (fun V hV => hI _ _ _ _ _ (hx V hV).1) (fun V hV => hI _ _ _ _ _ (hx V hV).2)

set_option maxHeartbeats 2000000 in
theorem mk_num_TU {w W : World} {L : List (Nat × Obj)} (h : Mem w W L) (sz ko : Nat) :
    Calls Tryz.prog 44 #[.int .i64 sz, .func (.func ko) #[] #[]] W fun e W' => ∃ bs bo, e = .returned (fvNum_TU bs bo).val ∧ Mem w W' ((bs, .cells #[.int .i64 sz] 3 (0, 0)) :: (bo, .cells #[.func (.func ko) #[] #[]] 85 (0, 0)) :: L) := by
  have hM : Mem w ((W.alloc (.cells #[.int .i64 sz] 3)).alloc (.cells #[.func (.func ko) #[] #[]] 85)) ((W.heap.size, .cells #[.int .i64 sz] 3 (0, 0)) :: (W.heap.size + 1, .cells #[.func (.func ko) #[] #[]] 85 (0, 0)) :: L) := by
    have h1 := (h.push W.heap.size (.cells #[.int .i64 sz] 3 (0, 0)) rfl).push (W.heap.size + 1) (.cells #[.func (.func ko) #[] #[]] 85 (0, 0)) (by simp)
    refine h1.perm ?_
    rw [List.append_assoc]
    exact List.perm_append_comm
  have hmf : ∀ (fn : Fn) (first cap : Array Value) (w : World), (Instr.makeFunc fn first cap).run Tryz.prog w = .ok (.func fn first cap) w := fun _ _ _ _ => rfl
  have HM : Hid (Mem w ((W.alloc (.cells #[.int .i64 sz] 3)).alloc (.cells #[.func (.func ko) #[] #[]] 85)) ((W.heap.size, .cells #[.int .i64 sz] 3 (0, 0)) :: (W.heap.size + 1, .cells #[.func (.func ko) #[] #[]] 85 (0, 0)) :: L)) := hM
  clear hM h
  go_enter Tryz.func44, Tryz.ntmps44
  go_wp2_with fail
  refine bodyPost_ret (v := (fvNum_TU W.heap.size (W.heap.size + 1)).val) ?_ rfl ⟨_, _, rfl, HM.out.after ((Below.refl _ _).alloc (Nat.le_refl _) _)⟩
  exact results_cell_row (p := 4) (ty := 70) rfl _ _ (W.heap.size + 1 + 1) 70 _ (0, 0) _ rfl (heap_alloc3_new _ _ _ _) Tryz.underlying70 rfl (by kernel_rfl)
end Go.Proofs.YtbccadbnaggkhaaGreat

namespace Go.Proofs.YtbccadbnaggkhaaGreat
open Go.RowKit
open Sm
open Cf
set_option linter.unusedVariables false
set_option maxRecDepth 20000

def fvCnt_TP (bo : Nat) : Fv := ⟨103, 105, 106, #[.pointer (some ⟨bo, 0, none⟩)], #[.pointer (some ⟨bo, 0, none⟩)], #[.pointer (some ⟨bo, 0, none⟩)]⟩
theorem fd_Cnt_TP {α ρ : Type} {w : World} {L : List (Nat × Obj)} {I : Rp α ρ} {J : St' α} (bo ko o : Nat) (fl : α → Nat) (fs : α → Nat → α)
    (mo : (bo, .cells #[.func (.func ko) #[] #[]] 78 (0, 0)) ∈ L)
    (eo : Ent ko) (ho : ∀ V g off, Calls Tryz.prog ko #[.pointer (some ⟨g, off, none⟩)] V fun e V' => e = .returned (.pointer (some ⟨g, off + o, none⟩)) ∧ V = V')
    (sv : ρ → Value) (hI : ∀ x r V g off, I x r V g off → (∃ a c, sv r = .slice a (fl x) c ∧ fl x ≤ c ∧ c ≤ 9223372036854775807 ∧ (a = none → c = 0)) ∧ V.cell? ⟨g, off + o, none⟩ = some (sv r))
    (hJ : ∀ x g T pre post V K, J w x g T pre post V K → ∃ A M y, Lens w J o x g T pre post V K M A ∧ A[pre.length + o]? = some y ∧
      ∀ m V', m ≤ 255 → CMade_TP w V' g A T (pre.length + o) M m → J w (fs x m) g T pre post V' K) :
    Fd w L I J (fvCnt_TP bo) (spCnt fl fs) := by
  refine ⟨enters_of Tryz.func103 (by kernel_rfl) rfl, enters_of Tryz.func105 (by kernel_rfl) rfl, enters_of Tryz.func106 (by kernel_rfl) rfl, ?_, ?_, ?_⟩
  · intro K hK x r g off hx v l V hO hb
    obtain ⟨⟨a, c, e, h1, h2, h3⟩, -⟩ := hI _ _ _ _ _ (hx V hO.mem)
    exact cwr_TP hO bo ko ⟨g, off, none⟩ ⟨g, off + o, none⟩ a (fl x) c h1 h2 h3 (fun V hV => by rw [mem_box hV (hK _ mo)]; rfl) eo (fun V => ho V g off) (fun V hV => by rw [← e]; exact (hI _ _ _ _ _ (hx V hV)).2) (by simpa [spCnt] using hb)
  · intro K hK x g T pre post a l c V hj hS
    obtain ⟨A, M, y, hl, hA, hset⟩ := hJ x g T pre post V K hj
    have := crd_TP hl.mem hS bo ko (pre.length + o) ⟨g, pre.length, none⟩ y hA (fun V hV => by rw [mem_box hV (hl.sub _ (hK _ mo))]; rfl) eo (fun V => ho V g pre.length)
    refine this.mono ?_
    intro e V' hR
    refine hR.mono2 (fs x) ?_ (hl.back V') (fun m l' hm hc => ?_)
    · cases l <;> rfl
    · cases l with
      | nil => cases hm
      | cons b r =>
        simp only [Option.some.injEq, Prod.mk.injEq] at hm
        obtain ⟨rfl, rfl⟩ := hm
        have := hS.row.bytes 0
        simp only [List.getD_cons_zero] at this
        exact hset _ V' (by omega) hc
  · intro K hK x y r r' g off h of' hx V hV
    obtain ⟨⟨a, c, e, h1, h2, h3⟩, -⟩ := hI _ _ _ _ _ (hx V hV).1
    obtain ⟨⟨a', c', e', h1', h2', h3'⟩, -⟩ := hI _ _ _ _ _ (hx V hV).2
    exact csm_TP hV bo ko ⟨g, off, none⟩ ⟨g, off + o, none⟩ ⟨h, of', none⟩ ⟨h, of' + o, none⟩ a a' (fl x) (fl y) c c' (fun V hV => by rw [mem_box hV (hK _ mo)]; rfl) eo (fun V => ho V g off) (fun V => ho V h of') (fun V hV => by rw [← e]; exact (hI _ _ _ _ _ (hx V hV).1).2) (fun V hV => by rw [← e']; exact (hI _ _ _ _ _ (hx V hV).2).2)
set_option maxHeartbeats 2000000 in
theorem mk_Cnt_TP {w W : World} {L : List (Nat × Obj)} (h : Mem w W L) (ko : Nat) :
    Calls Tryz.prog 61 #[.func (.func ko) #[] #[]] W fun e W' => ∃ bo, e = .returned (fvCnt_TP bo).val ∧ Mem w W' ((bo, .cells #[.func (.func ko) #[] #[]] 78 (0, 0)) :: L) := by
  have hM : Mem w (W.alloc (.cells #[.func (.func ko) #[] #[]] 78)) ((W.heap.size, .cells #[.func (.func ko) #[] #[]] 78 (0, 0)) :: L) := (h.push W.heap.size (.cells #[.func (.func ko) #[] #[]] 78 (0, 0)) rfl).perm List.perm_append_comm
  have hmf : ∀ (fn : Fn) (first cap : Array Value) (w : World), (Instr.makeFunc fn first cap).run Tryz.prog w = .ok (.func fn first cap) w := fun _ _ _ _ => rfl
  have HM : Hid (Mem w (W.alloc (.cells #[.func (.func ko) #[] #[]] 78)) ((W.heap.size, .cells #[.func (.func ko) #[] #[]] 78 (0, 0)) :: L)) := hM
  clear hM h
  go_enter Tryz.func61, Tryz.ntmps61
  go_wp2_with fail
  refine bodyPost_ret (v := (fvCnt_TP W.heap.size).val) ?_ rfl ⟨_, rfl, HM.out.after ((Below.refl _ _).alloc (Nat.le_refl _) _)⟩
  exact results_cell_row (p := 2) (ty := 70) rfl _ _ (W.heap.size + 1) 70 _ (0, 0) _ rfl (heap_alloc2_new _ _ _) Tryz.underlying70 rfl (by kernel_rfl)
end Go.Proofs.YtbccadbnaggkhaaGreat

namespace Go.Proofs.YtbccadbnaggkhaaGreat
open Go.RowKit
open Sm
open Cf
set_option linter.unusedVariables false
set_option maxRecDepth 20000

def fvNum_TH (bs bo : Nat) : Fv := ⟨93, 94, 95, #[.pointer (some ⟨bs, 0, none⟩), .pointer (some ⟨bo, 0, none⟩)], #[.pointer (some ⟨bs, 0, none⟩), .pointer (some ⟨bo, 0, none⟩)], #[.pointer (some ⟨bo, 0, none⟩)]⟩
theorem fd_num_TH {α ρ : Type} {w : World} {L : List (Nat × Obj)} {I : Rp α ρ} {J : St' α} (bs bo sz ko o : Nat) (hs : sz ≤ 4) (fits : ∀ q, 0 ≤ q → q < 256 ^ sz → IntKind.u16.wrap q = q) (fg : α → Int) (fs : α → Int → α)
    (mb : (bs, .cells #[.int .i64 sz] 3 (0, 0)) ∈ L) (mo : (bo, .cells #[.func (.func ko) #[] #[]] 91 (0, 0)) ∈ L)
    (eo : Ent ko) (ho : ∀ V g off, Calls Tryz.prog ko #[.pointer (some ⟨g, off, none⟩)] V fun e V' => e = .returned (.pointer (some ⟨g, off + o, none⟩)) ∧ V = V')
    (hI : ∀ x r V g off, I x r V g off → V.cell? ⟨g, off + o, none⟩ = some (.int .u16 (fg x)))
    (hJ : ∀ x g T pre post V K, J w x g T pre post V K → ∃ A M, Lens w J o x g T pre post V K M A ∧ A[pre.length + o]? = some (.int .u16 (fg x)) ∧
      ∀ y V', Mem w V' ((g, .cells (A.setIfInBounds (pre.length + o) (.int .u16 y)) T (0, 0)) :: M) → J w (fs x y) g T pre post V' K) :
    Fd w L I J (fvNum_TH bs bo) (spNum sz fg fs) := by
  refine ⟨enters_of Tryz.func93 (by kernel_rfl) rfl, enters_of Tryz.func94 (by kernel_rfl) rfl, enters_of Tryz.func95 (by kernel_rfl) rfl, ?_, ?_, ?_⟩
  · intro K hK x r g off hx v l V hO hb
    have hb' : l.length + sz ≤ 1000000000 := by simpa [spNum, be_len] using hb
    have := nwr_TH hO bs bo sz ko ⟨g, off, none⟩ ⟨g, off + o, none⟩ (fg x) (by omega) (fun V hV => by rw [mem_box hV (hK _ mb)]; rfl) (fun V hV => by rw [mem_box hV (hK _ mo)]; rfl) eo (fun V => ho V g off) (fun V hV => hI _ _ _ _ _ (hx V hV)) hb'
    rw [be_wrap sz (by omega)] at this
    exact this
  · intro K hK x g T pre post a l c V hj hS
    obtain ⟨A, M, hl, hA, hset⟩ := hJ x g T pre post V K hj
    have := nrd_TH hl.mem hS bs bo sz ko (pre.length + o) ⟨g, pre.length, none⟩ (fg x) hs fits hA (fun V hV => by rw [mem_box hV (hl.sub _ (hK _ mb))]; rfl) (fun V hV => by rw [mem_box hV (hl.sub _ (hK _ mo))]; rfl) eo (fun V => ho V g pre.length)
    refine this.mono ?_
    intro e V' hR
    refine hR.mono (fs x) ?_ (hl.back V') (fun y hy => hset y V' hy)
    simp only [spNum]
    split <;> rfl
  · intro K hK x y r r' g off h of' hx V hV
    exact nsm_TH hV bo ko ⟨g, off, none⟩ ⟨g, off + o, none⟩ ⟨h, of', none⟩ ⟨h, of' + o, none⟩ (fg x) (fg y) (fun V hV => by rw [mem_box hV (hK _ mo)]; rfl) eo (fun V => ho V g off) (fun V => ho V h of') (fun V hV => hI _ _ _ _ _ (hx V hV).1) (fun V hV => hI _ _ _ _ _ (hx V hV).2)

set_option maxHeartbeats 2000000 in
theorem mk_num_TH {w W : World} {L : List (Nat × Obj)} (h : Mem w W L) (sz ko : Nat) :
    Calls Tryz.prog 51 #[.int .i64 sz, .func (.func ko) #[] #[]] W fun e W' => ∃ bs bo, e = .returned (fvNum_TH bs bo).val ∧ Mem w W' ((bs, .cells #[.int .i64 sz] 3 (0, 0)) :: (bo, .cells #[.func (.func ko) #[] #[]] 91 (0, 0)) :: L) := by
  have hM : Mem w ((W.alloc (.cells #[.int .i64 sz] 3)).alloc (.cells #[.func (.func ko) #[] #[]] 91)) ((W.heap.size, .cells #[.int .i64 sz] 3 (0, 0)) :: (W.heap.size + 1, .cells #[.func (.func ko) #[] #[]] 91 (0, 0)) :: L) := by
    have h1 := (h.push W.heap.size (.cells #[.int .i64 sz] 3 (0, 0)) rfl).push (W.heap.size + 1) (.cells #[.func (.func ko) #[] #[]] 91 (0, 0)) (by simp)
    refine h1.perm ?_
    rw [List.append_assoc]
    exact List.perm_append_comm
  have hmf : ∀ (fn : Fn) (first cap : Array Value) (w : World), (Instr.makeFunc fn first cap).run Tryz.prog w = .ok (.func fn first cap) w := fun _ _ _ _ => rfl
  have HM : Hid (Mem w ((W.alloc (.cells #[.int .i64 sz] 3)).alloc (.cells #[.func (.func ko) #[] #[]] 91)) ((W.heap.size, .cells #[.int .i64 sz] 3 (0, 0)) :: (W.heap.size + 1, .cells #[.func (.func ko) #[] #[]] 91 (0, 0)) :: L)) := hM
  clear hM h
  go_enter Tryz.func51, Tryz.ntmps51
  go_wp2_with fail
  refine bodyPost_ret (v := (fvNum_TH W.heap.size (W.heap.size + 1)).val) ?_ rfl ⟨_, _, rfl, HM.out.after ((Below.refl _ _).alloc (Nat.le_refl _) _)⟩
  exact results_cell_row (p := 4) (ty := 70) rfl _ _ (W.heap.size + 1 + 1) 70 _ (0, 0) _ rfl (heap_alloc3_new _ _ _ _) Tryz.underlying70 rfl (by kernel_rfl)
end Go.Proofs.YtbccadbnaggkhaaGreat

namespace Go.Proofs.YtbccadbnaggkhaaGreat
open Go.RowKit
open Sm
open Cf
set_option linter.unusedVariables false
set_option maxRecDepth 20000

def fvNum_UU (bs bo : Nat) : Fv := ⟨129, 130, 131, #[.pointer (some ⟨bs, 0, none⟩), .pointer (some ⟨bo, 0, none⟩)], #[.pointer (some ⟨bs, 0, none⟩), .pointer (some ⟨bo, 0, none⟩)], #[.pointer (some ⟨bo, 0, none⟩)]⟩
theorem fd_num_UU {α ρ : Type} {w : World} {L : List (Nat × Obj)} {I : Rp α ρ} {J : St' α} (bs bo sz ko o : Nat) (hs : sz ≤ 4) (fits : ∀ q, 0 ≤ q → q < 256 ^ sz → IntKind.u32.wrap q = q) (fg : α → Int) (fs : α → Int → α)
    (mb : (bs, .cells #[.int .i64 sz] 3 (0, 0)) ∈ L) (mo : (bo, .cells #[.func (.func ko) #[] #[]] 135 (0, 0)) ∈ L)
    (eo : Ent ko) (ho : ∀ V g off, Calls Tryz.prog ko #[.pointer (some ⟨g, off, none⟩)] V fun e V' => e = .returned (.pointer (some ⟨g, off + o, none⟩)) ∧ V = V')
    (hI : ∀ x r V g off, I x r V g off → V.cell? ⟨g, off + o, none⟩ = some (.int .u32 (fg x)))
    (hJ : ∀ x g T pre post V K, J w x g T pre post V K → ∃ A M, Lens w J o x g T pre post V K M A ∧ A[pre.length + o]? = some (.int .u32 (fg x)) ∧
      ∀ y V', Mem w V' ((g, .cells (A.setIfInBounds (pre.length + o) (.int .u32 y)) T (0, 0)) :: M) → J w (fs x y) g T pre post V' K) :
    Fd w L I J (fvNum_UU bs bo) (spNum sz fg fs) := by
  refine ⟨enters_of Tryz.func129 (by kernel_rfl) rfl, enters_of Tryz.func130 (by kernel_rfl) rfl, enters_of Tryz.func131 (by kernel_rfl) rfl, ?_, ?_, ?_⟩
  · intro K hK x r g off hx v l V hO hb
    have hb' : l.length + sz ≤ 1000000000 := by simpa [spNum, be_len] using hb
    have := nwr_UU hO bs bo sz ko ⟨g, off, none⟩ ⟨g, off + o, none⟩ (fg x) (by omega) (fun V hV => by rw [mem_box hV (hK _ mb)]; rfl) (fun V hV => by rw [mem_box hV (hK _ mo)]; rfl) eo (fun V => ho V g off) (fun V hV => hI _ _ _ _ _ (hx V hV)) hb'
    rw [be_wrap sz (by omega)] at this
    exact this
  · intro K hK x g T pre post a l c V hj hS
    obtain ⟨A, M, hl, hA, hset⟩ := hJ x g T pre post V K hj
    have := nrd_UU hl.mem hS bs bo sz ko (pre.length + o) ⟨g, pre.length, none⟩ (fg x) hs fits hA (fun V hV => by rw [mem_box hV (hl.sub _ (hK _ mb))]; rfl) (fun V hV => by rw [mem_box hV (hl.sub _ (hK _ mo))]; rfl) eo (fun V => ho V g pre.length)
    refine this.mono ?_
    intro e V' hR
    refine hR.mono (fs x) ?_ (hl.back V') (fun y hy => hset y V' hy)
    simp only [spNum]
    split <;> rfl
  · intro K hK x y r r' g off h of' hx V hV
    exact nsm_UU hV bo ko ⟨g, off, none⟩ ⟨g, off + o, none⟩ ⟨h, of', none⟩ ⟨h, of' + o, none⟩ (fg x) (fg y) (fun V hV => by rw [mem_box hV (hK _ mo)]; rfl) eo (fun V => ho V g off) (fun V => ho V h of') (fun V hV => hI _ _ _ _ _ (hx V hV).1) (fun V hV => hI _ _ _ _ _ (hx V hV).2)

set_option maxHeartbeats 2000000 in
theorem mk_num_UU {w W : World} {L : List (Nat × Obj)} (h : Mem w W L) (sz ko : Nat) :
    Calls Tryz.prog 112 #[.int .i64 sz, .func (.func ko) #[] #[]] W fun e W' => ∃ bs bo, e = .returned (fvNum_UU bs bo).val ∧ Mem w W' ((bs, .cells #[.int .i64 sz] 3 (0, 0)) :: (bo, .cells #[.func (.func ko) #[] #[]] 135 (0, 0)) :: L) := by
  have hM : Mem w ((W.alloc (.cells #[.int .i64 sz] 3)).alloc (.cells #[.func (.func ko) #[] #[]] 135)) ((W.heap.size, .cells #[.int .i64 sz] 3 (0, 0)) :: (W.heap.size + 1, .cells #[.func (.func ko) #[] #[]] 135 (0, 0)) :: L) := by
    have h1 := (h.push W.heap.size (.cells #[.int .i64 sz] 3 (0, 0)) rfl).push (W.heap.size + 1) (.cells #[.func (.func ko) #[] #[]] 135 (0, 0)) (by simp)
    refine h1.perm ?_
    rw [List.append_assoc]
    exact List.perm_append_comm
  have hmf : ∀ (fn : Fn) (first cap : Array Value) (w : World), (Instr.makeFunc fn first cap).run Tryz.prog w = .ok (.func fn first cap) w := fun _ _ _ _ => rfl
  have HM : Hid (Mem w ((W.alloc (.cells #[.int .i64 sz] 3)).alloc (.cells #[.func (.func ko) #[] #[]] 135)) ((W.heap.size, .cells #[.int .i64 sz] 3 (0, 0)) :: (W.heap.size + 1, .cells #[.func (.func ko) #[] #[]] 135 (0, 0)) :: L)) := hM
  clear hM h
  go_enter Tryz.func112, Tryz.ntmps112
  go_wp2_with fail
  refine bodyPost_ret (v := (fvNum_UU W.heap.size (W.heap.size + 1)).val) ?_ rfl ⟨_, _, rfl, HM.out.after ((Below.refl _ _).alloc (Nat.le_refl _) _)⟩
  exact results_cell_row (p := 4) (ty := 102) rfl _ _ (W.heap.size + 1 + 1) 102 _ (0, 0) _ rfl (heap_alloc3_new _ _ _ _) Tryz.underlying102 rfl (by kernel_rfl)
end Go.Proofs.YtbccadbnaggkhaaGreat

namespace Go.Proofs.YtbccadbnaggkhaaGreat
open Go.RowKit
open Sm
open Cf
set_option linter.unusedVariables false
set_option maxRecDepth 20000

def fvNum_PU (bs bo : Nat) : Fv := ⟨135, 136, 137, #[.pointer (some ⟨bs, 0, none⟩), .pointer (some ⟨bo, 0, none⟩)], #[.pointer (some ⟨bs, 0, none⟩), .pointer (some ⟨bo, 0, none⟩)], #[.pointer (some ⟨bo, 0, none⟩)]⟩
theorem fd_num_PU {α ρ : Type} {w : World} {L : List (Nat × Obj)} {I : Rp α ρ} {J : St' α} (bs bo sz ko o : Nat) (hs : sz ≤ 4) (fits : ∀ q, 0 ≤ q → q < 256 ^ sz → IntKind.u32.wrap q = q) (fg : α → Int) (fs : α → Int → α)
    (mb : (bs, .cells #[.int .i64 sz] 3 (0, 0)) ∈ L) (mo : (bo, .cells #[.func (.func ko) #[] #[]] 141 (0, 0)) ∈ L)
    (eo : Ent ko) (ho : ∀ V g off, Calls Tryz.prog ko #[.pointer (some ⟨g, off, none⟩)] V fun e V' => e = .returned (.pointer (some ⟨g, off + o, none⟩)) ∧ V = V')
    (hI : ∀ x r V g off, I x r V g off → V.cell? ⟨g, off + o, none⟩ = some (.int .u32 (fg x)))
    (hJ : ∀ x g T pre post V K, J w x g T pre post V K → ∃ A M, Lens w J o x g T pre post V K M A ∧ A[pre.length + o]? = some (.int .u32 (fg x)) ∧
      ∀ y V', Mem w V' ((g, .cells (A.setIfInBounds (pre.length + o) (.int .u32 y)) T (0, 0)) :: M) → J w (fs x y) g T pre post V' K) :
    Fd w L I J (fvNum_PU bs bo) (spNum sz fg fs) := by
  refine ⟨enters_of Tryz.func135 (by kernel_rfl) rfl, enters_of Tryz.func136 (by kernel_rfl) rfl, enters_of Tryz.func137 (by kernel_rfl) rfl, ?_, ?_, ?_⟩
  · intro K hK x r g off hx v l V hO hb
    have hb' : l.length + sz ≤ 1000000000 := by simpa [spNum, be_len] using hb
    have := nwr_PU hO bs bo sz ko ⟨g, off, none⟩ ⟨g, off + o, none⟩ (fg x) (by omega) (fun V hV => by rw [mem_box hV (hK _ mb)]; rfl) (fun V hV => by rw [mem_box hV (hK _ mo)]; rfl) eo (fun V => ho V g off) (fun V hV => hI _ _ _ _ _ (hx V hV)) hb'
    rw [be_wrap sz (by omega)] at this
    exact this
  · intro K hK x g T pre post a l c V hj hS
    obtain ⟨A, M, hl, hA, hset⟩ := hJ x g T pre post V K hj
    have := nrd_PU hl.mem hS bs bo sz ko (pre.length + o) ⟨g, pre.length, none⟩ (fg x) hs fits hA (fun V hV => by rw [mem_box hV (hl.sub _ (hK _ mb))]; rfl) (fun V hV => by rw [mem_box hV (hl.sub _ (hK _ mo))]; rfl) eo (fun V => ho V g pre.length)
    refine this.mono ?_
    intro e V' hR
    refine hR.mono (fs x) ?_ (hl.back V') (fun y hy => hset y V' hy)
    simp only [spNum]
    split <;> rfl
  · intro K hK x y r r' g off h of' hx V hV
    exact nsm_PU hV bo ko ⟨g, off, none⟩ ⟨g, off + o, none⟩ ⟨h, of', none⟩ ⟨h, of' + o, none⟩ (fg x) (fg y) (fun V hV => by rw [mem_box hV (hK _ mo)]; rfl) eo (fun V => ho V g off) (fun V => ho V h of') (fun V hV => hI _ _ _ _ _ (hx V hV).1) (fun V hV => hI _ _ _ _ _ (hx V hV).2)

set_option maxHeartbeats 2000000 in
theorem mk_num_PU {w W : World} {L : List (Nat × Obj)} (h : Mem w W L) (sz ko : Nat) :
    Calls Tryz.prog 120 #[.int .i64 sz, .func (.func ko) #[] #[]] W fun e W' => ∃ bs bo, e = .returned (fvNum_PU bs bo).val ∧ Mem w W' ((bs, .cells #[.int .i64 sz] 3 (0, 0)) :: (bo, .cells #[.func (.func ko) #[] #[]] 141 (0, 0)) :: L) := by
  have hM : Mem w ((W.alloc (.cells #[.int .i64 sz] 3)).alloc (.cells #[.func (.func ko) #[] #[]] 141)) ((W.heap.size, .cells #[.int .i64 sz] 3 (0, 0)) :: (W.heap.size + 1, .cells #[.func (.func ko) #[] #[]] 141 (0, 0)) :: L) := by
    have h1 := (h.push W.heap.size (.cells #[.int .i64 sz] 3 (0, 0)) rfl).push (W.heap.size + 1) (.cells #[.func (.func ko) #[] #[]] 141 (0, 0)) (by simp)
    refine h1.perm ?_
    rw [List.append_assoc]
    exact List.perm_append_comm
  have hmf : ∀ (fn : Fn) (first cap : Array Value) (w : World), (Instr.makeFunc fn first cap).run Tryz.prog w = .ok (.func fn first cap) w := fun _ _ _ _ => rfl
  have HM : Hid (Mem w ((W.alloc (.cells #[.int .i64 sz] 3)).alloc (.cells #[.func (.func ko) #[] #[]] 141)) ((W.heap.size, .cells #[.int .i64 sz] 3 (0, 0)) :: (W.heap.size + 1, .cells #[.func (.func ko) #[] #[]] 141 (0, 0)) :: L)) := hM
  clear hM h
  go_enter Tryz.func120, Tryz.ntmps120
  go_wp2_with fail
  refine bodyPost_ret (v := (fvNum_PU W.heap.size (W.heap.size + 1)).val) ?_ rfl ⟨_, _, rfl, HM.out.after ((Below.refl _ _).alloc (Nat.le_refl _) _)⟩
  exact results_cell_row (p := 4) (ty := 109) rfl _ _ (W.heap.size + 1 + 1) 109 _ (0, 0) _ rfl (heap_alloc3_new _ _ _ _) Tryz.underlying109 rfl (by kernel_rfl)
end Go.Proofs.YtbccadbnaggkhaaGreat

namespace Go.Proofs.YtbccadbnaggkhaaGreat
open Go.RowKit
open Sm
open Cf
set_option linter.unusedVariables false
set_option maxRecDepth 20000

def fvNum_TI (bs bo : Nat) : Fv := ⟨96, 97, 98, #[.pointer (some ⟨bs, 0, none⟩), .pointer (some ⟨bo, 0, none⟩)], #[.pointer (some ⟨bs, 0, none⟩), .pointer (some ⟨bo, 0, none⟩)], #[.pointer (some ⟨bo, 0, none⟩)]⟩
theorem fd_num_TI {α ρ : Type} {w : World} {L : List (Nat × Obj)} {I : Rp α ρ} {J : St' α} (bs bo sz ko o : Nat) (hs : sz ≤ 4) (fits : ∀ q, 0 ≤ q → q < 256 ^ sz → IntKind.i64.wrap q = q) (fg : α → Int) (fs : α → Int → α)
    (mb : (bs, .cells #[.int .i64 sz] 3 (0, 0)) ∈ L) (mo : (bo, .cells #[.func (.func ko) #[] #[]] 94 (0, 0)) ∈ L)
    (eo : Ent ko) (ho : ∀ V g off, Calls Tryz.prog ko #[.pointer (some ⟨g, off, none⟩)] V fun e V' => e = .returned (.pointer (some ⟨g, off + o, none⟩)) ∧ V = V')
    (hI : ∀ x r V g off, I x r V g off → V.cell? ⟨g, off + o, none⟩ = some (.int .i64 (fg x)))
    (hJ : ∀ x g T pre post V K, J w x g T pre post V K → ∃ A M, Lens w J o x g T pre post V K M A ∧ A[pre.length + o]? = some (.int .i64 (fg x)) ∧
      ∀ y V', Mem w V' ((g, .cells (A.setIfInBounds (pre.length + o) (.int .i64 y)) T (0, 0)) :: M) → J w (fs x y) g T pre post V' K) :
    Fd w L I J (fvNum_TI bs bo) (spNum sz fg fs) := by
  refine ⟨enters_of Tryz.func96 (by kernel_rfl) rfl, enters_of Tryz.func97 (by kernel_rfl) rfl, enters_of Tryz.func98 (by kernel_rfl) rfl, ?_, ?_, ?_⟩
  · intro K hK x r g off hx v l V hO hb
    have hb' : l.length + sz ≤ 1000000000 := by simpa [spNum, be_len] using hb
    have := nwr_TI hO bs bo sz ko ⟨g, off, none⟩ ⟨g, off + o, none⟩ (fg x) (by omega) (fun V hV => by rw [mem_box hV (hK _ mb)]; rfl) (fun V hV => by rw [mem_box hV (hK _ mo)]; rfl) eo (fun V => ho V g off) (fun V hV => hI _ _ _ _ _ (hx V hV)) hb'
    rw [be_wrap sz (by omega)] at this
    exact this
  · intro K hK x g T pre post a l c V hj hS
    obtain ⟨A, M, hl, hA, hset⟩ := hJ x g T pre post V K hj
    have := nrd_TI hl.mem hS bs bo sz ko (pre.length + o) ⟨g, pre.length, none⟩ (fg x) hs fits hA (fun V hV => by rw [mem_box hV (hl.sub _ (hK _ mb))]; rfl) (fun V hV => by rw [mem_box hV (hl.sub _ (hK _ mo))]; rfl) eo (fun V => ho V g pre.length)
    refine this.mono ?_
    intro e V' hR
    refine hR.mono (fs x) ?_ (hl.back V') (fun y hy => hset y V' hy)
    simp only [spNum]
    split <;> rfl
  · intro K hK x y r r' g off h of' hx V hV
    exact nsm_TI hV bo ko ⟨g, off, none⟩ ⟨g, off + o, none⟩ ⟨h, of', none⟩ ⟨h, of' + o, none⟩ (fg x) (fg y) (fun V hV => by rw [mem_box hV (hK _ mo)]; rfl) eo (fun V => ho V g off) (fun V => ho V h of') (fun V hV => hI _ _ _ _ _ (hx V hV).1) (fun V hV => hI _ _ _ _ _ (hx V hV).2)

set_option maxHeartbeats 2000000 in
theorem mk_num_TI {w W : World} {L : List (Nat × Obj)} (h : Mem w W L) (sz ko : Nat) :
    Calls Tryz.prog 54 #[.int .i64 sz, .func (.func ko) #[] #[]] W fun e W' => ∃ bs bo, e = .returned (fvNum_TI bs bo).val ∧ Mem w W' ((bs, .cells #[.int .i64 sz] 3 (0, 0)) :: (bo, .cells #[.func (.func ko) #[] #[]] 94 (0, 0)) :: L) := by
  have hM : Mem w ((W.alloc (.cells #[.int .i64 sz] 3)).alloc (.cells #[.func (.func ko) #[] #[]] 94)) ((W.heap.size, .cells #[.int .i64 sz] 3 (0, 0)) :: (W.heap.size + 1, .cells #[.func (.func ko) #[] #[]] 94 (0, 0)) :: L) := by
    have h1 := (h.push W.heap.size (.cells #[.int .i64 sz] 3 (0, 0)) rfl).push (W.heap.size + 1) (.cells #[.func (.func ko) #[] #[]] 94 (0, 0)) (by simp)
    refine h1.perm ?_
    rw [List.append_assoc]
    exact List.perm_append_comm
  have hmf : ∀ (fn : Fn) (first cap : Array Value) (w : World), (Instr.makeFunc fn first cap).run Tryz.prog w = .ok (.func fn first cap) w := fun _ _ _ _ => rfl
  have HM : Hid (Mem w ((W.alloc (.cells #[.int .i64 sz] 3)).alloc (.cells #[.func (.func ko) #[] #[]] 94)) ((W.heap.size, .cells #[.int .i64 sz] 3 (0, 0)) :: (W.heap.size + 1, .cells #[.func (.func ko) #[] #[]] 94 (0, 0)) :: L)) := hM
  clear hM h
  go_enter Tryz.func54, Tryz.ntmps54
  go_wp2_with fail
  refine bodyPost_ret (v := (fvNum_TI W.heap.size (W.heap.size + 1)).val) ?_ rfl ⟨_, _, rfl, HM.out.after ((Below.refl _ _).alloc (Nat.le_refl _) _)⟩
  exact results_cell_row (p := 4) (ty := 70) rfl _ _ (W.heap.size + 1 + 1) 70 _ (0, 0) _ rfl (heap_alloc3_new _ _ _ _) Tryz.underlying70 rfl (by kernel_rfl)
end Go.Proofs.YtbccadbnaggkhaaGreat

namespace Go.Proofs.YtbccadbnaggkhaaGreat
open Go.RowKit
open Sm
open Cf
set_option linter.unusedVariables false
set_option maxRecDepth 20000

end Go.Proofs.YtbccadbnaggkhaaGreat

namespace Go.Proofs.YtbccadbnaggkhaaGreat
open Go.RowKit
open Sm
open Cf
set_option linter.unusedVariables false
set_option maxRecDepth 20000

end Go.Proofs.YtbccadbnaggkhaaGreat

namespace Go.Proofs.YtbccadbnaggkhaaGreat
open Go.RowKit
open Sm
open Cf
set_option linter.unusedVariables false
set_option maxRecDepth 20000

end Go.Proofs.YtbccadbnaggkhaaGreat

