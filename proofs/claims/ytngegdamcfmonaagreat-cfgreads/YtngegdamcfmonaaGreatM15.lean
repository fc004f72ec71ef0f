/-
  Settings as bytes: the field of a number keeps what is asked of a field (lych/api.Pair, uint32).
  Settings as bytes: the field of a number keeps what is asked of a field (lych/api.Tenant, uint32).
  Settings as bytes: the field of a text keeps what is asked of a field.
  Settings as bytes: fields one behind the other keep what is asked of a field (lych/api.Pair).
-/
import Derived.Test.YtngegdamcfmonaaGreatM09
import Derived.Test.YtngegdamcfmonaaGreatM07
import Derived.Test.YtngegdamcfmonaaGreatM04
import Derived.Test.YtngegdamcfmonaaGreatM06
import Derived.Test.YtngegdamcfmonaaGreatM05
namespace Go.Proofs.YtngegdamcfmonaaGreat
open Go.RowKit
open Sm
open Cf
set_option linter.unusedVariables false
set_option maxRecDepth 20000

def fvNum_PU (bs bo : Nat) : Fv := ⟨166, 167, 168, #[.pointer (some ⟨bs, 0, none⟩), .pointer (some ⟨bo, 0, none⟩)], #[.pointer (some ⟨bs, 0, none⟩), .pointer (some ⟨bo, 0, none⟩)], #[.pointer (some ⟨bo, 0, none⟩)]⟩
theorem fd_num_PU {α ρ : Type} {w : World} {L : List (Nat × Obj)} {I : Rp α ρ} {J : St' α} (bs bo sz ko o : Nat) (hs : sz ≤ 4) (fits : ∀ q, 0 ≤ q → q < 256 ^ sz → IntKind.u32.wrap q = q) (fg : α → Int) (fs : α → Int → α)
    (mb : (bs, .cells #[.int .i64 sz] 3 (0, 0)) ∈ L) (mo : (bo, .cells #[.func (.func ko) #[] #[]] 179 (0, 0)) ∈ L)
    (eo : Ent ko) (ho : ∀ V g off, Calls Tryz.prog ko #[.pointer (some ⟨g, off, none⟩)] V fun e V' => e = .returned (.pointer (some ⟨g, off + o, none⟩)) ∧ V = V')
    (hI : ∀ x r V g off, I x r V g off → V.cell? ⟨g, off + o, none⟩ = some (.int .u32 (fg x)))
    (hJ : ∀ x g T pre post V K, J w x g T pre post V K → ∃ A M, Lens w J o x g T pre post V K M A ∧ A[pre.length + o]? = some (.int .u32 (fg x)) ∧
      ∀ y V', Mem w V' ((g, .cells (A.setIfInBounds (pre.length + o) (.int .u32 y)) T (0, 0)) :: M) → J w (fs x y) g T pre post V' K) :
    Fd w L I J (fvNum_PU bs bo) (spNum sz fg fs) := by
  refine ⟨enters_of Tryz.func166 (by kernel_rfl) rfl, enters_of Tryz.func167 (by kernel_rfl) rfl, enters_of Tryz.func168 (by kernel_rfl) rfl, ?_, ?_, ?_⟩
  · intro K hK x r g off hx v l V hO hb
    have hb' : l.length + sz ≤ 1000000000 := by simpa [spNum, be_len] using hb
    have := nwr_PU hO bs bo sz ko ⟨g, off, none⟩ ⟨g, off + o, none⟩ (fg x) (by omega) (fun V hV => by rw [mem_box hV (hK _ mb)]; rfl) (fun V hV => by rw [mem_box hV (hK _ mo)]; rfl) eo (fun V => ho V g off) (fun V hV => hI _ _ _ _ _ (hx V hV)) hb'
    rw [be_wrap sz (by omega)] at this
    exact this
  · intro K hK x g T pre post a l c V hj hS
    obtain ⟨A, M, hl, hA, hset⟩ := hJ x g T pre post V K hj
    have := nrd_PU hl.mem hS bs bo sz ko (pre.length + o) ⟨g, pre.length, none⟩ (fg x) hs fits hA (fun V hV => by rw [mem_box hV (hl.sub _ (hK _ mb))]; rfl) (fun V hV => by rw [mem_box hV (hl.sub _ (hK _ mo))]; rfl) eo (fun V => ho V g pre.length)
    refine this.mono ?_
    intro e V' hR
    refine hR.mono (fs x) ?_ (hl.back V') (fun y hy => hset y V' hy)
    simp only [spNum]
    split <;> rfl
  · intro K hK x y r r' g off h of' hx V hV
    exact nsm_PU hV bo ko ⟨g, off, none⟩ ⟨g, off + o, none⟩ ⟨h, of', none⟩ ⟨h, of' + o, none⟩ (fg x) (fg y) (fun V hV => by rw [mem_box hV (hK _ mo)]; rfl) eo (fun V => ho V g off) (fun V => ho V h of') (fun V hV => hI _ _ _ _ _ (hx V hV).1) (fun V hV => hI _ _ _ _ _ (hx V hV).2)

set_option maxHeartbeats 2000000 in
/-- The field is made. -/
theorem mk_num_PU {w W : World} {L : List (Nat × Obj)} (h : Mem w W L) (sz ko : Nat) :
    Calls Tryz.prog 154 #[.int .i64 sz, .func (.func ko) #[] #[]] W fun e W' => ∃ bs bo, e = .returned (fvNum_PU bs bo).val ∧ Mem w W' ((bs, .cells #[.int .i64 sz] 3 (0, 0)) :: (bo, .cells #[.func (.func ko) #[] #[]] 179 (0, 0)) :: L) := by
  have hM : Mem w ((W.alloc (.cells #[.int .i64 sz] 3)).alloc (.cells #[.func (.func ko) #[] #[]] 179)) ((W.heap.size, .cells #[.int .i64 sz] 3 (0, 0)) :: (W.heap.size + 1, .cells #[.func (.func ko) #[] #[]] 179 (0, 0)) :: L) := by
    have h1 := (h.push W.heap.size (.cells #[.int .i64 sz] 3 (0, 0)) rfl).push (W.heap.size + 1) (.cells #[.func (.func ko) #[] #[]] 179 (0, 0)) (by simp)
    refine h1.perm ?_
    rw [List.append_assoc]
    exact List.perm_append_comm
  have hmf : ∀ (fn : Fn) (first cap : Array Value) (w : World), (Instr.makeFunc fn first cap).run Tryz.prog w = .ok (.func fn first cap) w := fun _ _ _ _ => rfl
  have HM : Hid (Mem w ((W.alloc (.cells #[.int .i64 sz] 3)).alloc (.cells #[.func (.func ko) #[] #[]] 179)) ((W.heap.size, .cells #[.int .i64 sz] 3 (0, 0)) :: (W.heap.size + 1, .cells #[.func (.func ko) #[] #[]] 179 (0, 0)) :: L)) := hM
  clear hM h
  go_enter Tryz.func154, Tryz.ntmps154
  go_wp2_with fail
  refine bodyPost_ret (v := (fvNum_PU W.heap.size (W.heap.size + 1)).val) ?_ rfl ⟨_, _, rfl, HM.out.after ((Below.refl _ _).alloc (Nat.le_refl _) _)⟩
  exact results_cell_row (p := 4) (ty := 155) rfl _ _ (W.heap.size + 1 + 1) 155 _ (0, 0) _ rfl (heap_alloc3_new _ _ _ _) Tryz.underlying155 rfl (by kernel_rfl)
end Go.Proofs.YtngegdamcfmonaaGreat

namespace Go.Proofs.YtngegdamcfmonaaGreat
open Go.RowKit
open Sm
open Cf
set_option linter.unusedVariables false
set_option maxRecDepth 20000

def fvNum_TU (bs bo : Nat) : Fv := ⟨121, 122, 123, #[.pointer (some ⟨bs, 0, none⟩), .pointer (some ⟨bo, 0, none⟩)], #[.pointer (some ⟨bs, 0, none⟩), .pointer (some ⟨bo, 0, none⟩)], #[.pointer (some ⟨bo, 0, none⟩)]⟩
theorem fd_num_TU {α ρ : Type} {w : World} {L : List (Nat × Obj)} {I : Rp α ρ} {J : St' α} (bs bo sz ko o : Nat) (hs : sz ≤ 4) (fits : ∀ q, 0 ≤ q → q < 256 ^ sz → IntKind.u32.wrap q = q) (fg : α → Int) (fs : α → Int → α)
    (mb : (bs, .cells #[.int .i64 sz] 3 (0, 0)) ∈ L) (mo : (bo, .cells #[.func (.func ko) #[] #[]] 130 (0, 0)) ∈ L)
    (eo : Ent ko) (ho : ∀ V g off, Calls Tryz.prog ko #[.pointer (some ⟨g, off, none⟩)] V fun e V' => e = .returned (.pointer (some ⟨g, off + o, none⟩)) ∧ V = V')
    (hI : ∀ x r V g off, I x r V g off → V.cell? ⟨g, off + o, none⟩ = some (.int .u32 (fg x)))
    (hJ : ∀ x g T pre post V K, J w x g T pre post V K → ∃ A M, Lens w J o x g T pre post V K M A ∧ A[pre.length + o]? = some (.int .u32 (fg x)) ∧
      ∀ y V', Mem w V' ((g, .cells (A.setIfInBounds (pre.length + o) (.int .u32 y)) T (0, 0)) :: M) → J w (fs x y) g T pre post V' K) :
    Fd w L I J (fvNum_TU bs bo) (spNum sz fg fs) := by
  refine ⟨enters_of Tryz.func121 (by kernel_rfl) rfl, enters_of Tryz.func122 (by kernel_rfl) rfl, enters_of Tryz.func123 (by kernel_rfl) rfl, ?_, ?_, ?_⟩
  · intro K hK x r g off hx v l V hO hb
    have hb' : l.length + sz ≤ 1000000000 := by simpa [spNum, be_len] using hb
    have := nwr_TU hO bs bo sz ko ⟨g, off, none⟩ ⟨g, off + o, none⟩ (fg x) (by omega) (fun V hV => by rw [mem_box hV (hK _ mb)]; rfl) (fun V hV => by rw [mem_box hV (hK _ mo)]; rfl) eo (fun V => ho V g off) (fun V hV => hI _ _ _ _ _ (hx V hV)) hb'
    rw [be_wrap sz (by omega)] at this
    exact this
  · intro K hK x g T pre post a l c V hj hS
    obtain ⟨A, M, hl, hA, hset⟩ := hJ x g T pre post V K hj
    have := nrd_TU hl.mem hS bs bo sz ko (pre.length + o) ⟨g, pre.length, none⟩ (fg x) hs fits hA (fun V hV => by rw [mem_box hV (hl.sub _ (hK _ mb))]; rfl) (fun V hV => by rw [mem_box hV (hl.sub _ (hK _ mo))]; rfl) eo (fun V => ho V g pre.length)
    refine this.mono ?_
    intro e V' hR
    refine hR.mono (fs x) ?_ (hl.back V') (fun y hy => hset y V' hy)
    simp only [spNum]
    split <;> rfl
  · intro K hK x y r r' g off h of' hx V hV
    exact nsm_TU hV bo ko ⟨g, off, none⟩ ⟨g, off + o, none⟩ ⟨h, of', none⟩ ⟨h, of' + o, none⟩ (fg x) (fg y) (fun V hV => by rw [mem_box hV (hK _ mo)]; rfl) eo (fun V => ho V g off) (fun V => ho V h of') (fun V hV => hI _ _ _ _ _ (hx V hV).1) (fun V hV => hI _ _ _ _ _ (hx V hV).2)

set_option maxHeartbeats 2000000 in
/-- The field is made. -/
theorem mk_num_TU {w W : World} {L : List (Nat × Obj)} (h : Mem w W L) (sz ko : Nat) :
    Calls Tryz.prog 67 #[.int .i64 sz, .func (.func ko) #[] #[]] W fun e W' => ∃ bs bo, e = .returned (fvNum_TU bs bo).val ∧ Mem w W' ((bs, .cells #[.int .i64 sz] 3 (0, 0)) :: (bo, .cells #[.func (.func ko) #[] #[]] 130 (0, 0)) :: L) := by
  have hM : Mem w ((W.alloc (.cells #[.int .i64 sz] 3)).alloc (.cells #[.func (.func ko) #[] #[]] 130)) ((W.heap.size, .cells #[.int .i64 sz] 3 (0, 0)) :: (W.heap.size + 1, .cells #[.func (.func ko) #[] #[]] 130 (0, 0)) :: L) := by
    have h1 := (h.push W.heap.size (.cells #[.int .i64 sz] 3 (0, 0)) rfl).push (W.heap.size + 1) (.cells #[.func (.func ko) #[] #[]] 130 (0, 0)) (by simp)
    refine h1.perm ?_
    rw [List.append_assoc]
    exact List.perm_append_comm
  have hmf : ∀ (fn : Fn) (first cap : Array Value) (w : World), (Instr.makeFunc fn first cap).run Tryz.prog w = .ok (.func fn first cap) w := fun _ _ _ _ => rfl
  have HM : Hid (Mem w ((W.alloc (.cells #[.int .i64 sz] 3)).alloc (.cells #[.func (.func ko) #[] #[]] 130)) ((W.heap.size, .cells #[.int .i64 sz] 3 (0, 0)) :: (W.heap.size + 1, .cells #[.func (.func ko) #[] #[]] 130 (0, 0)) :: L)) := hM
  clear hM h
  go_enter Tryz.func67, Tryz.ntmps67
  go_wp2_with fail
  refine bodyPost_ret (v := (fvNum_TU W.heap.size (W.heap.size + 1)).val) ?_ rfl ⟨_, _, rfl, HM.out.after ((Below.refl _ _).alloc (Nat.le_refl _) _)⟩
  exact results_cell_row (p := 4) (ty := 79) rfl _ _ (W.heap.size + 1 + 1) 79 _ (0, 0) _ rfl (heap_alloc3_new _ _ _ _) Tryz.underlying79 rfl (by kernel_rfl)
end Go.Proofs.YtngegdamcfmonaaGreat

namespace Go.Proofs.YtngegdamcfmonaaGreat
open Go.RowKit
open Sm
open Cf
set_option linter.unusedVariables false
set_option maxRecDepth 20000

def fvTxt_H (bo : Nat) : Fv := ⟨157, 158, 159, #[.pointer (some ⟨bo, 0, none⟩)], #[.pointer (some ⟨bo, 0, none⟩)], #[.pointer (some ⟨bo, 0, none⟩)]⟩
theorem fd_Txt_H {α ρ : Type} {w : World} {L : List (Nat × Obj)} {I : Rp α ρ} {J : St' α} (bo ko o : Nat) (fg : α → ByteArray) (fs : α → ByteArray → α)
    (mo : (bo, .cells #[.func (.func ko) #[] #[]] 159 (0, 0)) ∈ L)
    (eo : Ent ko) (ho : ∀ V g off, Calls Tryz.prog ko #[.pointer (some ⟨g, off, none⟩)] V fun e V' => e = .returned (.pointer (some ⟨g, off + o, none⟩)) ∧ V = V')
    (hI : ∀ x r V g off, I x r V g off → (fg x).size ≤ 140737488351232 ∧ V.cell? ⟨g, off + o, none⟩ = some (.string (fg x)))
    (hJ : ∀ x g T pre post V K, J w x g T pre post V K → ∃ A M, Lens w J o x g T pre post V K M A ∧ A[pre.length + o]? = some (.string (fg x)) ∧
      ∀ y V', Mem w V' ((g, .cells (A.setIfInBounds (pre.length + o) (.string y)) T (0, 0)) :: M) → J w (fs x y) g T pre post V' K) :
    Fd w L I J (fvTxt_H bo) (spTxt fg fs) := by
  refine ⟨enters_of Tryz.func157 (by kernel_rfl) rfl, enters_of Tryz.func158 (by kernel_rfl) rfl, enters_of Tryz.func159 (by kernel_rfl) rfl, ?_, ?_, ?_⟩
  · intro K hK x r g off hx v l V hO hb
    exact twr_H hO bo ko ⟨g, off, none⟩ ⟨g, off + o, none⟩ (fg x) (hI _ _ _ _ _ (hx V hO.mem)).1 (fun V hV => by rw [mem_box hV (hK _ mo)]; rfl) eo (fun V => ho V g off) (fun V hV => (hI _ _ _ _ _ (hx V hV)).2) hb
  · intro K hK x g T pre post a l c V hj hS
    obtain ⟨A, M, hl, hA, hset⟩ := hJ x g T pre post V K hj
    have := trd_H hl.mem hS bo ko (pre.length + o) ⟨g, pre.length, none⟩ (fg x) hA (fun V hV => by rw [mem_box hV (hl.sub _ (hK _ mo))]; rfl) eo (fun V => ho V g pre.length)
    refine this.mono ?_
    intro e V' hR
    exact hR.mono (fs x) rfl (hl.back V') (fun y hy => hset y V' hy)
  · intro K hK x y r r' g off h of' hx V hV
    exact tsm_H hV bo ko ⟨g, off, none⟩ ⟨g, off + o, none⟩ ⟨h, of', none⟩ ⟨h, of' + o, none⟩ (fg x) (fg y) (fun V hV => by rw [mem_box hV (hK _ mo)]; rfl) eo (fun V => ho V g off) (fun V => ho V h of') (fun V hV => (hI _ _ _ _ _ (hx V hV).1).2) (fun V hV => (hI _ _ _ _ _ (hx V hV).2).2)
set_option maxHeartbeats 2000000 in
/-- The field is made. -/
theorem mk_Txt_H {w W : World} {L : List (Nat × Obj)} (h : Mem w W L) (ko : Nat) :
    Calls Tryz.prog 89 #[.func (.func ko) #[] #[]] W fun e W' => ∃ bo, e = .returned (fvTxt_H bo).val ∧ Mem w W' ((bo, .cells #[.func (.func ko) #[] #[]] 159 (0, 0)) :: L) := by
  have hM : Mem w (W.alloc (.cells #[.func (.func ko) #[] #[]] 159)) ((W.heap.size, .cells #[.func (.func ko) #[] #[]] 159 (0, 0)) :: L) := (h.push W.heap.size (.cells #[.func (.func ko) #[] #[]] 159 (0, 0)) rfl).perm List.perm_append_comm
  have hmf : ∀ (fn : Fn) (first cap : Array Value) (w : World), (Instr.makeFunc fn first cap).run Tryz.prog w = .ok (.func fn first cap) w := fun _ _ _ _ => rfl
  have HM : Hid (Mem w (W.alloc (.cells #[.func (.func ko) #[] #[]] 159)) ((W.heap.size, .cells #[.func (.func ko) #[] #[]] 159 (0, 0)) :: L)) := hM
  clear hM h
  go_enter Tryz.func89, Tryz.ntmps89
  go_wp2_with fail
  refine bodyPost_ret (v := (fvTxt_H W.heap.size).val) ?_ rfl ⟨_, rfl, HM.out.after ((Below.refl _ _).alloc (Nat.le_refl _) _)⟩
  exact results_cell_row (p := 2) (ty := 86) rfl _ _ (W.heap.size + 1) 86 _ (0, 0) _ rfl (heap_alloc2_new _ _ _) Tryz.underlying86 rfl (by kernel_rfl)
end Go.Proofs.YtngegdamcfmonaaGreat

namespace Go.Proofs.YtngegdamcfmonaaGreat
open Go.RowKit
open Sm
open Cf
set_option linter.unusedVariables false
set_option maxRecDepth 20000

def fvAll_P (cb : Nat) : Fv := ⟨163, 164, 165, #[.pointer (some ⟨cb, 0, none⟩)], #[.pointer (some ⟨cb, 0, none⟩)], #[.pointer (some ⟨cb, 0, none⟩)]⟩
theorem fd_all_P {α ρ : Type} {w : World} {L : List (Nat × Obj)} {I : Rp α ρ} {J : St' α} (cb lb n : Nat) (fs : List Fv) (ss : List (Sp α)) (hn : fs.length = n) (hn2 : n ≤ 1000)
    (mc : (cb, .cells #[.slice (some ⟨lb, 0, none⟩) n n] 180 (0, 0)) ∈ L) (ml : (lb, .cells (fs.flatMap Fv.cells).toArray 155 (0, 0)) ∈ L)
    (hfs : FdAll w L I J fs ss) (hst : ∀ x g T pre post V V' K, J w x g T pre post V K → Below V.heap.size V V' → J w x g T pre post V' K) (hJM : ∀ x g T pre post V K, J w x g T pre post V K → Mem w V K) :
    Fd w L I J (fvAll_P cb) (spAll ss) := by
  have hss : ss.length = n := by rw [← hfs.len]; exact hn
  have hcell : ∀ K, Sub L K → ∀ V, Mem w V K → V.cell? ⟨cb, 0, none⟩ = some (.slice (some ⟨lb, 0, none⟩) n n) := fun K hK V hV => by rw [mem_box hV (hK _ mc)]; rfl
  have hcells : ∀ K, Sub L K → ∀ V, Mem w V K → ∀ i, i < n → V.cell? ⟨lb, i * 3, none⟩ = some (.func (.func (fs.getD i fv0).kw) #[] (fs.getD i fv0).cw) ∧
      V.cell? ⟨lb, i * 3 + 1, none⟩ = some (.func (.func (fs.getD i fv0).kr) #[] (fs.getD i fv0).cr) ∧ V.cell? ⟨lb, i * 3 + 2, none⟩ = some (.func (.func (fs.getD i fv0).ks) #[] (fs.getD i fv0).cs) := by
    intro K hK V hV i hi
    obtain ⟨h1, h2, h3⟩ := flat_get fs i (by omega)
    refine ⟨?_, ?_, ?_⟩
    · rw [mem_box hV (hK _ ml)]; simpa using h1
    · rw [mem_box hV (hK _ ml)]; simpa using h2
    · rw [mem_box hV (hK _ ml)]; simpa using h3
  refine ⟨enters_of Tryz.func163 (by kernel_rfl) rfl, enters_of Tryz.func164 (by kernel_rfl) rfl, enters_of Tryz.func165 (by kernel_rfl) rfl, ?_, ?_, ?_⟩
  · intro K hK x r g off hx v l V hO hb
    have := awr_P (H := fun v l V => Out w V v l K) (fun v l V V' h hB => h.after hB) ⟨g, off, none⟩ cb lb n hn2 (fun i => (fs.getD i fv0).kw) (fun i => (fs.getD i fv0).kr) (fun i => (fs.getD i fv0).ks) (fun i => (fs.getD i fv0).cw) (fun i => (fs.getD i fv0).cr) (fun i => (fs.getD i fv0).cs)
      (fun v l V h => hcell K hK V h.mem) (fun v l V h => hcells K hK V h.mem) (fun i => (ss.getD i sp0).enc x) (fun i hi => (hfs.at_ i (by omega)).ew) (fun i hi v l V h hb => (hfs.at_ i (by omega)).wr K hK x r g off hx v l V h hb) v l V hO (by simp only [spAll, hss] at hb; exact hb)
    simp only [spAll, hss]
    exact this
  · intro K hK x g T pre post a l c V hj hS
    have := ard_P (w := w) (L := K) (J := fun y V => J w y g T pre post V K) (fun y V V' h hB => hst y g T pre post V V' K h hB) ⟨g, pre.length, none⟩ cb lb n hn2 (fun i => (fs.getD i fv0).kw) (fun i => (fs.getD i fv0).kr) (fun i => (fs.getD i fv0).ks) (fun i => (fs.getD i fv0).cw) (fun i => (fs.getD i fv0).cr) (fun i => (fs.getD i fv0).cs)
      (fun y V h => hcell K hK V (hJM _ _ _ _ _ _ _ h)) (fun y V h => hcells K hK V (hJM _ _ _ _ _ _ _ h)) (fun i => (ss.getD i sp0).dec) (fun i hi => (hfs.at_ i (by omega)).er) (fun i hi y l a c V h hS => (hfs.at_ i (by omega)).rd K hK y g T pre post a l c V h hS) x l a c V hj hS
    simp only [spAll, hss]
    exact this
  · intro K hK x y r r' g off h of' hx V hV
    have := asm_P (M := fun V => Mem w V K) (fun V V' h hB => h.after hB) ⟨g, off, none⟩ ⟨h, of', none⟩ cb lb n hn2 (fun i => (fs.getD i fv0).kw) (fun i => (fs.getD i fv0).kr) (fun i => (fs.getD i fv0).ks) (fun i => (fs.getD i fv0).cw) (fun i => (fs.getD i fv0).cr) (fun i => (fs.getD i fv0).cs)
      (fun V h => hcell K hK V h) (fun V h => hcells K hK V h) (fun i => (ss.getD i sp0).eq x y) (fun i hi => (hfs.at_ i (by omega)).es) (fun i hi V hV => (hfs.at_ i (by omega)).sm K hK x y r r' g off h of' hx V hV) V hV
    simp only [spAll, hss]
    exact this

set_option maxHeartbeats 2000000 in
/-- The field is made. -/
theorem mk_all_P {w W : World} {L : List (Nat × Obj)} (h : Mem w W L) (lb n : Nat) :
    Calls Tryz.prog 153 #[.slice (some ⟨lb, 0, none⟩) n n] W fun e W' => ∃ cb, e = .returned (fvAll_P cb).val ∧ Mem w W' ((cb, .cells #[.slice (some ⟨lb, 0, none⟩) n n] 180 (0, 0)) :: L) := by
  have hM : Mem w (W.alloc (.cells #[.slice (some ⟨lb, 0, none⟩) n n] 180)) ((W.heap.size, .cells #[.slice (some ⟨lb, 0, none⟩) n n] 180 (0, 0)) :: L) := (h.push W.heap.size (.cells #[.slice (some ⟨lb, 0, none⟩) n n] 180 (0, 0)) rfl).perm List.perm_append_comm
  have hmf : ∀ (fn : Fn) (first cap : Array Value) (w : World), (Instr.makeFunc fn first cap).run Tryz.prog w = .ok (.func fn first cap) w := fun _ _ _ _ => rfl
  have HM : Hid (Mem w (W.alloc (.cells #[.slice (some ⟨lb, 0, none⟩) n n] 180)) ((W.heap.size, .cells #[.slice (some ⟨lb, 0, none⟩) n n] 180 (0, 0)) :: L)) := hM
  clear hM h
  go_enter Tryz.func153, Tryz.ntmps153
  go_wp2_with fail
  refine bodyPost_ret (v := (fvAll_P W.heap.size).val) ?_ rfl ⟨_, rfl, HM.out.after ((Below.refl _ _).alloc (Nat.le_refl _) _)⟩
  exact results_cell_row (p := 2) (ty := 155) rfl _ _ (W.heap.size + 1) 155 _ (0, 0) _ rfl (heap_alloc2_new _ _ _) Tryz.underlying155 rfl (by kernel_rfl)
end Go.Proofs.YtngegdamcfmonaaGreat

