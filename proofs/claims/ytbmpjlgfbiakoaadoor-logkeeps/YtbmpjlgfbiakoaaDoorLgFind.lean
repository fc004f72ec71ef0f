/-
  What package log's find answers.
-/
import Derived.Test.YtbmpjlgfbiakoaaDoorLgEnts
import Derived.Test.YtbmpjlgfbiakoaaDoorLgErr
namespace Go.Proofs.YtbmpjlgfbiakoaaDoor
open Go.RowKit
open Sm
set_option linter.unusedVariables false

/-- What the program's two variables hold. -/
structure Gl (W : World) (a : Addr) : Prop where
  sent : W.cell? ⟨0, 0, none⟩ = some (.iface 125 (.pointer (some a)))
  hand : W.cell? ⟨1, 0, none⟩ = some (.iface 109 (.agg #[.pointer (some ⟨2, 72, none⟩)]))
theorem Gl.on {W W' : World} {a : Addr} {K : List (Nat × Obj)} (g : Gl W a) (h : Mem W W' K) : Gl W' a :=
  ⟨by rw [← g.sent]; exact h.old (cell_lt g.sent), by rw [← g.hand]; exact h.old (cell_lt g.hand)⟩

section
variable {w W : World} {p h m : Nat} {D : Dk} {hc : Array Value} {ks : List Bk} {L : List (Nat × Obj)}
set_option maxRecDepth 20000 in
set_option maxHeartbeats 1000000 in
/-- No power. -/
theorem find_dead (H : DkAt w W p h m D hc ks L) {a : Addr} (hG : Gl W a) (hd : D.dead = true) :
    Calls Tryd.prog 29 #[.pointer (some ⟨p, 0, none⟩)] W fun e W' => e = .returned (.tuple #[.slice none 0 0, .int .i64 42]) ∧ ∃ K, Mem W W' K := by
  have hr : Calls Tryd.prog 36 #[.pointer (some ⟨p, 0, none⟩), .int .i64 0] W fun e W' => e = .returned (.tuple #[.agg en0, .iface 34 (.int .i64 42)]) ∧ ∃ K, Mem W W' K := rd_dead H hd 0 (by omega)
  have HG : Hid (Gl W a) := hG
  clear hG H
  go_enter Tryd.func29, Tryd.ntmps29
  go_wp2_with fail
  refine wp_loop_rounds 1 ?_
  rw [rounds_succ]
  go_wp2_with fail
  refine hr.mono ?_
  rintro e w2 ⟨rfl, K, h2⟩
  go_upto_region 8 with fail
  refine wp_letter (fun V => Mem W V (K ++ [(w2.heap.size, .cells en0 enT (0, 0))] ++ [(w2.heap.size + 1, .cells #[.int .i64 0] 34 (0, 0))])) ((h2.alloc _).push (w2.heap.size + 1) _ (by simp)) ?_
  intro wx hx
  have gx := HG.out.on hx
  have s1 := gx.sent
  generalize w2.heap.size + 1 = b8 at *
  have k8 : wx.cell? ⟨b8, 0, none⟩ = some (.int .i64 0) := cell_of (hx.at_ (b8, _) (List.mem_append_right _ (List.mem_singleton.mpr rfl))) 0
  have f8 : wx.frozen? ⟨b8, 0, none⟩ = false := by
    have := hx.at_ (b8, _) (List.mem_append_right _ (List.mem_singleton.mpr rfl))
    simp only at this
    simp [World.frozen?, this]
  have hI := is_errno 42 a wx
  have hA := as_hit 42 ⟨b8, 0, none⟩ (.int .i64 0) wx gx.hand k8 f8
  have HX : Hid (Mem W wx (K ++ [(w2.heap.size, .cells en0 enT (0, 0))] ++ [(b8, .cells #[.int .i64 0] 34 (0, 0))])) := hx
  clear hx gx h2 hr
  go_wp2_with fail
  refine hI.mono ?_
  rintro e w' ⟨rfl, rfl⟩
  go_wp2_with fail
  refine hA.mono ?_
  rintro e w3 ⟨rfl, hw3⟩
  have h3 : Mem W w3 (K ++ [(w2.heap.size, .cells en0 enT (0, 0))] ++ [(b8, .cells #[.int .i64 42] 34 (0, 0))] ++ [(wx.heap.size, .cells #[.pointer (some ⟨b8, 0, none⟩)] 77 (0, 0))] ++ [(wx.heap.size + 1, .cells #[.pointer (some ⟨2, 77, none⟩), .pointer (some ⟨wx.heap.size, 0, none⟩), .int .u64 150] 95 (0, 0))] ++ [(wx.heap.size + 1 + 1, .cells #[.pointer (some ⟨2, 77, none⟩), .pointer (some ⟨wx.heap.size, 0, none⟩), .int .u64 150] 95 (0, 0))] ++ [(wx.heap.size + 1 + 1 + 1, .cells #[.int .i64 42] 34 (0, 0))]) := by
    subst hw3
    have h4 := ((((HX.out.push wx.heap.size (.cells #[.pointer (some ⟨b8, 0, none⟩)] 77) rfl).push (wx.heap.size + 1) (.cells #[.pointer (some ⟨2, 77, none⟩), .pointer (some ⟨wx.heap.size, 0, none⟩), .int .u64 150] 95) (by simp)).push (wx.heap.size + 1 + 1) (.cells #[.pointer (some ⟨2, 77, none⟩), .pointer (some ⟨wx.heap.size, 0, none⟩), .int .u64 150] 95) (by simp)).push (wx.heap.size + 1 + 1 + 1) (.cells #[.int .i64 42] 34) (by simp))
    have h5 := h4.set (K.length + 1) (g := b8) (c := #[.int .i64 0]) (t := 34) (by simp) 0 (.int .i64 42)
    refine h5.perm (List.Perm.of_eq ?_)
    simp
  have k9 : w3.cell? ⟨b8, 0, none⟩ = some (.int .i64 42) := cell_of (h3.at_ (b8, .cells #[.int .i64 42] 34 (0, 0)) (by simp)) 0
  have H3 : Hid (∃ K, Mem W w3 K) := ⟨_, h3⟩
  clear h3 hw3 HX k8 f8 hI hA s1
  go_wp2_with fail
  go_quiet (fail)
  go_wp2
  obtain ⟨K3, h3⟩ := H3.out
  exact bodyPost_ret (v := .tuple #[.slice none 0 0, .int .i64 42]) (by simp [results, Tryd.results29, go_sem]) rfl ⟨rfl, K3, h3.drewN _⟩
end
end Go.Proofs.YtbmpjlgfbiakoaaDoor
