/-
  What rewrite.read and rewrite.right answer: what a packet carries, and whether its checksum is right.
-/
import Derived.Test.YtjalpbkfpjfigaaGreatRwFlow
import Derived.Test.YtjalpbkfpjfigaaGreatIpParse
import Derived.Test.YtjalpbkfpjfigaaGreatUdpParse
import Derived.Test.YtjalpbkfpjfigaaGreatUdpSum
import Derived.Test.YtjalpbkfpjfigaaGreatTcpRead
import Derived.Test.YtjalpbkfpjfigaaGreatTcpSum
namespace Go.Proofs.YtjalpbkfpjfigaaGreat
open Go.RowKit
open Sm
set_option linter.unusedVariables false
set_option maxRecDepth 20000

abbrev bdT : TypeId := 64
/-- A value that is what the packet p carries, behind base B. -/
def BdV (w : World) (B : Nat) (v : Value) (p : Pk) : Prop :=
  (p.proto = 17 ∧ ∃ u, v = .iface udT u ∧ UdV w B u (udRes p.body)) ∨ (p.proto = 6 ∧ ∃ u, v = .iface tcT u ∧ TcV w B u (tcRes p.body)) ∨ (p.proto = 1 ∧ ∃ u, v = .iface mgT u ∧ MgO w B u (mgRes p.body))
theorem BdV.below {w w' : World} {C : Nat} {v : Value} {p : Pk} (h : BdV w C v p) {B : Nat} (hb : Below B w w') (hB : w.heap.size ≤ B) : BdV w' C v p := by
  rcases h with ⟨e, u, ev, h⟩ | ⟨e, u, ev, h⟩ | ⟨e, u, ev, h⟩
  · exact Or.inl ⟨e, u, ev, h.below hb hB⟩
  · exact Or.inr (Or.inl ⟨e, u, ev, h.below hb hB⟩)
  · exact Or.inr (Or.inr ⟨e, u, ev, h.below hb hB⟩)
theorem BdV.mono {w : World} {C D : Nat} {v : Value} {p : Pk} (h : BdV w C v p) (hD : D ≤ C) : BdV w D v p := by
  rcases h with ⟨e, u, ev, h⟩ | ⟨e, u, ev, h⟩ | ⟨e, u, ev, h⟩
  · exact Or.inl ⟨e, u, ev, h.mono hD⟩
  · exact Or.inr (Or.inl ⟨e, u, ev, h.mono hD⟩)
  · exact Or.inr (Or.inr ⟨e, u, ev, h.mono hD⟩)

/-- A packet's fields, with its lists. -/
abbrev ipB (p : Pk) (o b : Value) : Array Value := ipA p.tos p.ttl p.proto p.id p.flags p.off p.src p.dst o b

set_option maxHeartbeats 2000000 in
/-- What rewrite.read answers, whatever packet it is handed. -/
theorem bread_any {w : World} {p : Pk} {ao bo : Option Addr} {no co cb : Nat} (hb : Row w bo p.body) (hc : p.body.length ≤ cb) :
    Calls Tryz.prog 55 #[.agg (ipB p (.slice ao no co) (.slice bo p.body.length cb))] w fun e w' => ∃ u, e = .returned (.tuple #[u, .int .i64 (bdErr p)]) ∧ (bdErr p = 0 → BdV w' w.heap.size u p) ∧ Below w.heap.size w w' := by
  have hM : Mem w (w.alloc (.cells (ipB p (.slice ao no co) (.slice bo p.body.length cb)) ipT)) [(w.heap.size, .cells (ipB p (.slice ao no co) (.slice bo p.body.length cb)) ipT)] := (Mem.nil w).push1 rfl
  have hrow := hM.row hb
  have hB0 := hM.below
  have hsz := hB0.size
  by_cases h17 : p.proto = 17
  · have e : bdErr p = udErr p.body := by unfold bdErr; rw [if_pos h17]
    rw [e]
    have hP := uparse_any hrow rfl hc
    have HF : Hid (∀ W v, UdV W w.heap.size v (udRes p.body) → BdV W w.heap.size (.iface udT v) p) := fun W v h => Or.inl ⟨h17, v, rfl, h⟩
    have HB : Hid _ := hB0
    have HZ : Hid _ := hsz
    clear hM hrow hB0 hsz e hb hc
    obtain ⟨tos, ttl, proto, id, flags, off, src, dst, opts, body⟩ := p
    simp only at h17 hP HF HB HZ ⊢
    subst h17
    generalize udErr body = E at *
    generalize body.length = n at *
    go_enter Tryz.func55, Tryz.ntmps55
    go_wp2_with fail
    refine hP.mono ?_
    rintro e w1 ⟨v, rfl, hv, hb1⟩
    have HV : Hid _ := hv
    have HB1 : Hid _ := hb1
    clear hv hb1 hP
    go_wp2_with fail
    go_ret2
    exact ⟨_, rfl, fun _ => HF.out _ _ (UdV.mono HV.out HZ.out), HB.out.trans (HB1.out.mono HZ.out)⟩
  by_cases h6 : p.proto = 6
  · have e : bdErr p = tcErr p.body := by unfold bdErr; rw [if_neg h17, if_pos h6]
    rw [e]
    have hP := tparse_any hrow rfl hc
    have HF : Hid (∀ W v, TcV W w.heap.size v (tcRes p.body) → BdV W w.heap.size (.iface tcT v) p) := fun W v h => Or.inr (Or.inl ⟨h6, v, rfl, h⟩)
    have HB : Hid _ := hB0
    have HZ : Hid _ := hsz
    clear hM hrow hB0 hsz e hb hc h17
    obtain ⟨tos, ttl, proto, id, flags, off, src, dst, opts, body⟩ := p
    simp only at h6 hP HF HB HZ ⊢
    subst h6
    generalize tcErr body = E at *
    generalize body.length = n at *
    go_enter Tryz.func55, Tryz.ntmps55
    go_wp2_with fail
    refine hP.mono ?_
    rintro e w1 ⟨v, rfl, hv, hb1⟩
    have HV : Hid _ := hv
    have HB1 : Hid _ := hb1
    clear hv hb1 hP
    go_wp2_with fail
    go_ret2
    exact ⟨_, rfl, fun _ => HF.out _ _ (TcV.mono HV.out HZ.out), HB.out.trans (HB1.out.mono HZ.out)⟩
  by_cases h1 : p.proto = 1
  · have e : bdErr p = mgErr p.body := by unfold bdErr; rw [if_neg h17, if_neg h6, if_pos h1]
    rw [e]
    have hP := mparse_own hrow rfl hc
    have HF : Hid (∀ W v, MgO W w.heap.size v (mgRes p.body) → BdV W w.heap.size (.iface mgT v) p) := fun W v h => Or.inr (Or.inr ⟨h1, v, rfl, h⟩)
    have HB : Hid _ := hB0
    have HZ : Hid _ := hsz
    clear hM hrow hB0 hsz e hb hc h17 h6
    obtain ⟨tos, ttl, proto, id, flags, off, src, dst, opts, body⟩ := p
    simp only at h1 hP HF HB HZ ⊢
    subst h1
    generalize mgErr body = E at *
    generalize body.length = n at *
    go_enter Tryz.func55, Tryz.ntmps55
    go_wp2_with fail
    refine hP.mono ?_
    rintro e w1 ⟨v, rfl, hv, hb1⟩
    have HV : Hid _ := hv
    have HB1 : Hid _ := hb1
    clear hv hb1 hP
    go_wp2_with fail
    go_ret2
    exact ⟨_, rfl, fun _ => HF.out _ _ (MgO.mono HV.out HZ.out), HB.out.trans (HB1.out.mono HZ.out)⟩
  · have e : bdErr p = 21 := by unfold bdErr; rw [if_neg h17, if_neg h6, if_neg h1]
    rw [e]
    have HB : Hid _ := hB0
    clear hM hrow hB0 hsz e hb hc
    obtain ⟨tos, ttl, proto, id, flags, off, src, dst, opts, body⟩ := p
    simp only at h1 h6 h17 HB ⊢
    generalize body.length = n at *
    go_enter Tryz.func55, Tryz.ntmps55
    go_wp2_with fail
    go_ret2
    exact ⟨_, rfl, fun h => (by omega), HB.out⟩

/-- The assertions. -/
theorem assert_udp (u : Value) (w : World) : (Instr.typeAssert (.iface udT u) bdT udT false).run Tryz.prog w = .ok u w := by kernel_rfl
theorem assert_tcp (u : Value) (w : World) : (Instr.typeAssert (.iface tcT u) bdT tcT false).run Tryz.prog w = .ok u w := by kernel_rfl
theorem assert_icmp (u : Value) (w : World) : (Instr.typeAssert (.iface mgT u) bdT mgT false).run Tryz.prog w = .ok u w := by kernel_rfl

set_option maxHeartbeats 2000000 in
/-- What rewrite.right answers. -/
theorem bright_any {w : World} {B : Nat} {p : Pk} {o b v : Value} (hp : p.Ok) (hv : BdV w B v p) :
    Calls Tryz.prog 56 #[.agg (ipB p o b), v] w fun e w' => e = .returned (.bool (bdRight p)) ∧ Below w.heap.size w w' := by
  have hM : Mem w (w.alloc (.cells (ipB p o b) ipT)) [(w.heap.size, .cells (ipB p o b) ipT)] := (Mem.nil w).push1 rfl
  have s0 := hp.src
  have d0 := hp.dst
  rcases hv with ⟨e, u, rfl, hu⟩ | ⟨e, u, rfl, hu⟩ | ⟨e, u, rfl, hu⟩
  · have HU : Hid (bdRight p = uright p.src p.dst (udRes p.body)) := by show _ = _; unfold bdRight; rw [if_pos e]
    have hta := assert_udp u
    have HC : Hid (∀ W, Below w.heap.size w W → Calls Tryz.prog 79 #[.int .u32 p.src, .int .u32 p.dst, u] W fun r w' => r = .returned (.bool (bdRight p)) ∧ Below W.heap.size W w') := fun W hb => by
      rw [HU.out]
      exact uright_any (udRes_ok hp.body) (hu.below hb (Nat.le_refl _)) p.src p.dst s0.1 s0.2 d0.1 d0.2
    have HM0 : Hid _ := hM
    clear hM HU hu s0 d0 hp
    generalize bdRight p = R at *
    obtain ⟨tos, ttl, proto, id, flags, off, src, dst, opts, body⟩ := p
    simp only at e HC HM0 ⊢
    subst e
    go_enter Tryz.func56, Tryz.ntmps56
    go_upto_region 3 with fail
    refine wp_letter (fun W => Mem w W [(w.heap.size, .cells (ipA tos ttl 17 id flags off src dst o b) ipT)]) HM0.out ?_
    intro w1 hM1
    have HM1 : Hid _ := hM1.drew
    have k6 : w1.cell? ⟨w.heap.size, 6, none⟩ = some (.int .u32 src) := hM1.cell 0 rfl 6
    have k7 : w1.cell? ⟨w.heap.size, 7, none⟩ = some (.int .u32 dst) := hM1.cell 0 rfl 7
    clear hM1 HM0
    go_region_held3 (fun w' => w'.cell? ⟨w.heap.size, 6, none⟩ = some (.int .u32 src) ∧ w'.cell? ⟨w.heap.size, 7, none⟩ = some (.int .u32 dst))
      (first | go_keep | exact ⟨hM2.cell 0 rfl 6, hM2.cell 0 rfl 7⟩)
      (first
        | (go_at_call 79; with_reducible refine (HC.out _ HM1.out.below).mono ?_; rintro e w2 ⟨rfl, hb2⟩; have hM2 := HM1.out.after hb2))
    all_goals
      have HB2 : Hid _ := hM2.below
      clear hM2 hb2
      go_wp2_with fail
      go_ret
      exact ⟨rfl, HB2.out⟩
  · have HU : Hid (bdRight p = tright p.src p.dst (tcRes p.body)) := by show _ = _; unfold bdRight; rw [if_neg (by omega), if_pos e]
    have hta := assert_tcp u
    have HC : Hid (∀ W, Below w.heap.size w W → Calls Tryz.prog 80 #[.int .u32 p.src, .int .u32 p.dst, u] W fun r w' => r = .returned (.bool (bdRight p)) ∧ Below W.heap.size W w') := fun W hb => by
      rw [HU.out]
      exact tright_any (tcRes_ok hp.body) (hu.below hb (Nat.le_refl _)) p.src p.dst s0.1 s0.2 d0.1 d0.2
    have HM0 : Hid _ := hM
    clear hM HU hu s0 d0 hp
    generalize bdRight p = R at *
    obtain ⟨tos, ttl, proto, id, flags, off, src, dst, opts, body⟩ := p
    simp only at e HC HM0 ⊢
    subst e
    go_enter Tryz.func56, Tryz.ntmps56
    go_upto_region 5 with fail
    refine wp_letter (fun W => Mem w W [(w.heap.size, .cells (ipA tos ttl 6 id flags off src dst o b) ipT)]) HM0.out ?_
    intro w1 hM1
    have HM1 : Hid _ := hM1.drew
    have k6 : w1.cell? ⟨w.heap.size, 6, none⟩ = some (.int .u32 src) := hM1.cell 0 rfl 6
    have k7 : w1.cell? ⟨w.heap.size, 7, none⟩ = some (.int .u32 dst) := hM1.cell 0 rfl 7
    clear hM1 HM0
    go_region_held3 (fun w' => w'.cell? ⟨w.heap.size, 6, none⟩ = some (.int .u32 src) ∧ w'.cell? ⟨w.heap.size, 7, none⟩ = some (.int .u32 dst))
      (first | go_keep | exact ⟨hM2.cell 0 rfl 6, hM2.cell 0 rfl 7⟩)
      (first
        | (go_at_call 80; with_reducible refine (HC.out _ HM1.out.below).mono ?_; rintro e w2 ⟨rfl, hb2⟩; have hM2 := HM1.out.after hb2))
    all_goals
      have HB2 : Hid _ := hM2.below
      clear hM2 hb2
      go_wp2_with fail
      go_ret
      exact ⟨rfl, HB2.out⟩
  · have HU : Hid (bdRight p = mright (mgRes p.body)) := by show _ = _; unfold bdRight; rw [if_neg (by omega), if_neg (by omega)]
    have hta := assert_icmp u
    have hC := mright_any (mgRes_ok hp.body) (hu.v.below hM.below (Nat.le_refl _))
    have HB0 : Hid _ := hM.below
    clear hM hu s0 d0 hp
    generalize bdRight p = R at *
    generalize mright (mgRes p.body) = R2 at *
    obtain ⟨tos, ttl, proto, id, flags, off, src, dst, opts, body⟩ := p
    simp only at e hC HB0 ⊢
    subst e
    go_enter Tryz.func56, Tryz.ntmps56
    go_wp2_with fail
    refine hC.mono ?_
    rintro e w2 ⟨rfl, hb2⟩
    have HB2 : Hid (Below w.heap.size w w2) := HB0.out.trans (hb2.mono HB0.out.size)
    clear hb2 HB0 hC
    go_wp2_with fail
    go_ret
    exact ⟨by rw [HU.out] <;> rfl, HB2.out⟩
end Go.Proofs.YtjalpbkfpjfigaaGreat
