/-
  Wheel: the document's own: Tick.
-/
import Derived.Test.YtfplmefcblkljaaWhSet
import Derived.LoopN
import Derived.BigQuiet
namespace Go.Proofs.Ytfplmefcblkljaa
open Go.RowKit
open Sm
open Po
open Wh
set_option linter.unusedVariables false
set_option linter.unusedSimpArgs false
set_option maxRecDepth 20000

namespace Wh
theorem infoI : (Try.prog.info? 3).map (fun i => (i.zero, i.size, i.bytes)) = some (some (.int .i64 0), 1, 8) := by kernel_rfl
/-- Numbers as a list of cells. -/
def ic (l : List Int) : List Value := l.map (Value.int .i64)
def ln (v : Value) : Nat := match v with
  | .slice _ n _ => n
  | _ => 0
/-- What a tick leaves: now, what is told, what is left. -/
def tnow (now : Int) : Int := if now < 2147483647 then now + 1 else now
def tout (now : Int) (xs : List Du) : List Int := if now < 2147483647 then wout (now + 1) xs else []
def trest (now : Int) (xs : List Du) : List Du := if now < 2147483647 then wrest (now + 1) xs else xs
def RtQ (w : World) (m : Nat) (L : List (Nat × Obj)) (os : List Int) (zs : List Du) (now : Int) (e : Ending) (W' : World) : Prop :=
  ∃ v D B', e = .returned v ∧ SlB 3 1 v os.length (ic os) D ∧ RW zs now m B' ∧ Mem w W' (D ++ (B' ++ L))
set_option maxHeartbeats 8000000 in
theorem rtick_any {w W : World} {m : Nat} {xs : List Du} {now : Int} {B L : List (Nat × Obj)} (h : RW xs now m B) (hM : Mem w W (B ++ L)) (hn : xs.length ≤ 100000) (hnow : 0 ≤ now ∧ now ≤ 4294967295) :
    Calls Try.prog 15 #[.pointer (some ⟨m, 0, none⟩)] W (RtQ w m L (tout now xs) (trest now xs) (tnow now)) := by
  have HR : Hid (RW xs now m B) := h
  obtain ⟨v, C, hs, rfl⟩ := h
  have c1 : W.cell? ⟨m, 1, none⟩ = some (.int .u32 now) := hM.cell 0 rfl 1
  have f1 : W.frozen? ⟨m, 1, none⟩ = false := hM.free 0 rfl 1
  by_cases hlast : now < 2147483647
  · have e1 : tnow now = now + 1 := if_pos hlast
    have e2 : tout now xs = wout (now + 1) xs := if_pos hlast
    have e3 : trest now xs = wrest (now + 1) xs := if_pos hlast
    rw [e1, e2, e3]
    clear e1 e2 e3
    have w1 : IntKind.u32.wrap (now + 1) = now + 1 := by rw [IntKind.wrap_u32]; omega
    have hge : ¬ (2147483647 ≤ now) := by omega
    obtain ⟨N, hN⟩ : ∃ N, now + 1 = N := ⟨_, rfl⟩
    have HM0 : Hid (∃ B0, RW xs N m B0 ∧ Mem w (W.setCell ⟨m, 1, none⟩ (.int .u32 N)) ([] ++ (B0 ++ L))) := by
      refine ⟨_, ⟨v, C, hs, rfl⟩, ?_⟩
      exact hM.set 0 rfl 1 (.int .u32 N)
    rw [hN] at w1 ⊢
    clear hM hs HR
    go_enter Try.func15, Try.ntmps15
    go_upto_region 4 with fail
    refine wp_letter (fun X => ∃ B0, RW xs N m B0 ∧ Mem w X ([] ++ (B0 ++ L))) (by exact HM0.out) ?_
    rintro V0 hM1
    have HV : Hid (∃ B0, RW xs N m B0 ∧ Mem w V0 ([] ++ (B0 ++ L))) := hM1
    clear HM0 hM1 c1 f1 w1 hge
    go_wp2_with fail
    go_loopw [3] (fun u3 w' => ∃ (os : List Int) (zs : List Du), ln u3 = os.length ∧ os.length + zs.length ≤ xs.length ∧ Hid (∃ D B0, SlB 3 1 u3 os.length (ic os) D ∧ RW zs N m B0 ∧ Mem w w' (D ++ (B0 ++ L)) ∧ wout N xs = os ++ wout N zs ∧ wrest N xs = wrest N zs)) (fun u3 w' => xs.length - ln u3)
    case atStart =>
      obtain ⟨B0, h1, h2⟩ := HV.out
      exact ⟨[], xs, rfl, by simp, [], B0, SlB.nil _ _, h1, h2, rfl, rfl⟩
    case round =>
      obtain ⟨os, zs, hl3, hlen, HD⟩ := hrel
      obtain ⟨D, B0, hD, hB0, hM2, ho, hr⟩ := HD.out
      clear HD HV
      obtain ⟨qa, qc, rfl, hq1, hq2⟩ := hD.slice
      have hMB : Mem w wr (B0 ++ (D ++ L)) := hM2.perm (by
        classical
        rw [List.perm_iff_count]
        intro q
        simp only [List.count_append]
        omega)
      obtain ⟨a, cap, b0, b1, k1, k2, hx⟩ := hB0.box hMB
      have k2' : cap ≤ 9223372036854775807 := by simp only [maxLen] at k2; omega
      cases zs with
      | nil =>
        have HE : Hid (∃ B', SlB 3 1 (.slice qa os.length qc) (wout N xs).length (ic (wout N xs)) D ∧ RW (wrest N xs) N m B' ∧ ∀ n, Mem w (wr.drewN n) (D ++ (B' ++ L))) := by
          rw [ho, hr]
          simp only [wout, wrest, List.append_nil]
          exact ⟨B0, hD, hB0, fun n => hM2.drewN n⟩
        clear hD hB0 hM2 ho hr hMB hx
        obtain ⟨n0, hn0⟩ : ∃ n, ([] : List Du).length = n := ⟨_, rfl⟩
        rw [hn0] at b0 k1
        have k4 : decide (0 < n0) = false := by rw [← hn0]; rfl
        clear hn0
        go_wp2_with fail
        go_quiet (fail)
        go_wp2_with fail
        go_ret
        obtain ⟨B', z1, z2, z3⟩ := HE.out
        exact ⟨_, D, B', rfl, z1, z2, z3 _⟩
      | cons d zs =>
        obtain ⟨b, off, rfl, q0, q1⟩ := hx 0 (by simp)
        simp only [List.getElem_cons_zero, Nat.zero_mul, Nat.add_zero] at q0 q1
        have k3 : decide (0 < (d :: zs).length) = true := by simp
        have k5 : 0 < (d :: zs).length := by simp
        by_cases hd : d.2 ≤ N
        · have hdd : decide (d.2 ≤ N) = true := decide_eq_true hd
          have HB0 : Hid (RW (d :: zs) N m B0) := hB0
          have HDD : Hid (SlB 3 1 (.slice qa os.length qc) os.length (ic os) D) := hD
          have HM2 : Hid (∀ n, Mem w (wr.drewN n) (D ++ (B0 ++ L))) := fun n => hM2.drewN n
          have ho2 : wout N xs = (os ++ [d.1]) ++ wout N zs ∧ wrest N xs = wrest N zs := by
            rw [ho, hr]
            simp only [wout, wrest, if_pos hd, List.append_assoc, List.cons_append, List.nil_append, and_self]
          have HO : Hid (wout N xs = (os ++ [d.1]) ++ wout N zs ∧ wrest N xs = wrest N zs) := ho2
          clear hD hB0 hM2 ho hr hMB hx ho2
          generalize hz : (d :: zs).length = n1 at *
          go_wp2_with fail
          go_quiet (fail)
          go_upto_region 6 with fail
          refine wp_letter (fun X => Mem w X (D ++ (B0 ++ L))) (by exact HM2.out _) ?_
          intro V1 hV1
          clear HM2 q0 q1 b0 b1
          have hMB := hV1.perm (show List.Perm _ (B0 ++ (D ++ L)) by
            classical
            rw [List.perm_iff_count]
            intro q
            simp only [List.count_append]
            omega)
          obtain ⟨v0, C0, hs0, hB0e⟩ := HB0.out
          subst hB0e
          have hMC : Mem w V1 (C0 ++ ((m, .cells #[v0, .int .u32 N] 30 (0, 0)) :: (D ++ L))) := hMB.perm (List.perm_middle (l₁ := C0)).symm
          have b0 : V1.cell? ⟨m, 0, none⟩ = some v0 := hMB.cell 0 rfl 0
          obtain ⟨a, cap, rfl, k1, k2, hx⟩ := slf_cells hs0 hMC
          have k2' : cap ≤ 9223372036854775807 := by simp only [maxLen] at k2; omega
          obtain ⟨b, off, rfl, q0, -⟩ := hx 0 (by simp)
          simp only [List.getElem_cons_zero, Nat.zero_mul, Nat.add_zero] at q0
          rw [hz] at b0 k1
          have hA := hV1.after ((Below.refl _ _).alloc (Nat.le_refl _) (.cells #[.int .i64 d.1] 3))
          obtain ⟨v', V2, D', hrun, hM2, hD2⟩ := slb_append (ty := 36) (V := V1.alloc (.cells #[.int .i64 d.1] 3)) Try.underlying36 infoI (by kernel_rfl) (by decide) HDD.out hA ⟨V1.heap.size, 0, none⟩ 1 1 [.int .i64 d.1] rfl (fun j u hj => by
            match j, hj with
            | 0, hj => simp at hj; subst hj; simp [Addr.add, World.cell?_alloc_new]
            | j + 1, hj => simp at hj) (by simp [Value.oneCell']) (by simp only [maxLen]; omega) (by omega)
          obtain ⟨ra, rc, rfl, r1, r2⟩ := hD2.slice
          have hMB2 := hM2.perm (show List.Perm _ ((m, .cells #[.slice (some ⟨b, off, none⟩) (d :: zs).length cap, .int .u32 N] 30 (0, 0)) :: (C0 ++ (D' ++ L))) by
            classical
            rw [List.perm_iff_count]
            intro q
            simp only [List.count_append, List.count_cons]
            omega)
          have c2 : V2.cell? ⟨m, 0, none⟩ = some (.slice (some ⟨b, off, none⟩) n1 cap) := by rw [← hz]; exact hMB2.cell 0 rfl 0
          have f2 : V2.frozen? ⟨m, 0, none⟩ = false := hMB2.free 0 rfl 0
          have hff := slf_from hs0 (k := 1) (by simp)
          obtain ⟨a2, ha2⟩ : ∃ x, (if cap = 1 then some (⟨b, off, none⟩ : Addr) else (some (⟨b, off, none⟩ : Addr)).map (·.add (1 * 2))) = x := ⟨_, rfl⟩
          rw [ha2] at hff
          have s2 : ∀ V : World, (Instr.slice 28 (.slice (some ⟨b, off, none⟩) n1 cap) (some (.int .i64 1)) none none).run Try.prog V = .ok (.slice a2 (n1 - 1) (cap - 1)) V := fun V => by
            have := dslice_from V (some ⟨b, off, none⟩) n1 cap 1 (by omega)
            rw [ha2] at this
            exact this
          rw [hz] at hff
          have hM3 : Mem w (V2.setCell ⟨m, 0, none⟩ (.slice a2 (n1 - 1) (cap - 1))) ((m, .cells #[.slice a2 (n1 - 1) (cap - 1), .int .u32 N] 30 (0, 0)) :: (C0 ++ (D' ++ L))) := hMB2.set 0 rfl 0 (.slice a2 (n1 - 1) (cap - 1))
          have HE : Hid (∃ D B0, SlB 3 1 (.slice ra (os.length + 1) rc) (os ++ [d.1]).length (ic (os ++ [d.1])) D ∧ RW zs N m B0 ∧ Mem w (V2.setCell ⟨m, 0, none⟩ (.slice a2 (n1 - 1) (cap - 1))) (D ++ (B0 ++ L)) ∧ wout N xs = (os ++ [d.1]) ++ wout N zs ∧ wrest N xs = wrest N zs) := by
            refine ⟨D', _, by rw [List.length_append]; simpa [ic] using hD2, ⟨.slice a2 (n1 - 1) (cap - 1), C0, by simpa using hff, rfl⟩, hM3.perm ?_, HO.out⟩
            classical
            rw [List.perm_iff_count]
            intro q
            simp only [List.count_append, List.count_cons]
            omega
          have hlen2 : (os ++ [d.1]).length + zs.length ≤ xs.length := by
            have : zs.length + 1 = n1 := by rw [← hz]; rfl
            rw [List.length_append]
            simp only [List.length_cons, List.length_nil]
            omega
          have hn1 : 1 ≤ n1 := by omega
          clear hV1 hMB hMC hs0 hA hM2 hD2 hMB2 hff hM3 HB0 HDD HO hx ha2
          go_wp2_with (first | (refine wpList_append_run (.tmp 36) (.tmp 44) 36 36 rfl hrun rfl (by rfl) (by simp [Act.eval]) (by simp [Act.eval]) ?_) | fail)
          exact ⟨⟨os ++ [d.1], zs, by simp [ln], hlen2, HE.out⟩, by simp only [ln]; simp only [List.length_append, List.length_cons, List.length_nil] at hlen2; omega⟩
        · have HE : Hid (∃ B', SlB 3 1 (.slice qa os.length qc) (wout N xs).length (ic (wout N xs)) D ∧ RW (wrest N xs) N m B' ∧ ∀ n, Mem w (wr.drewN n) (D ++ (B' ++ L))) := by
            rw [ho, hr]
            simp only [wout, wrest, if_neg hd, List.append_nil]
            exact ⟨B0, hD, hB0, fun n => hM2.drewN n⟩
          have hdd : decide (d.2 ≤ N) = false := decide_eq_false hd
          clear hD hB0 hM2 ho hr hMB hx
          generalize (d :: zs).length = n1 at *
          go_wp2_with fail
          go_quiet (fail)
          go_wp2_with fail
          go_ret
          obtain ⟨B', z1, z2, z3⟩ := HE.out
          exact ⟨_, D, B', rfl, z1, z2, z3 _⟩
  · have e1 : tnow now = now := if_neg hlast
    have e2 : tout now xs = [] := if_neg hlast
    have e3 : trest now xs = xs := if_neg hlast
    rw [e1, e2, e3]
    have HM : Hid (Mem w W ([] ++ ((m, .cells #[v, .int .u32 now] 30 (0, 0)) :: C ++ L))) := hM
    have hge : 2147483647 ≤ now := by omega
    clear e1 e2 e3 hM hs
    go_enter Try.func15, Try.ntmps15
    go_wp2_with fail
    go_ret
    exact ⟨.slice none 0 0, [], _, rfl, SlB.nil _ _, HR.out, HM.out⟩
end Wh
end Go.Proofs.Ytfplmefcblkljaa
