/-
  Sessions, the program's own: maps.Keys, slices.AppendSeq, slices.Collect over keys: all of a map's keys, each once, in some order.
-/
import Derived.Test.YtgeeijinhneoiaaSpAdd
import Derived.RangeFuncNested
import Derived.RangeFuncLeaves
import Derived.Shelf.Abstract
import Derived.WalkKit
import Derived.OwnWalkIn
import Derived.TacticsInMore
import Derived.LoopNIn
import Derived.LoopIn
namespace Go.Proofs.Ytgeeijinhneoiaa
open Go.RowKit
open Sm
open Po
open Wh
set_option linter.unusedVariables false
set_option linter.unusedSimpArgs false
set_option maxRecDepth 20000

namespace Ss
theorem wpListIn_append_run {F : Fence} {n : Nat} {P : Program} {ops : Array Oper} {rest : List Oper} {o : Oper} {a : Act} {W : World} {Q : Exit → Act → World → Prop}
    (hg : o.guard = none) (s x : Operand) (t : TypeId) (hop : o.op = Op.call { callee := Callee.builtin Builtin.append, args := #[s, x], argTypes := #[t, t] }) {vs vx v' : Value} {w' : World}
    (hs : a.eval s = vs) (hx : a.eval x = vx) (hrun : (Builtin.append_ #[t, t] o.type #[vs, vx]).run P W = .ok v' w') (h : wpListIn F n P ops Q rest (a.put o.dst v') w') : wpListIn F n P ops Q (o :: rest) a W := by
  refine wpListIn_plain hg fun K hK' => ?_
  unfold Oper.wpIn
  refine ⟨?_, ?_⟩
  · simp [Oper.about, hop, resolve, Target.leads, Sem.run_pure]
  · rw [Oper.semAt_plain F _ _ (by rw [hop]; intro c hc'; cases hc')]
    simp [execOp, hop, resolve, invoke, builtin, hs, hx, hrun, Result.andThen]
    exact hK' _ _ h
/-- Keys as cells. -/
def kc (k : Ky) : List Value := [.int .u8 k.1, .int .u32 k.2.1, .int .u16 k.2.2]
def kx (l : List Ky) : List (List Value) := l.map kc
theorem kx_len (l : List Ky) : (kx l).length = l.length := by simp [kx]
theorem kx_three {l : List Ky} : ∀ x ∈ kx l, x.length = 3 := by
  intro x hx
  obtain ⟨d, -, rfl⟩ := List.mem_map.1 hx
  rfl
theorem kf_app (xs ys : List Ky) : (kx (xs ++ ys)).flatten = (kx xs).flatten ++ (kx ys).flatten := by simp [kx]
theorem infoKy : (Try.prog.info? 36).map (fun i => (i.zero, i.size, i.bytes)) = some (some (.agg #[.int .u8 0, .int .u32 0, .int .u16 0]), 3, 12) := by kernel_rfl
theorem bsl_ky (a b c : Int) (X : World) : (Instr.buildSlice 76 1 #[(0, .agg #[.int .u8 a, .int .u32 b, .int .u16 c])]).run Try.prog X = .ok (.slice (some ⟨X.heap.size, 0, none⟩) 1 1) (X.alloc (.cells #[.int .u8 a, .int .u32 b, .int .u16 c] 36)) := by kernel_rfl
theorem slb_ky {w V : World} {l : List Ky} {v : Value} {D L : List (Nat × Obj)} (a b c : Int) {g : Nat} (h : SlB 36 3 v l.length (kx l).flatten D) (hM : Mem w V (D ++ L)) (hg : V.heap.size = g) (hl : l.length ≤ 100000) :
    ∃ v' V' D', (Builtin.append_ #[76, 76] 76 #[v, .slice (some ⟨g, 0, none⟩) 1 1]).run Try.prog (V.alloc (.cells #[.int .u8 a, .int .u32 b, .int .u16 c] 36)) = .ok v' V' ∧ Mem w V' (D' ++ L) ∧ SlB 36 3 v' (l ++ [(a, b, c)]).length (kx (l ++ [(a, b, c)])).flatten D' := by
  have hA := hM.after ((Below.refl _ _).alloc (Nat.le_refl _) (.cells #[.int .u8 a, .int .u32 b, .int .u16 c] 36))
  obtain ⟨v', V', D', h1, h2, h3⟩ := slb_append (ty := 76) (V := V.alloc (.cells #[.int .u8 a, .int .u32 b, .int .u16 c] 36)) Try.underlying76 infoKy (by kernel_rfl) (by decide) h hA ⟨g, 0, none⟩ 1 1 [.int .u8 a, .int .u32 b, .int .u16 c] rfl (fun j u hj => by
    subst hg
    match j, hj with
    | 0, hj => simp at hj; subst hj; simp [Addr.add, World.cell?_alloc_new]
    | 1, hj => simp at hj; subst hj; simp [Addr.add, World.cell?_alloc_new]
    | 2, hj => simp at hj; subst hj; simp [Addr.add, World.cell?_alloc_new]
    | j + 3, hj => simp at hj) (by intro u hu; simp at hu; rcases hu with rfl | rfl | rfl <;> rfl) (by simp only [maxLen]; omega) (by omega)
  refine ⟨v', V', D', h1, h2, ?_⟩
  rw [List.length_append, kf_app]
  exact h3
def apAssign : Code := (Code.region 2 #[{ dst := some 5, op := Op.alloc 36, type := 0, pos := "iter.go:51", after := #[], guard := none }, { dst := none, op := Op.store 36 (Operand.tmp 5) (Operand.tmp 7), type := 0, pos := "iter.go:51", after := #[{ on := 0, ground := Ground.data }, { on := 0, ground := Ground.phase }], guard := none }] false)
def apBody : Code := (Code.block 1 (Code.region 3 #[{ dst := some 8, op := Op.load 76 (Operand.tmp 2), type := 76, pos := "iter.go:52", after := #[], guard := none }, { dst := some 9, op := Op.load 36 (Operand.tmp 5), type := 36, pos := "iter.go:52", after := #[], guard := none }, { dst := some 10, op := Op.buildSlice 76 1 #[(0, Operand.tmp 9)], type := 76, pos := "iter.go:52", after := #[{ on := 1, ground := Ground.data }], guard := none }, { dst := some 11, op := Op.call { callee := Callee.builtin Builtin.append, args := #[Operand.tmp 8, Operand.tmp 10], argTypes := #[76, 76] }, type := 76, pos := "iter.go:52", after := #[{ on := 0, ground := Ground.data }, { on := 2, ground := Ground.data }], guard := none }, { dst := none, op := Op.store 76 (Operand.tmp 2) (Operand.tmp 11), type := 0, pos := "iter.go:52", after := #[{ on := 3, ground := Ground.data }, { on := 3, ground := Ground.chain }, { on := 0, ground := Ground.phase }, { on := 1, ground := Ground.phase }, { on := 2, ground := Ground.phase }, { on := 3, ground := Ground.phase }], guard := none }] false))
/-- The loop's record. -/
def apRec (fn : FuncId) (sv : Value) (Bs K : Nat) (st : LoopState) (pend : Option Code) : Loop :=
  { state := st, pending := pend, fn, tmps := #[.slice none 0 0, sv, .pointer (some ⟨Bs, 0, none⟩), undef, .slice none 0 0, undef, sv, undef, undef, undef, undef, undef, undef], params := #[7], assign := apAssign, body := apBody, defers := K }
/-- Between two rounds: the box holds a slice of what has come; whatever else in E. -/
def ApJ (w0 : World) (fn : FuncId) (sv : Value) (Bs l K : Nat) (pre : List Ky) (W : World) (E : List (Nat × Obj)) : Prop :=
  ∃ u D, SlB 36 3 u pre.length (kx pre).flatten D ∧ Mem w0 W ((Bs, .cells #[u] 76 (0, 0)) :: (l, .loop (apRec fn sv Bs K .ready none)) :: (K, .deferred (some [])) :: (D ++ E))
theorem put_blk (W : World) (b : Nat) (o : Obj) : W.putObj b o = Go.ChangeMaps.setBlock W b o := rfl
set_option maxHeartbeats 4000000 in
theorem yield_any {w0 W : World} {F : Fence} {m : Nat} {fn : FuncId} (hfn : F.fn fn) {sv : Value} {Bs l K : Nat} {pre : List Ky} {E : List (Nat × Obj)} (h : ApJ w0 fn sv Bs l K pre W E) (hlen : pre.length ≤ 2000) (k : Ky) :
    YieldAt F m Try.prog l #[.agg #[.int .u8 k.1, .int .u32 k.2.1, .int .u16 k.2.2]] W fun e W' => e = .returned (.bool true) ∧ ApJ w0 fn sv Bs l K (pre ++ [k]) W' E := by
  obtain ⟨k1, k2, k3⟩ := k
  simp only
  obtain ⟨u, D, hu, hM⟩ := h
  have hL := hM.get 1 rfl
  refine ⟨fn, #[.slice none 0 0, sv, .pointer (some ⟨Bs, 0, none⟩), undef, .slice none 0 0, undef, sv, .agg #[.int .u8 k1, .int .u32 k2, .int .u16 k3], undef, undef, undef, undef, undef], apAssign, apBody, by simpa [apRec] using run_yield (P := Try.prog) (args := #[.agg #[.int .u8 k1, .int .u32 k2, .int .u16 k3]]) hL rfl, roundIn_of_wpIn hfn ?_⟩
  obtain ⟨ua, uc, rfl, v1, v2⟩ := hu.slice
  obtain ⟨h, hh⟩ : ∃ h, W.heap.size = h := ⟨_, rfl⟩
  have hM1 := hM.push h (.cells #[.int .u8 k1, .int .u32 k2, .int .u16 k3] 36) hh.symm
  have hL1 := hM1.get 1 rfl
  have hbr := run_beginRound (P := Try.prog) hL1 rfl
  rw [put_blk] at hbr
  have hM2 : Mem w0 (Go.ChangeMaps.setBlock (W.alloc (.cells #[.int .u8 k1, .int .u32 k2, .int .u16 k3] 36)) l (.loop { apRec fn sv Bs K .ready none with state := .busy })) ((l, .loop (apRec fn sv Bs K .busy none)) :: (Bs, .cells #[.slice ua pre.length uc] 76 (0, 0)) :: (K, .deferred (some [])) :: (D ++ E) ++ [(h, .cells #[.int .u8 k1, .int .u32 k2, .int .u16 k3] 36 (0, 0))]) := mem_blk (hM1.perm (List.Perm.swap ..))
  have HU : Hid (SlB 36 3 (.slice ua pre.length uc) pre.length (kx pre).flatten D) := hu
  have HM2 : Hid (Mem w0 (Go.ChangeMaps.setBlock (W.alloc (.cells #[.int .u8 k1, .int .u32 k2, .int .u16 k3] 36)) l (.loop { apRec fn sv Bs K .ready none with state := .busy })) ((l, .loop (apRec fn sv Bs K .busy none)) :: (Bs, .cells #[.slice ua pre.length uc] 76 (0, 0)) :: (K, .deferred (some [])) :: (D ++ E) ++ [(h, .cells #[.int .u8 k1, .int .u32 k2, .int .u16 k3] 36 (0, 0))])) := hM2
  generalize hW2 : Go.ChangeMaps.setBlock (W.alloc (.cells #[.int .u8 k1, .int .u32 k2, .int .u16 k3] 36)) l (.loop { apRec fn sv Bs K .ready none with state := .busy }) = W2 at hbr HM2
  clear hM hM1 hM2 hL hL1 hu hW2
  unfold apAssign
  gi_wp2_with (rw [Oper.semAt_eq _ _ _ (fun c h => by cases h)]; go_simp; try go_bits)
  refine ⟨W2, hbr, ?_⟩
  clear hbr
  have hM3 := HM2.out.perm (show List.Perm _ ((Bs, .cells #[.slice ua pre.length uc] 76 (0, 0)) :: (h, .cells #[.int .u8 k1, .int .u32 k2, .int .u16 k3] 36 (0, 0)) :: (l, .loop (apRec fn sv Bs K .busy none)) :: (K, .deferred (some [])) :: (D ++ E)) from by
    classical
    rw [List.perm_iff_count]
    intro q
    simp only [List.count_append, List.count_cons, List.count_nil]
    omega)
  have c0 : W2.cell? ⟨Bs, 0, none⟩ = some (.slice ua pre.length uc) := hM3.cell 0 rfl 0
  have q0 : W2.cell? ⟨h, 0, none⟩ = some (.int .u8 k1) := hM3.cell 1 rfl 0
  have q1 : W2.cell? ⟨h, 1, none⟩ = some (.int .u32 k2) := hM3.cell 1 rfl 1
  have q2 : W2.cell? ⟨h, 2, none⟩ = some (.int .u16 k3) := hM3.cell 1 rfl 2
  have hM4 := HM2.out.perm (show List.Perm _ (D ++ ((Bs, .cells #[.slice ua pre.length uc] 76 (0, 0)) :: (h, .cells #[.int .u8 k1, .int .u32 k2, .int .u16 k3] 36 (0, 0)) :: (l, .loop (apRec fn sv Bs K .busy none)) :: (K, .deferred (some [])) :: E)) from by
    classical
    rw [List.perm_iff_count]
    intro q
    simp only [List.count_append, List.count_cons, List.count_nil]
    omega)
  obtain ⟨g, hg⟩ : ∃ g, W2.heap.size = g := ⟨_, rfl⟩
  have hbs := bsl_ky k1 k2 k3 W2
  rw [hg] at hbs
  obtain ⟨v', V', D', hap, hM5, hS5⟩ := slb_ky k1 k2 k3 HU.out hM4 hg (by omega)
  obtain ⟨ra, rc, rfl, r1, r2⟩ := hS5.slice
  have hM6 := hM5.perm (show List.Perm _ ((Bs, .cells #[.slice ua pre.length uc] 76 (0, 0)) :: (l, .loop (apRec fn sv Bs K .busy none)) :: (K, .deferred (some [])) :: (D' ++ ((h, .cells #[.int .u8 k1, .int .u32 k2, .int .u16 k3] 36 (0, 0)) :: E))) from by
    classical
    rw [List.perm_iff_count]
    intro q
    simp only [List.count_append, List.count_cons, List.count_nil]
    omega)
  have c1 : V'.cell? ⟨Bs, 0, none⟩ = some (.slice ua pre.length uc) := hM6.cell 0 rfl 0
  have c2 : V'.frozen? ⟨Bs, 0, none⟩ = false := hM6.free 0 rfl 0
  obtain ⟨np, hnp⟩ : ∃ np, (pre ++ [(k1, k2, k3)]).length = np := ⟨_, rfl⟩
  have HS5 : Hid (SlB 36 3 (.slice ra np rc) np (kx (pre ++ [(k1, k2, k3)])).flatten D' ∧ (pre ++ [(k1, k2, k3)]).length = np) := ⟨by rw [← hnp]; exact hS5, hnp⟩
  rw [hnp] at hap r1
  have HM7 : Hid (Mem w0 (V'.setCell ⟨Bs, 0, none⟩ (.slice ra np rc)) ((Bs, .cells #[.slice ra np rc] 76 (0, 0)) :: (l, .loop (apRec fn sv Bs K .busy none)) :: (K, .deferred (some [])) :: (D' ++ ((h, .cells #[.int .u8 k1, .int .u32 k2, .int .u16 k3] 36 (0, 0)) :: E)))) := hM6.set 0 rfl 0 (.slice ra np rc)
  obtain ⟨n, hn⟩ : ∃ n, pre.length = n := ⟨_, rfl⟩
  rw [hn] at hap c0 c1 v1
  clear hM3 hM4 hM5 hM6 hS5 HM2 HU hnp hn
  unfold apBody
  gi_wp2_with (first
    | (gi_at_builtin; refine wpListIn_append_run rfl (.tmp 8) (.tmp 10) 76 rfl rfl rfl hap ?_)
    | (rw [Oper.semAt_eq _ _ _ (fun c h => by cases h)]; go_simp; try go_bits))
  have hL7 := HM7.out.get 1 rfl
  refine ⟨_, _, run_endRound none hL7, rfl, .slice ra np rc, D', by rw [HS5.out.2]; exact HS5.out.1, ?_⟩
  have hM8 := mem_blk (o' := .loop (apRec fn sv Bs K .ready none)) (HM7.out.perm (List.Perm.swap ..))
  refine Mem.sub (p := (h, .cells #[.int .u8 k1, .int .u32 k2, .int .u16 k3] 36 (0, 0))) (Mem.perm hM8 ?_)
  classical
  rw [List.perm_iff_count]
  intro q
  simp only [List.count_append, List.count_cons, List.count_nil]
  omega
/-- A walk over a map whose rounds go on. -/
def KyQ (w0 : World) (fn : FuncId) (sv : Value) (Bs l K : Nat) (S : Ky → Option Value) (E : List (Nat × Obj)) (e : Ending) (W' : World) : Prop :=
  (∃ v, e = .returned v) ∧ ∃ vis : List Ky, vis.Nodup ∧ (∀ k, S k ≠ none ↔ k ∈ vis) ∧ (∀ k ∈ vis, KIn k) ∧ ApJ w0 fn sv Bs l K vis W' E
theorem apj_perm {w0 : World} {fn : FuncId} {sv : Value} {Bs l K : Nat} {pre : List Ky} {W : World} {E E' : List (Nat × Obj)} (h : ApJ w0 fn sv Bs l K pre W E) (hp : E.Perm E') : ApJ w0 fn sv Bs l K pre W E' := by
  obtain ⟨u, D, h1, h2⟩ := h
  exact ⟨u, D, h1, h2.perm (List.Perm.cons _ (List.Perm.cons _ (List.Perm.cons _ (List.Perm.append_left D hp))))⟩
/-- The blocks beside. -/
theorem apj_rest {w0 : World} {fn : FuncId} {sv : Value} {Bs l K : Nat} {pre : List Ky} {W : World} {E : List (Nat × Obj)} (h : ApJ w0 fn sv Bs l K pre W E) : ∃ B, Mem w0 W (E ++ B) ∧ ∀ W' E', Mem w0 W' (E' ++ B) → ApJ w0 fn sv Bs l K pre W' E' := by
  obtain ⟨u, D, h1, h2⟩ := h
  refine ⟨(Bs, .cells #[u] 76 (0, 0)) :: (l, .loop (apRec fn sv Bs K .ready none)) :: (K, .deferred (some [])) :: D, h2.perm (by
    classical
    rw [List.perm_iff_count]
    intro q
    simp only [List.count_append, List.count_cons, List.count_nil]
    omega), fun W' E' h' => ⟨u, D, h1, h'.perm (by
    classical
    rw [List.perm_iff_count]
    intro q
    simp only [List.count_append, List.count_cons, List.count_nil]
    omega)⟩⟩
theorem key_entry {V : World} (k : Ky) (v : Value) : True := trivial
set_option maxHeartbeats 8000000 in
theorem keys1_any {w0 W : World} {F : Fence} {n : Nat} (hF : F.fn 51) (hro : F.round = none) (hn : 1 ≤ n) {fn : FuncId} (hfn : F.fn fn) {sv : Value} {Bs l K Bm a : Nat} {S : Ky → Option Value} {es : Array MapEntry} {c : Nat} {E : List (Nat × Obj)} (hI : MI 36 S es c) (dom : List Ky) (hdl : dom.length ≤ 1000) (hd : ∀ k, S k ≠ none → k ∈ dom)
    (h : ApJ w0 fn sv Bs l K [] W ((Bm, .cells #[.map (some a)] 66 (0, 0)) :: (a, .map es c) :: E)) :
    CallsIn F n Try.prog 51 #[.func (.yield l) #[] #[], .pointer (some ⟨Bm, 0, none⟩)] W (KyQ w0 fn sv Bs l K S ((Bm, .cells #[.map (some a)] 66 (0, 0)) :: (a, .map es c) :: E)) := by
  obtain ⟨B0, hM0, hB0⟩ := apj_rest h
  have c0 : W.cell? ⟨Bm, 0, none⟩ = some (.map (some a)) := hM0.cell 0 rfl 0
  have hrm : (Instr.range 66 (.map (some a))).run Try.prog W = .ok (.pointer (some ⟨W.heap.size, 0, none⟩)) (W.alloc (.mapIter (some a) c #[] c)) := run_range_map W 66 36 _ a es c Try.underlying66 (hM0.get 1 rfl)
  obtain ⟨r, hr⟩ : ∃ r, W.heap.size = r := ⟨_, rfl⟩
  have HA0 : Hid (ApJ w0 fn sv Bs l K [] (W.alloc (.mapIter (some a) c #[] c)) ((r, .mapIter (some a) c #[] c) :: (Bm, .cells #[.map (some a)] 66 (0, 0)) :: (a, .map es c) :: E)) := hB0 _ _ ((hM0.push r _ hr.symm).perm (by
    classical
    rw [List.perm_iff_count]
    intro q
    simp only [List.count_append, List.count_cons, List.count_nil]
    omega))
  rw [hr] at hrm
  clear hM0 hB0 h
  refine callsIn_of_wp Try.func51 rfl hF ?_ hro
  simp only [Try.ntmps51, List.size_toArray, List.length_cons, List.length_nil, Nat.reduceAdd, Nat.reduceSub, Array.replicate_succ, Array.replicate_zero, List.push_toArray, List.append_toArray, List.nil_append, List.cons_append]
  generalize hX0 : W.alloc (.mapIter (some a) c #[] c) = X0 at hrm HA0
  clear hX0
  gi_wp2
  clear hrm c0
  gi_loopw [3] (fun _ wr => ∃ (vis : List Ky) (seen : Array Nat) (c0 : Nat), Hid (Itr es seen vis ∧ c ≤ c0 ∧ (∀ k ∈ vis, KIn k) ∧ ApJ w0 fn sv Bs l K vis wr ((r, .mapIter (some a) c seen c0) :: (Bm, .cells #[.map (some a)] 66 (0, 0)) :: (a, .map es c) :: E)))
    (fun _ wr => wr.rangeLeft a r)
  case atStart =>
    exact ⟨[], #[], c, Itr.nil es, Nat.le_refl _, by simp, HA0.out⟩
  case round =>
    obtain ⟨vis, seen, c0, HR⟩ := hrel
    clear HA0
    obtain ⟨hit, hc, hvk, hA⟩ := HR.out
    obtain ⟨B1, hM1, hB1⟩ := apj_rest hA
    have hleft : wr.rangeLeft a r = (leftOf es seen).size := by
      simp only [World.rangeLeft, hM1.get 2 rfl, hM1.get 0 rfl]
    have hlen : vis.length ≤ 1000 := by
      refine Nat.le_trans (nodup_len' (l' := dom) hit.nodup fun k hk => ?_) hdl
      obtain ⟨e, he, hke, -⟩ := hit.came k hk
      exact hd k (by rw [hI.at_ he hke]; simp)
    rcases hit.next hI (hM1.get 0 rfl) (hM1.get 2 rfl) rfl hc 0 with ⟨hall, hnx⟩ | ⟨k, v, w1, seen', hk, hv, hno, hw1, hit', hlt, hnx, hent⟩
    · have HZ : Hid (KyQ w0 fn sv Bs l K S ((Bm, .cells #[.map (some a)] 66 (0, 0)) :: (a, .map es c) :: E) (.returned (.tuple #[])) wr) := ⟨⟨_, rfl⟩, vis, hit.nodup, hall, hvk, hB1 _ _ hM1.sub⟩
      clear HR hA hM1 hB1 hit hall hlen hleft
      gi_wp2
      go_end0
      exact HZ.out
    · obtain ⟨X, hX⟩ : ∃ X, Go.ChangeMaps.setBlock w1 r (.mapIter (some a) c seen' c) = X := ⟨_, rfl⟩
      rw [hX] at hnx
      have hMX : Mem w0 X ((r, .mapIter (some a) c seen' c) :: ((Bm, .cells #[.map (some a)] 66 (0, 0)) :: (a, .map es c) :: E ++ B1)) := by
        rw [← hX]
        rcases hw1 with rfl | rfl
        · exact mem_blk hM1
        · exact mem_blk hM1.drew
      have he := hent X (hMX.get 0 rfl) (hMX.get 2 rfl)
      obtain ⟨h, hh⟩ : ∃ h, X.heap.size = h := ⟨_, rfl⟩
      obtain ⟨k1, k2, k3⟩ := k
      simp only [kv] at hnx he
      have hMY := hMX.push h (.cells #[.int .u8 k1, .int .u32 k2, .int .u16 k3] 36) hh.symm
      have hAY : ApJ w0 fn sv Bs l K vis (X.alloc (.cells #[.int .u8 k1, .int .u32 k2, .int .u16 k3] 36)) ((h, .cells #[.int .u8 k1, .int .u32 k2, .int .u16 k3] 36 (0, 0)) :: (r, .mapIter (some a) c seen' c) :: (Bm, .cells #[.map (some a)] 66 (0, 0)) :: (a, .map es c) :: E) := hB1 _ _ (hMY.perm (by
    classical
    rw [List.perm_iff_count]
    intro q
    simp only [List.count_append, List.count_cons, List.count_nil]
    omega))
      have hyl := yield_any (F := F) (m := n - 1) hfn hAY (by omega) (k1, k2, k3)
      obtain ⟨fn', tmps, assign, body, hy, hR⟩ := hyl
      have HN : Hid (Itr es seen' (vis ++ [(k1, k2, k3)]) ∧ (∀ k ∈ vis ++ [(k1, k2, k3)], KIn k)) := ⟨hit', fun q hq => by
        rcases List.mem_append.1 hq with hq | hq
        · exact hvk q hq
        · simp at hq; rw [hq]; exact hk⟩
      have HLT : Hid ((leftOf es seen').size < wr.rangeLeft a r) := by rw [hleft]; exact hlt
      clear HR hA hM1 hB1 hit hlen hleft hit' hno hw1 hX hMX hent hAY hMY hv hvk hlt
      simp only at hy
      gi_wp2
      refine hR.mono ?_
      rintro e W3 ⟨rfl, hA3⟩
      clear hR hy he hnx
      obtain ⟨B3, hM3, hB3⟩ := apj_rest hA3
      have hA4 := hB3 _ _ hM3.sub
      have hleft3 : W3.rangeLeft a r = (leftOf es seen').size := by
        simp only [World.rangeLeft, hM3.get 3 rfl, hM3.get 1 rfl]
      have HA4 : Hid (ApJ w0 fn sv Bs l K (vis ++ [(k1, k2, k3)]) W3 ((r, .mapIter (some a) c seen' c) :: (Bm, .cells #[.map (some a)] 66 (0, 0)) :: (a, .map es c) :: E)) := hA4
      have HL3 : Hid (W3.rangeLeft a r = (leftOf es seen').size) := hleft3
      clear hM3 hB3 hA3 hA4 hleft3
      gi_wp2
      go_roundw
      case rel => exact ⟨vis ++ [(k1, k2, k3)], seen', c, HN.out.1, Nat.le_refl _, HN.out.2, HA4.out⟩
      case measure => rw [HL3.out]; exact HLT.out
end Ss
end Go.Proofs.Ytgeeijinhneoiaa
