/-
  What errors.As answers to a place error: it is found.
  Settings as text: the program's reader: expect, mustEnd, what values are read by.
-/
import Derived.Test.YtneciccdiledfaaGreatDoorMw34
import Derived.LaidEql
import Derived.Stop.Asserts
import Derived.RowKitTokens
import Derived.Test.YtneciccdiledfaaGreatDoorMw09
import Derived.Test.YtneciccdiledfaaGreatDoorMw07
import Derived.Test.YtneciccdiledfaaGreatDoorMw08
import Derived.Test.YtneciccdiledfaaGreatDoorMw04
namespace Go.Proofs.YtneciccdiledfaaGreatDoor
open Go.RowKit Go.Extern.Stop Go.Stop Go.Extern
set_option linter.unusedVariables false
set_option maxRecDepth 20000

theorem pas_valueOfP (t : Addr) (w : World) : (ReflectliteValue.unpack (.iface 61 (.pointer (some t)))).run Tryz.prog w
    = .ok (.agg #[.pointer (some ⟨8, 61, none⟩), .pointer (some ⟨w.heap.size, 0, none⟩), .int .u64 150]) (w.alloc (.cells #[.pointer (some t)] 61)) := by kernel_rfl
theorem pas_type (a : Addr) (w : World) : (ReflectliteValue.methodAny (ReflectliteValue.valueError "reflectlite.Value.Type" 0) (fun t _ _ _ => ReflectliteType.toType t) #[.agg #[.pointer (some ⟨8, 61, none⟩), .pointer (some a), .int .u64 150]]).run Tryz.prog w
    = .ok (.iface 154 (.agg #[.pointer (some ⟨8, 61, none⟩)])) w := by kernel_rfl
theorem pas_methodKind (h : Value) (w : World) : (Go.method 352 154 (.agg #[h]) "Kind").run Tryz.prog w = .ok (164, h) w := by kernel_rfl
theorem pas_kindP (w : World) : ((ReflectliteType.abiMethod fun t => (fun a : Nat => Value.int IntKind.u8 (a : Int)) <$> Rtype.kind t) #[.pointer (some ⟨8, 61, none⟩)]).run Tryz.prog w = .ok (.int .u8 22) w := by kernel_rfl
theorem pas_kind (w : World) : ((ReflectliteType.abiMethod fun t => (fun a : Nat => Value.int IntKind.u8 (a : Int)) <$> Rtype.kind t) #[.pointer (some ⟨8, 58, none⟩)]).run Tryz.prog w = .ok (.int .u8 22) w := by kernel_rfl
theorem pas_rlm (z : Sem Value) (f : TypeId → Addr → Nat → Nat → Sem Value) (v : Value) :
    ReflectliteValue.method z f #[v] = (do match ← ReflectliteValue.parts v with | none => z | some (t, a, fl) => f t a fl (fl % 32)) := rfl
theorem pas_partsP (a : Addr) (w : World) : (ReflectliteValue.parts (.agg #[.pointer (some ⟨8, 61, none⟩), .pointer (some a), .int .u64 150])).run Tryz.prog w = .ok (some (61, a, 150)) w := by kernel_rfl
theorem pas_isNil (a p : Addr) (W : World) (ha : W.cell? a = some (.pointer (some p))) :
    (ReflectliteValue.method (ReflectliteValue.valueError "reflectlite.Value.IsNil" 0) ReflectliteValue.isNil #[.agg #[.pointer (some ⟨8, 61, none⟩), .pointer (some a), .int .u64 150]]).run Tryz.prog W = .ok (.bool false) W := by
  rw [pas_rlm]
  simp only [Sem.run_bind, pas_partsP, Result.andThen]
  simp [ReflectliteValue.isNil, loadVar, isAgg, underlying, Tryz.underlying61, ha, Result.andThen]
theorem pas_methodElem (h : Value) (w : World) : (Go.method 352 154 (.agg #[h]) "Elem").run Tryz.prog w = .ok (177, .agg #[h]) w := by kernel_rfl
theorem pas_methodImplements (h : Value) (w : World) : (Go.method 352 154 (.agg #[h]) "Implements").run Tryz.prog w = .ok (178, .agg #[h]) w := by kernel_rfl
theorem pas_methodAssignableTo (h : Value) (w : World) : (Go.method 352 154 (.agg #[h]) "AssignableTo").run Tryz.prog w = .ok (175, .agg #[h]) w := by kernel_rfl
theorem pas_elem (w : World) : (ReflectliteType.method ReflectliteType.elem #[.agg #[.pointer (some ⟨8, 61, none⟩)]]).run Tryz.prog w = .ok (.iface 154 (.agg #[.pointer (some ⟨8, 58, none⟩)])) w := by kernel_rfl
theorem pas_implements (w : World) : (ReflectliteType.relation "Implements" ReflectliteType.implements_ #[.agg #[.pointer (some ⟨8, 58, none⟩)], .iface 154 (.agg #[.pointer (some ⟨8, 31, none⟩)])]).run Tryz.prog w = .ok (.bool true) w := by kernel_rfl
theorem pas_typeOf (v : Value) (w : World) : (ReflectliteType.typeOf #[.iface 58 v]).run Tryz.prog w = .ok (.iface 154 (.agg #[.pointer (some ⟨8, 58, none⟩)])) w := by kernel_rfl
theorem pas_assignable (w : World) : (ReflectliteType.relation "AssignableTo" ReflectliteType.assignableTo #[.agg #[.pointer (some ⟨8, 58, none⟩)], .iface 154 (.agg #[.pointer (some ⟨8, 58, none⟩)])]).run Tryz.prog w = .ok (.bool true) w := by kernel_rfl
theorem pas_valueOf (e : Nat) (w : World) : (ReflectliteValue.unpack (.iface 58 (.pointer (some ⟨e, 0, none⟩)))).run Tryz.prog w
    = .ok (.agg #[.pointer (some ⟨8, 58, none⟩), .pointer (some ⟨w.heap.size, 0, none⟩), .int .u64 150]) (w.alloc (.cells #[.pointer (some ⟨e, 0, none⟩)] 58)) := by kernel_rfl
theorem pas_elemOf (w : World) : (Rtype.elem? 61).run Tryz.prog w = .ok (some 58) w := by kernel_rfl
theorem pas_mk (p : Addr) (w : World) : (ReflectliteValue.mk 58 p ReflectliteValue.flagAddr).run Tryz.prog w = .ok (.agg #[.pointer (some ⟨8, 58, none⟩), .pointer (some p), .int .u64 406]) w := by kernel_rfl
theorem pas_elemV (a p : Addr) (W : World) (ha : W.cell? a = some (.pointer (some p))) :
    (ReflectliteValue.method (ReflectliteValue.valueError "reflectlite.Value.Elem" 0) ReflectliteValue.elem #[.agg #[.pointer (some ⟨8, 61, none⟩), .pointer (some a), .int .u64 150]]).run Tryz.prog W
      = .ok (.agg #[.pointer (some ⟨8, 58, none⟩), .pointer (some p), .int .u64 406]) W := by
  rw [pas_rlm]
  simp only [Sem.run_bind, pas_partsP, Result.andThen]
  simp [ReflectliteValue.elem, loadVar, isAgg, underlying, Tryz.underlying61, ha, Result.andThen, pas_elemOf, pas_mk]
theorem pas_rls (v x : Value) : ReflectliteValue.set #[v, x] = (do
    let (some (dst, a, fl), some (src, b, _)) := (← ReflectliteValue.parts v, ← ReflectliteValue.parts x)
      | unsupported (.noEntry "extern/(internal/reflectlite.Value).Set.zeroValue")
    if fl / ReflectliteValue.flagAddr % 2 == 0 then unsupported (.noEntry "extern/(internal/reflectlite.Value).Set.unaddressable")
    let val ← loadVar src b
    if ← Rtype.directlyAssignable dst src then storeVar dst a val
    else if ← Rtype.implements dst src then
      if (← Rtype.kind src) == 20 then
        match val with
        | .nilIface => unsupported (.noEntry "extern/reflectlite: a nil value of one interface type handed on as a value of another")
        | _ => storeVar dst a val
      else storeVar dst a (.iface src val)
    else panicString ("reflectlite.Set: value of type " ++ (← Rtype.spelt src) ++ " is not assignable to type " ++ (← Rtype.spelt dst))
    pure (.tuple #[])) := rfl
theorem pas_partsA (a : Addr) (w : World) : (ReflectliteValue.parts (.agg #[.pointer (some ⟨8, 58, none⟩), .pointer (some a), .int .u64 406])).run Tryz.prog w = .ok (some (58, a, 406)) w := by kernel_rfl
theorem pas_parts (a : Addr) (w : World) : (ReflectliteValue.parts (.agg #[.pointer (some ⟨8, 58, none⟩), .pointer (some a), .int .u64 150])).run Tryz.prog w = .ok (some (58, a, 150)) w := by kernel_rfl
theorem pas_direct (w : World) : (Rtype.directlyAssignable 58 58).run Tryz.prog w = .ok true w := by kernel_rfl
theorem pas_set (ta b : Addr) (e : Nat) (old : Value) (W : World) (hb : W.cell? b = some (.pointer (some ⟨e, 0, none⟩))) (ht : W.cell? ta = some old) (hf : W.frozen? ta = false) :
    (ReflectliteValue.set #[.agg #[.pointer (some ⟨8, 58, none⟩), .pointer (some ta), .int .u64 406], .agg #[.pointer (some ⟨8, 58, none⟩), .pointer (some b), .int .u64 150]]).run Tryz.prog W
      = .ok (.tuple #[]) (W.setCell ta (.pointer (some ⟨e, 0, none⟩))) := by
  rw [pas_rls]
  simp only [Sem.run_bind, pas_partsA, pas_parts, Result.andThen]
  simp [ReflectliteValue.flagAddr, loadVar, isAgg, underlying, Tryz.underlying58, hb, Result.andThen, pas_direct, storeVar, Value.cells, storeCells, Addr.add]
  rw [run_store Tryz.prog W ta _ _ (by rfl)]
  simp [ht, hf]

set_option maxHeartbeats 4000000 in
theorem pas_hit (e : Nat) (t : Addr) (old : Value) (w : World) (hg : w.cell? ⟨0, 0, none⟩ = some (.iface 154 (.agg #[.pointer (some ⟨8, 31, none⟩)]))) (ht0 : w.cell? t = some old) (hf0 : w.frozen? t = false) :
    Calls Tryz.prog 21 #[.iface 58 (.pointer (some ⟨e, 0, none⟩)), .iface 61 (.pointer (some t))] w fun ev w' => ev = .returned (.bool true) ∧ w' = ((((w.alloc (.cells #[.pointer (some t)] 61)).alloc (.cells #[.pointer (some ⟨8, 61, none⟩), .pointer (some ⟨w.heap.size, 0, none⟩), .int .u64 150] 110)).alloc (.cells #[.pointer (some ⟨8, 61, none⟩), .pointer (some ⟨w.heap.size, 0, none⟩), .int .u64 150] 110)).alloc (.cells #[.pointer (some ⟨e, 0, none⟩)] 58)).setCell t (.pointer (some ⟨e, 0, none⟩)) := by
  have h6 := @run_callFunc_extern Tryz.prog 47 _ (fun args => ReflectliteValue.unpack (args.getD 0 (.tuple #[]))) Tryz.func47 (by kernel_rfl) (by kernel_rfl) (by kernel_rfl) (by kernel_rfl)
  have h7 := @run_callFunc_extern Tryz.prog 48 _ (ReflectliteValue.methodAny (ReflectliteValue.valueError "reflectlite.Value.Type" 0) (fun t _ _ _ => ReflectliteType.toType t)) Tryz.func48 (by kernel_rfl) (by kernel_rfl) (by kernel_rfl) (by kernel_rfl)
  have h8 := @run_callFunc_extern Tryz.prog 49 _ (ReflectliteValue.method (ReflectliteValue.valueError "reflectlite.Value.IsNil" 0) ReflectliteValue.isNil) Tryz.func49 (by kernel_rfl) (by kernel_rfl) (by kernel_rfl) (by kernel_rfl)
  have h27 := @run_callFunc_extern Tryz.prog 164 _ (ReflectliteType.abiMethod fun t => do pure (.int .u8 (← Rtype.kind t))) Tryz.func164 (by kernel_rfl) (by kernel_rfl) (by kernel_rfl) (by kernel_rfl)
  have h37 := @run_callFunc_extern Tryz.prog 177 _ (ReflectliteType.method ReflectliteType.elem) Tryz.func177 (by kernel_rfl) (by kernel_rfl) (by kernel_rfl) (by kernel_rfl)
  have h38 := @run_callFunc_extern Tryz.prog 178 _ (ReflectliteType.relation "Implements" ReflectliteType.implements_) Tryz.func178 (by kernel_rfl) (by kernel_rfl) (by kernel_rfl) (by kernel_rfl)
  have h10 := @run_callFunc_extern Tryz.prog 84 _ ReflectliteType.typeOf Tryz.func84 (by kernel_rfl) (by kernel_rfl) (by kernel_rfl) (by kernel_rfl)
  have h35 := @run_callFunc_extern Tryz.prog 175 _ (ReflectliteType.relation "AssignableTo" ReflectliteType.assignableTo) Tryz.func175 (by kernel_rfl) (by kernel_rfl) (by kernel_rfl) (by kernel_rfl)
  have h11 := @run_callFunc_extern Tryz.prog 85 _ (ReflectliteValue.method (ReflectliteValue.valueError "reflectlite.Value.Elem" 0) ReflectliteValue.elem) Tryz.func85 (by kernel_rfl) (by kernel_rfl) (by kernel_rfl) (by kernel_rfl)
  have h12 := @run_callFunc_extern Tryz.prog 86 _ ReflectliteValue.set Tryz.func86 (by kernel_rfl) (by kernel_rfl) (by kernel_rfl) (by kernel_rfl)
  have tO := pas_typeOf
  have mA := pas_methodAssignableTo
  have a25 := pas_assignable
  have v25 := pas_valueOf
  have f6 := pas_valueOfP
  have f7 := pas_type
  have mK := pas_methodKind
  have mE := pas_methodElem
  have mI := pas_methodImplements
  have k27 := pas_kindP
  have k25 := pas_kind
  have e27 := pas_elem
  have i25 := pas_implements
  have n8 := pas_isNil ⟨w.heap.size, 0, none⟩ t ((w.alloc (.cells #[.pointer (some t)] 61)).alloc (.cells #[.pointer (some ⟨8, 61, none⟩), .pointer (some ⟨w.heap.size, 0, none⟩), .int .u64 150] 110)) (by simp)
  have hlt : 0 < w.heap.size := by
    rcases Nat.lt_or_ge 0 w.heap.size with h | h
    · exact h
    · simp [World.cell?, Array.getElem?_eq_none h] at hg
  have hg2 : ((w.alloc (.cells #[.pointer (some t)] 61)).alloc (.cells #[.pointer (some ⟨8, 61, none⟩), .pointer (some ⟨w.heap.size, 0, none⟩), .int .u64 150] 110)).cell? ⟨0, 0, none⟩ = some (.iface 154 (.agg #[.pointer (some ⟨8, 31, none⟩)])) := by
    rw [World.cell?_alloc_lt _ _ ⟨0, 0, none⟩ (by simp <;> omega), World.cell?_alloc_lt _ _ ⟨0, 0, none⟩ hlt]; exact hg
  have htl : t.block < w.heap.size := by
    rcases Nat.lt_or_ge t.block w.heap.size with h | h
    · exact h
    · simp [World.cell?, Array.getElem?_eq_none h] at ht0
  have el := pas_elemV ⟨w.heap.size, 0, none⟩ t (((w.alloc (.cells #[.pointer (some t)] 61)).alloc (.cells #[.pointer (some ⟨8, 61, none⟩), .pointer (some ⟨w.heap.size, 0, none⟩), .int .u64 150] 110)).alloc (.cells #[.pointer (some ⟨8, 61, none⟩), .pointer (some ⟨w.heap.size, 0, none⟩), .int .u64 150] 110)) (by rw [World.cell?_alloc_lt _ _ ⟨w.heap.size, 0, none⟩ (by simp; omega)]; simp)
  have st := pas_set t ⟨w.heap.size + 1 + 1 + 1, 0, none⟩ e old ((((w.alloc (.cells #[.pointer (some t)] 61)).alloc (.cells #[.pointer (some ⟨8, 61, none⟩), .pointer (some ⟨w.heap.size, 0, none⟩), .int .u64 150] 110)).alloc (.cells #[.pointer (some ⟨8, 61, none⟩), .pointer (some ⟨w.heap.size, 0, none⟩), .int .u64 150] 110)).alloc (.cells #[.pointer (some ⟨e, 0, none⟩)] 58))
    (by rw [World.cell?_alloc_at _ _ _ _ (by simp)]; rfl)
    (by rw [World.cell?_alloc_lt _ _ t (by simp; omega), World.cell?_alloc_lt _ _ t (by simp; omega), World.cell?_alloc_lt _ _ t (by simp; omega), World.cell?_alloc_lt _ _ t htl]; exact ht0)
    (by rw [World.frozen?_alloc_old _ _ t (by simp; omega), World.frozen?_alloc_old _ _ t (by simp; omega), World.frozen?_alloc_old _ _ t (by simp; omega), World.frozen?_alloc_old _ _ t (Nat.ne_of_lt htl)]; exact hf0)
  go_enter Tryz.func21, Tryz.ntmps21
  go_wp2
  refine wp_loop_rounds 1 ?_
  rw [rounds_succ]
  go_wp2
  go_ret
  exact ⟨rfl, rfl⟩
end Go.Proofs.YtneciccdiledfaaGreatDoor

namespace Go.Proofs.YtneciccdiledfaaGreatDoor
open Go.RowKit
open Cf
open La
set_option linter.unusedVariables false
set_option linter.unusedSimpArgs false
set_option maxRecDepth 20000

/-- What a step of the reader answers: R, or its fault. -/
def VP (w : World) (σ : Sg) (R : Ending → World → Prop) (e : Ending) (V : World) : Prop := (σ.bad = none ∧ R e V) ∨ ∃ a, σ.bad = some a ∧ Pan w a e V
set_option maxHeartbeats 1000000 in
theorem expect_any {w V : World} {g : Nat} {post : List Value} {T : TypeId} {σ : Sg} {W K : List (Nat × Obj)} (h : LnS w V g post T σ W K) (s : List UInt8) :
    Calls Tryz.prog 72 #[.pointer (some ⟨g, 0, none⟩), .string ⟨s.toArray⟩] V (VP w (must s σ) fun e V' => e = .returned (.tuple #[]) ∧ LnS w V' g post T (must s σ) W K) := by
  have hb0 := h.1
  cases hws : σ.ws with
  | nil =>
    have hm : (must s σ).bad = some σ.fin := by
      have e : (nxt σ).bad = some σ.fin := by unfold nxt; rw [hws]; simp [Sg.fail, hb0]
      unfold must; split
      · exact e
      · exact fail_bad e
    have C := take_no h hws
    clear h
    go_enter Tryz.func72, Tryz.ntmps72
    go_wp2_with fail
    refine C.mono ?_
    rintro e V' ⟨g', rfl, hM⟩
    exact ⟨rfl, Or.inr ⟨_, hm, g', rfl, hM⟩⟩
  | cons x r =>
    have C := take_yes h hws
    have hwd : wd σ = x := by unfold wd; rw [hws]
    have hnx : nxt σ = ⟨r, σ.fin, none⟩ := by unfold nxt; rw [hws, hb0]
    by_cases hx : x.1.data.toList = s
    · have hmu : must s σ = ⟨r, σ.fin, none⟩ := by unfold must wt; rw [hwd, if_pos hx, hnx]
      have hs : x.1 = ⟨s.toArray⟩ := by rw [← hx]
      rw [hmu]
      clear h
      go_enter Tryz.func72, Tryz.ntmps72
      go_wp2_with fail
      refine C.mono ?_
      rintro e V' ⟨rfl, hL⟩
      have HL : Hid (LnS w V' g post T ⟨r, σ.fin, none⟩ W K) := hL
      clear hL C
      go_wp2_with fail
      go_end0
      exact Or.inl ⟨rfl, rfl, LnS.after HL.out ((Below.refl _ _).alloc (Nat.le_refl _) _)⟩
    · have hmu : must s σ = ⟨r, σ.fin, some x.2⟩ := by unfold must wt; rw [hwd, if_neg hx, hnx]; rfl
      have hs : x.1 ≠ ⟨s.toArray⟩ := by intro e; apply hx; rw [e]
      have hcmp : (x.1.toList == s) = false := by
        rw [beq_eq_false_iff_ne]; intro e; exact hx (by rw [← ByteArray.toList_eq]; exact e)
      rw [hmu]
      obtain ⟨x1, x2⟩ := x
      simp only at hcmp
      clear h hs hx hwd hnx hmu hws
      go_enter Tryz.func72, Tryz.ntmps72
      go_wp2_with fail
      refine C.mono ?_
      rintro e V' ⟨rfl, hL⟩
      have CF := fail_any (hL.mem.after ((Below.refl _ _).alloc (Nat.le_refl _) (.cells #[.string x1, .int .i64 x2] 149 (0, 0)))) x2
      clear hL C
      go_wp2_with fail
      refine CF.mono ?_
      rintro e V' ⟨g', rfl, hM⟩
      exact ⟨rfl, Or.inr ⟨_, rfl, g', rfl, hM⟩⟩
set_option maxHeartbeats 1000000 in
theorem mustEnd_any {w V : World} {g : Nat} {post : List Value} {T : TypeId} {σ : Sg} {W K : List (Nat × Obj)} (h : LnS w V g post T σ W K) :
    Calls Tryz.prog 80 #[.pointer (some ⟨g, 0, none⟩)] V (VP w (done σ) fun e V' => e = .returned (.tuple #[]) ∧ LnS w V' g post T (done σ) W K) := by
  obtain ⟨h1, h2, v, h3, hM⟩ := h
  have HM : Hid (Mem w V ((g, .cells (v :: .int .i64 σ.fin :: post).toArray T (0, 0)) :: (K ++ W))) := hM
  have h3' := h3
  obtain ⟨a, c, rfl, -, -, -⟩ := h3'
  have d0 : V.cell? ⟨g, 0, none⟩ = some (.slice a σ.ws.length c) := hM.cell 0 rfl 0
  cases hws : σ.ws with
  | nil =>
    have hd : done σ = σ := by unfold done; rw [hws]
    rw [hd]
    have HL : Hid (LnS w V g post T σ W K) := ⟨h1, h2, _, h3, hM⟩
    rw [hws] at d0
    have HB : Hid (σ.bad = none) := h1
    clear hM h1 h2 h3 hws hd HM
    go_enter Tryz.func80, Tryz.ntmps80
    go_wp2_with fail
    go_end0
    exact Or.inl ⟨HB.out, rfl, HL.out⟩
  | cons x r =>
    have hd : done σ = ⟨σ.ws, σ.fin, some x.2⟩ := by unfold done; rw [hws]; simp only []; unfold Sg.fail; rw [h1, hws]; rfl
    rw [hd]
    rw [hws] at h3 d0
    obtain ⟨hn, hc1, hc2, b, off, rfl, hcl, -⟩ := h3.tail
    obtain ⟨c0, c1⟩ := hcl _ _ hM.sub.dropA
    have CF := fail_any hM x.2
    obtain ⟨n, hn'⟩ : ∃ n, (x :: r).length = n := ⟨_, rfl⟩
    have hlen : 0 < n := by rw [← hn']; simp
    have hlz : (0 : Int) < n := by omega
    rw [hn'] at d0
    clear hM h1 h2 h3 hws hd HM hn hn' hcl
    go_enter Tryz.func80, Tryz.ntmps80
    go_wp2_with fail
    refine CF.mono ?_
    rintro e V' ⟨g', rfl, hM⟩
    exact ⟨rfl, Or.inr ⟨_, rfl, g', rfl, hM⟩⟩
end Go.Proofs.YtneciccdiledfaaGreatDoor

