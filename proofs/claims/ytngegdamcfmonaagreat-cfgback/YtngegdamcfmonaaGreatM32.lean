/-
  Settings as bytes: the program's OpenTenant, at all bytes.
  Settings as bytes: the document's own put16, put32, name, pairs.
  What a tenant that comes in is.
-/
import Derived.Test.YtngegdamcfmonaaGreatM30
import Derived.Test.YtngegdamcfmonaaGreatM06
import Derived.ProofKit
import Derived.OpenShut
import Derived.Deep.Slices
namespace Go.Proofs.YtngegdamcfmonaaGreat
open Go.RowKit
open Sm
open Cf
set_option linter.unusedVariables false
set_option maxRecDepth 20000

theorem rw_own_U {w V : World} {K : List (Nat × Obj)} (l : List Int) (hp : Nat) (h : Mem w V (lb hp 22 (ux l) ++ K)) (hl : l.length ≤ 255) : Rw V 1 (lv hp (ux l)) (ux l) := by
  have hlen : (ux l).length = l.length := by simp [ux]
  by_cases h0 : l = []
  · subst h0; exact ⟨none, 0, rfl, Nat.le_refl _, by omega, fun _ => rfl, Or.inl rfl⟩
  · have hne : ux l ≠ [] := by simpa [ux] using h0
    rw [lb_one hne] at h
    rw [lv_one hne]
    refine ⟨_, _, rfl, Nat.le_refl _, by omega, (fun e => by cases e), Or.inr ⟨hp, 0, rfl, fun i hi j u hj => ?_⟩⟩
    obtain ⟨x, hx⟩ : ∃ x, l[i]? = some x := ⟨_, List.getElem?_eq_getElem (by omega)⟩
    have ex : (ux l).getD i [] = [.int .u32 x] := by simp [ux, List.getD, hx]
    rw [ex] at hj
    rw [h.cell 0 rfl, flat_TU l i x hx]
    have := get_mid (ux (l.take i)).flatten [.int .u32 x] (ux (l.drop (i + 1))).flatten j u hj
    rw [flatl_TU, List.length_take, Nat.min_eq_left (by omega)] at this
    rw [Nat.zero_add]; exact this
theorem rw_own_P {w V : World} {K : List (Nat × Obj)} (l : List (Int × Int)) (hp : Nat) (h : Mem w V (lb hp 142 (px l) ++ K)) (hl : l.length ≤ 255) : Rw V 2 (lv hp (px l)) (px l) := by
  have hlen : (px l).length = l.length := by simp [px]
  by_cases h0 : l = []
  · subst h0; exact ⟨none, 0, rfl, Nat.le_refl _, by omega, fun _ => rfl, Or.inl rfl⟩
  · have hne : px l ≠ [] := by simpa [px] using h0
    rw [lb_one hne] at h
    rw [lv_one hne]
    refine ⟨_, _, rfl, Nat.le_refl _, by omega, (fun e => by cases e), Or.inr ⟨hp, 0, rfl, fun i hi j u hj => ?_⟩⟩
    obtain ⟨x, hx⟩ : ∃ x, l[i]? = some x := ⟨_, List.getElem?_eq_getElem (by omega)⟩
    have ex : (px l).getD i [] = [.int .u32 x.1, .int .u32 x.2] := by simp [px, List.getD, hx]
    rw [ex] at hj
    rw [h.cell 0 rfl, flat_TP l i x hx]
    have := get_mid (px (l.take i)).flatten [.int .u32 x.1, .int .u32 x.2] (px (l.drop (i + 1))).flatten j u hj
    rw [flatl_TP, List.length_take, Nat.min_eq_left (by omega)] at this
    rw [Nat.zero_add]; exact this
theorem tc_one (t : Ten) (hp hs hq : Nat) (x y z : List (List Value)) : (tc t (lv hp x) (lv hs y) (lv hq z)).toArray.all (·.oneCell') = true := by
  have ho : ∀ h xs, (lv h xs).oneCell' = true := by intro h xs; cases xs <;> rfl
  apply all_oneCell_toArray
  intro v hv
  simp only [tc, List.mem_cons, List.mem_append, List.mem_map, List.not_mem_nil, or_false] at hv
  rcases hv with rfl | rfl | ⟨x, _, rfl⟩ | rfl | ⟨x, _, rfl⟩ | ⟨x, _, rfl⟩ | rfl | rfl | rfl | rfl | rfl | rfl | rfl | rfl | rfl | rfl <;> first | rfl | exact ho _ _
theorem perm4 {α : Type} (d b c a : α) (l : List α) : (c :: b :: d :: a :: l).Perm (c :: b :: d :: a :: l) := List.Perm.refl _
/-- A tenant that bytes begin with, and those behind. -/
def tdec (l : List Int) : Option (Ten × List Int) := spT.dec l ten0
abbrev tz : Array Value := (tc ten0 nilV nilV nilV).toArray
theorem JT_zero {w V : World} {g : Nat} {T : TypeId} {K : List (Nat × Obj)} (h : Mem w V ((g, .cells tz T (0, 0)) :: K)) : JT w ten0 g T [] [] V K :=
  ⟨ten0_len, ⟨by decide, by decide, by decide⟩, 0, 0, 0, h⟩
theorem build_T (V : World) : (Instr.build 33 #[]).run Tryz.prog V = .ok (.agg tz) V := by kernel_rfl
theorem sizeT : (Tryz.prog.info? 33).map (·.size) = some 33 := by kernel_rfl

theorem results_two' {fn : Func} {p q : Tmp} {ty : TypeId} (h : fn.results = #[.cell p ty, .tmp q]) (tmps : Array Value) (w : World) (g : Nat) (cs : Array Value)
    (hp : tmps.getD p undef = .pointer (some ⟨g, 0, none⟩)) (hl : (loadVar ty ⟨g, 0, none⟩).run Tryz.prog w = .ok (.agg cs) w) :
    (results fn tmps).run Tryz.prog w = .ok (.tuple #[.agg cs, tmps.getD q undef]) w := by
  have hp' : tmps[p]?.getD undef = .pointer (some ⟨g, 0, none⟩) := by simpa using hp
  simp [results, h, hp', asAddr, hl]
theorem results_three {fn : Func} {p q r : Tmp} {ty : TypeId} (h : fn.results = #[.cell p ty, .tmp q, .tmp r]) (tmps : Array Value) (w : World) (g : Nat) (cs : Array Value)
    (hp : tmps.getD p undef = .pointer (some ⟨g, 0, none⟩)) (hl : (loadVar ty ⟨g, 0, none⟩).run Tryz.prog w = .ok (.agg cs) w) :
    (results fn tmps).run Tryz.prog w = .ok (.tuple #[.agg cs, tmps.getD q undef, tmps.getD r undef]) w := by
  have hp' : tmps[p]?.getD undef = .pointer (some ⟨g, 0, none⟩) := by simpa using hp
  simp [results, h, hp', asAddr, hl]
set_option maxHeartbeats 8000000 in
theorem openTenant_any {w : World} {a : Option Addr} {l : List Int} {c : Nat} (hS : Sl w a l c) (hl : l.length ≤ 1000000) :
    Calls Tryz.prog 21 #[.slice a l.length c] w fun e w' => Below w.heap.size w w' ∧ match tdec l with
      | none => e = .returned (.tuple #[.agg tz, .int .i64 0, .int .i64 70])
      | some (t, l') => ∃ v, e = .returned (.tuple #[v, .int .i64 ((l.length : Int) - l'.length), .int .i64 0]) ∧ TV w' v t := by
  have hM0 : Mem w ((w.alloc (.cells tz 33)).alloc (.cells tz 33)) [(w.heap.size + 1, .cells tz 33 (0, 0)), (w.heap.size, .cells tz 33 (0, 0))] := two_blocks' w _ _
  have C := tenant_any hM0
  obtain ⟨g, hg⟩ : ∃ g, w.heap.size = g := ⟨_, rfl⟩
  rw [hg] at C
  obtain ⟨R, hR⟩ : ∃ R, tdec l = R := ⟨_, rfl⟩
  rw [hR]
  clear hM0
  go_enter Tryz.func21, Tryz.ntmps21
  go_upto_region 2 with (refine wpList_store_row rfl 33 (.tmp 5) (.tmp 8) (by with_reducible rfl) (w.heap.size + 1) tz (by simp [Act.eval]) (by simp [Act.eval]; rfl) 33 tz (heap_alloc2_new _ _ _) (by kernel_rfl) rfl (by kernel_rfl) ?_)
  refine wp_letter (fun V => V = (w.alloc (.cells tz 33)).alloc (.cells tz 33)) (by
    have := World.setRow_alloc_new (w.alloc (.cells tz 33)) tz tz 33
    rw [show (w.alloc (.cells tz 33)).heap.size = w.heap.size + 1 by simp] at this
    exact this) ?_
  rintro V0 rfl
  go_wp2_with fail
  refine C.mono ?_
  rintro e V ⟨⟨k1, k2, k3, c1, c2, c3⟩, E, rfl, hM, hF⟩
  have hM1 : Mem w V ((g + 1, .cells tz 33 (0, 0)) :: (E ++ [(g, .cells tz 33 (0, 0))])) := hM.perm (List.perm_middle (l₁ := E))
  have CR := hF.rd (E ++ [(g, .cells tz 33 (0, 0))]) (fun q hq => List.mem_append_left _ hq) ten0 (g + 1) 33 [] [] a l c V (JT_zero hM1) hS
  have eg : ∀ args V, (callFunc k2 args).run Tryz.prog V = .ok (.enter k2 args) V := hF.er
  have hfd : ∀ V, (Instr.field 79 (.agg #[.func (.func k1) #[] c1, .func (.func k2) #[] c2, .func (.func k3) #[] c3]) 1).run Tryz.prog V = .ok (.func (.func k2) #[] c2) V := fun V => by kernel_rfl
  simp only [List.length_nil] at CR
  simp only [tdec] at hR
  rw [hR] at CR
  simp only [Fv.val]
  clear hF C hM hM1 hS hR
  generalize hll : l.length = n at *
  cases R with
  | none =>
    go_wp2_with fail
    refine CR.mono ?_
    rintro e V2 ⟨rfl, hM2⟩
    have hM3 : Mem w V2 ((g, .cells tz 33 (0, 0)) :: E) := hM2.perm List.perm_append_comm
    have hg3 := hM3.get 0 rfl
    have hM4 : Mem w (V2.setRow g tz) ((g, .cells tz 33 (0, 0)) :: E) := hM3.wrote 0 rfl (wrote_setRow V2 g tz tz _ hg3)
    have hbt := build_T
    go_wp2_with (refine wpList_store_row rfl 33 (.tmp 2) (.tmp 18) (by with_reducible rfl) g tz (by simp [Act.eval]) (by simp [Act.eval]; rfl) 33 tz hg3 (by kernel_rfl) rfl (by kernel_rfl) ?_)
    refine bodyPost_ret (v := .tuple #[.agg tz, .int .i64 0, .int .i64 70]) ?_ rfl ⟨hg ▸ hM4.below, rfl⟩
    exact results_three (p := 2) (q := 3) (r := 4) (ty := 33) rfl _ _ g tz rfl (run_loadVar_row _ _ 33 33 _ (0, 0) _ (hM4.get 0 rfl) Tryz.underlying33 rfl (by kernel_rfl))
  | some x =>
    obtain ⟨t, l'⟩ := x
    go_wp2_with fail
    refine CR.mono ?_
    rintro e V2 ⟨a2, c2', rfl, hS2, hJ⟩
    obtain ⟨hlen, hbd, hp, hs, hq, hM2⟩ := hJ
    simp only [List.nil_append, List.append_nil] at hM2
    have hone := tc_one t hp hs hq (ux t.pool) (px t.stat) (px t.twi)
    obtain ⟨tl, htl⟩ : ∃ tl, (tc t (lv hp (ux t.pool)) (lv hs (px t.stat)) (lv hq (px t.twi))).toArray = tl := ⟨_, rfl⟩
    rw [htl] at hM2 hone
    have hg5 := hM2.get 0 rfl
    have hsz : tl.size = 33 := by rw [← htl, List.size_toArray]; exact tc_len hlen _ _ _
    have hi33 : (Tryz.prog.info? 33).map (·.size) = some tl.size := by rw [hsz]; kernel_rfl
    have hM3 : Mem w V2 ((g, .cells tz 33 (0, 0)) :: (g + 1, .cells tl 33 (0, 0)) :: (lb hp 22 (ux t.pool) ++ (lb hs 142 (px t.stat) ++ (lb hq 142 (px t.twi) ++ E)))) := hM2.perm (by
      rw [← List.append_assoc, ← List.append_assoc, ← List.append_assoc, ← List.cons_append]
      refine List.Perm.trans List.perm_append_comm ?_
      rw [List.append_assoc, List.append_assoc]
      exact List.Perm.refl _)
    have hg3 := hM3.get 0 rfl
    have hM4 : Mem w (V2.setRow g tl) ((g, .cells tl 33 (0, 0)) :: (g + 1, .cells tl 33 (0, 0)) :: (lb hp 22 (ux t.pool) ++ (lb hs 142 (px t.stat) ++ (lb hq 142 (px t.twi) ++ E)))) := hM3.wrote 0 rfl (wrote_setRow V2 g tz _ _ hg3)
    have HT : Hid (TV (V2.setRow g tl) (.agg tl) t) :=
      ⟨hlen, _, _, _, by rw [← htl], rw_own_U _ _ hM4.sub.sub hbd.1, rw_own_P _ _ hM4.sub.sub.dropA hbd.2.1, rw_own_P _ _ hM4.sub.sub.dropA.dropA hbd.2.2⟩
    have hl2 : IntKind.i64.wrap ((n : Int) - l'.length) = (n : Int) - l'.length := wrap64n (by have := hS2.row.len; omega) (by omega)
    clear CR hM2 hM3 hS2 htl
    go_wp2_with (first | (refine wpList_load_row rfl 33 (.tmp 5) (by with_reducible rfl) (g + 1) (by simp [Act.eval]) 33 tl (0, 0) _ hg5 Tryz.underlying33 rfl hi33 ?_) | (refine wpList_store_row rfl 33 (.tmp 2) (.tmp 19) (by with_reducible rfl) g tl (by simp [Act.eval]) (by simp [Act.eval]) 33 tz hg3 hi33 (by rw [hsz]; rfl) hone ?_))
    refine bodyPost_ret (v := .tuple #[.agg tl, .int .i64 ((n : Int) - l'.length), .int .i64 0]) ?_ rfl ⟨hg ▸ hM4.below, ⟨_, rfl, HT.out⟩⟩
    exact results_three (p := 2) (q := 3) (r := 4) (ty := 33) rfl _ _ g tl rfl (run_loadVar_row _ _ 33 33 _ (0, 0) _ (hM4.get 0 rfl) Tryz.underlying33 rfl hi33)
end Go.Proofs.YtngegdamcfmonaaGreat

namespace Go.Proofs.YtngegdamcfmonaaGreat
open Go.RowKit
open Sm
open Cf
set_option linter.unusedVariables false
set_option maxRecDepth 20000

/-- Bytes of the call's own, at most n of them. -/
def Ob (w W : World) (v : Value) (l : List Int) (L : List (Nat × Obj)) (n : Nat) : Prop := Out w W v l L ∧ l.length ≤ n
section
variable {w W W' : World} {v : Value} {l : List Int} {L : List (Nat × Obj)} {n : Nat}
theorem Ob.mem (h : Ob w W v l L n) : Mem w W L := h.1.mem
theorem Ob.after (h : Ob w W v l L n) (hb : Below W.heap.size W W') : Ob w W' v l L n := ⟨h.1.after hb, h.2⟩
theorem Ob.drew (h : Ob w W v l L n) : Ob w W.drew v l L n := h.after ((Below.refl _ _).drew)
theorem be4 (x : Int) : be 4 x = [x / 16777216 % 256, x / 65536 % 256, x / 256 % 256, x % 256] := by simp [be]
theorem be2 (x : Int) : be 2 x = [x / 256 % 256, x % 256] := by simp [be]
theorem be1 (x : Int) : be 1 x = [x % 256] := by simp [be]
theorem be2_wrap (x : Int) : be 2 (IntKind.u16.wrap x) = be 2 x := by
  have : IntKind.u16.wrap x = x % 65536 := by simp [IntKind.wrap, IntKind.bits, IntKind.signed]
  rw [be2, be2, this]
  congr 1
  · omega
  · congr 1; omega
theorem out_lits (h : Out w W v l L) (k : List Int) (hk : IsBytes k) (m : Nat) (hm : k.length = m) (hb : l.length + m ≤ 1000000000) (ty : TypeId) :
    ∃ v' W', (Builtin.append_ #[40, 40] ty #[v, .slice (some ⟨W.heap.size, 0, none⟩) m m]).run Tryz.prog (W.alloc (.cells (k.map (Value.int .u8)).toArray 5)) = .ok v' W' ∧ Out w W' v' (l ++ k) L :=
  out_append (h.after ((Below.refl _ _).alloc (Nat.le_refl _) _)) _ m m k hm (row_lit W k hk (by omega) 5) hb ty
set_option maxHeartbeats 2000000 in
theorem rput32_any (h : Ob w W v l L n) (x : Int) (hn : n ≤ 990000000) :
    Calls Tryz.prog 32 #[v, .int .u32 x] W fun e W' => ∃ v', e = .returned v' ∧ Ob w W' v' (l ++ be 4 x) L (n + 4) := by
  have hl := h.2
  rw [be4]
  obtain ⟨v1, W1, hr, hO⟩ := out_lits h.1 [x / 16777216 % 256, x / 65536 % 256, x / 256 % 256, x % 256] (bytes_cons (mod_byte _) (bytes_cons (mod_byte _) (bytes_cons (mod_byte _) (bytes_cons (mod_byte _) bytes_nil)))) 4 rfl (by omega) 40
  have HO : Hid (Ob w W1 v1 (l ++ [x / 16777216 % 256, x / 65536 % 256, x / 256 % 256, x % 256]) L (n + 4)) := ⟨hO, by simp; omega⟩
  simp only [List.map_cons, List.map_nil] at hr
  have u1 : IntKind.u8.wrap (x / 16777216) = x / 16777216 % 256 := wrapu8 _
  have u2 : IntKind.u8.wrap (x / 65536) = x / 65536 % 256 := wrapu8 _
  have u3 : IntKind.u8.wrap (x / 256) = x / 256 % 256 := wrapu8 _
  have u4 : IntKind.u8.wrap x = x % 256 := wrapu8 _
  clear h hO hl
  go_enter Tryz.func32, Tryz.ntmps32
  go_wp2_with (at_builtin; refine wpList_append_run (.tmp 5) (.tmp 17) 40 40 (by with_reducible rfl) hr rfl rfl (by simp [Act.eval]) (by simp [Act.eval]) ?_)
  go_ret
  exact ⟨_, rfl, HO.out⟩
set_option maxHeartbeats 2000000 in
theorem rput16_any (h : Ob w W v l L n) (x : Int) (hn : n ≤ 990000000) :
    Calls Tryz.prog 36 #[v, .int .u16 x] W fun e W' => ∃ v', e = .returned v' ∧ Ob w W' v' (l ++ be 2 x) L (n + 2) := by
  have hl := h.2
  rw [be2]
  obtain ⟨v1, W1, hr, hO⟩ := out_lits h.1 [x / 256 % 256, x % 256] (bytes_cons (mod_byte _) (bytes_cons (mod_byte _) bytes_nil)) 2 rfl (by omega) 40
  have HO : Hid (Ob w W1 v1 (l ++ [x / 256 % 256, x % 256]) L (n + 2)) := ⟨hO, by simp; omega⟩
  simp only [List.map_cons, List.map_nil] at hr
  have u3 : IntKind.u8.wrap (x / 256) = x / 256 % 256 := wrapu8 _
  have u4 : IntKind.u8.wrap x = x % 256 := wrapu8 _
  clear h hO hl
  go_enter Tryz.func36, Tryz.ntmps36
  go_wp2_with (at_builtin; refine wpList_append_run (.tmp 5) (.tmp 11) 40 40 (by with_reducible rfl) hr rfl rfl (by simp [Act.eval]) (by simp [Act.eval]) ?_)
  go_ret
  exact ⟨_, rfl, HO.out⟩
/-- As one step of a region that draws its order. -/
theorem step_append_run {ops : Array Oper} {o : Oper} {a : Act} {W : World} {K : Act → World → Prop} {Q : Exit → Act → World → Prop} {E : Prop} (hgd : o.guard = none)
    (s x : Operand) (t tn : TypeId) (ho : o.op = .call { callee := .builtin .append, args := #[s, x], argTypes := #[t, tn] }) {vs vx : Value} (hs : a.eval s = vs) (hx : a.eval x = vx)
    {v' : Value} {w' : World} (hr : (Builtin.append_ #[t, tn] o.type #[vs, vx]).run Tryz.prog W = .ok v' w') (h : K (a.put o.dst v') w') :
    if Region.wanted o (yielded ops a.tmps) = true then Oper.wp Tryz.prog o a W K Q else E := by
  have hw : Region.wanted o (yielded ops a.tmps) = true := by simp [Region.wanted, hgd]
  rw [if_pos hw]
  exact wp_append_out s x t tn ho hs hx hr h
theorem step_out {ops : Array Oper} {o : Oper} {a : Act} {K : Act → World → Prop} {Q : Exit → Act → World → Prop} {E : Prop} (hgd : o.guard = none)
    (s x : Operand) (ho : o.op = .call { callee := .builtin .append, args := #[s, x], argTypes := #[40, 40] }) (hs : a.eval s = v) (ad : Addr) (m c : Nat) (hx : a.eval x = .slice (some ad) m c)
    (h : Ob w W v l L n) (k : List Int) (hk : k.length = m) (hr : Row W (some ad) k) (hn : n + m ≤ 1000000000) (hK : ∀ v' W', Ob w W' v' (l ++ k) L (n + m) → K (a.put o.dst v') W') :
    if Region.wanted o (yielded ops a.tmps) = true then Oper.wp Tryz.prog o a W K Q else E := by
  have hl := h.2
  obtain ⟨v', W', h1, h2⟩ := out_append h.1 ad m c k hk hr (by omega) o.type
  exact step_append_run hgd s x _ _ ho hs hx h1 (hK v' W' ⟨h2, by rw [List.length_append]; omega⟩)
theorem step_str {ops : Array Oper} {o : Oper} {a : Act} {K : Act → World → Prop} {Q : Exit → Act → World → Prop} {E : Prop} (hgd : o.guard = none)
    (s x : Operand) (ho : o.op = .call { callee := .builtin .append, args := #[s, x], argTypes := #[40, 9] }) (hs : a.eval s = v) (t : ByteArray) (hx : a.eval x = .string t)
    (h : Ob w W v l L n) (m : Nat) (hk : t.size ≤ m) (hn : n + m ≤ 1000000000) (hK : ∀ v' W', Ob w W' v' (l ++ sb t) L (n + m) → K (a.put o.dst v') W') :
    if Region.wanted o (yielded ops a.tmps) = true then Oper.wp Tryz.prog o a W K Q else E := by
  have hl := h.2
  obtain ⟨v', W', h1, h2⟩ := out_str h.1 t (by omega) o.type
  exact step_append_run hgd s x _ _ ho hs hx h1 (hK v' W' ⟨h2, by rw [List.length_append, sb_len]; omega⟩)
set_option maxHeartbeats 4000000 in
theorem rname_any (h : Ob w W v l L n) (s : ByteArray) (hn : n ≤ 900000000) :
    Calls Tryz.prog 35 #[v, .string s] W fun e W' => ∃ v', e = .returned v' ∧ Ob w W' v' (l ++ nm s) L (n + 256) := by
  obtain ⟨k, hk⟩ : ∃ k, min s.size 255 = k := ⟨_, rfl⟩
  obtain ⟨s', hs'⟩ : ∃ s', s.extract 0 k = s' := ⟨_, rfl⟩
  have hsl : ∀ V, (Instr.slice 9 (.string s) none (some (.int .i64 k)) none).run Tryz.prog V = .ok (.string s') V := by
    intro V
    rw [run_slice_string_h V 9 s Tryz.underlying9 .i64 k (by omega) (by omega), Int.toNat_natCast, hs']
  have hz : s'.size = k := by rw [← hs', ByteArray.size_extract]; omega
  have hsb' : sb s' = (sb s).take 255 := by
    rw [← hs']
    unfold sb
    rw [Lib.extract_data, List.drop_zero, Nat.sub_zero, List.map_take]
    rw [← hk]
    by_cases hc : s.size ≤ 255
    · rw [Nat.min_eq_left hc, List.take_of_length_le (l := List.map _ _) (by rw [List.length_map, Array.length_toList]; exact Nat.le_refl _), List.take_of_length_le (by rw [List.length_map, Array.length_toList]; exact hc)]
    · rw [Nat.min_eq_right (by omega)]
  have hnm : ∀ l : List Int, (l ++ [(k : Int)]) ++ sb s' = l ++ nm s := by
    intro l
    rw [hsb', List.append_assoc]
    unfold nm
    rw [hk]
    rfl
  have HN : Hid (∀ l : List Int, (l ++ [(k : Int)]) ++ sb s' = l ++ nm s) := hnm
  have hk255 : k ≤ 255 := by omega
  have e1 : IntKind.u8.wrap (k : Int) = k := by rw [wrapu8]; omega
  have e2 : (k : Int) % 256 = k := by omega
  have HO : Hid (Ob w W v l L n) := h
  have HS : Hid (s'.size ≤ 255 ∧ n ≤ 900000000 ∧ IsBytes [(k : Int)]) := ⟨by omega, hn, bytes_cons (by omega) bytes_nil⟩
  clear h hsb' hs' hnm hz hn
  by_cases hc : s.size ≤ 255
  · have hk2 : k = s.size := by omega
    have h1 : (s.size : Int) ≤ 255 := by omega
    have h2 : ¬ ((255 : Int) < s.size) := by omega
    subst hk2
    clear hk hc
    go_enter Tryz.func35, Tryz.ntmps35
    go_upto_region 2 with fail
    go_region_held3 (fun V => True) (trivial)
      (first
        | (refine step_out rfl (.tmp 9) (.tmp 12) rfl (by simp [Act.eval]) ⟨W.heap.size, 0, none⟩ 1 1 (by simp [Act.eval]) (HO.out.after (((Below.refl _ _).alloc (Nat.le_refl _) _).drew)) [(s.size : Int)] rfl (row_drew (row_lit W [(s.size : Int)] HS.out.2.2 (by simp) 5)) (by have := HS.out.2.1; omega) ?_; intro v1 W1 hO1)
        | (refine step_str rfl (.tmp 13) (.tmp 16) rfl (by simp [Act.eval]) s' (by simp [Act.eval]) hO1 255 HS.out.1 (by have := HS.out.2.1; omega) ?_; intro v2 W2 hO2))
    rw [HN.out] at hO2
    have HO2 : Hid (Ob w W2 v2 (l ++ nm s) L (n + 1 + 255)) := hO2
    clear hO1 hO2
    go_wp2_with fail
    go_ret
    exact ⟨_, rfl, HO2.out⟩
  · have hk2 : k = 255 := by omega
    have h1 : ¬ ((s.size : Int) ≤ 255) := by omega
    have h2 : (255 : Int) < s.size := by omega
    subst hk2
    clear hk hc
    simp only [Int.cast_ofNat_Int] at hsl e1 e2 HN HS
    go_enter Tryz.func35, Tryz.ntmps35
    go_upto_region 2 with fail
    go_region_held3 (fun V => True) (trivial)
      (first
        | (refine step_out rfl (.tmp 9) (.tmp 12) rfl (by simp [Act.eval]) ⟨W.heap.size, 0, none⟩ 1 1 (by simp [Act.eval]) (HO.out.after (((Below.refl _ _).alloc (Nat.le_refl _) _).drew)) [(255 : Int)] rfl (row_drew (row_lit W [(255 : Int)] HS.out.2.2 (by simp) 5)) (by have := HS.out.2.1; omega) ?_; intro v1 W1 hO1)
        | (refine step_str rfl (.tmp 13) (.tmp 16) rfl (by simp [Act.eval]) s' (by simp [Act.eval]) hO1 255 HS.out.1 (by have := HS.out.2.1; omega) ?_; intro v2 W2 hO2))
    rw [HN.out] at hO2
    have HO2 : Hid (Ob w W2 v2 (l ++ nm s) L (n + 1 + 255)) := hO2
    clear hO1 hO2
    go_wp2_with fail
    go_ret
    exact ⟨_, rfl, HO2.out⟩
theorem spP_enc (x : Int × Int) : spP.enc x = be 4 x.1 ++ be 4 x.2 := by
  simp [spP, spAll, cat, spA, spB, spNum]
theorem rw_at {V : World} {sz : Nat} {a : Option Addr} {n c : Nat} {xs : List (List Value)} (h : Rw V sz (.slice a n c) xs) (i : Nat) (hi : i < xs.length) : ∃ b off, a = some ⟨b, off, none⟩ ∧ ∀ j u, (xs.getD i [])[j]? = some u → V.cell? ⟨b, off + i * sz + j, none⟩ = some u := by
  obtain ⟨a', c', e, _, _, _, hr⟩ := h
  simp only [Value.slice.injEq] at e
  obtain ⟨rfl, -, rfl⟩ := e
  rcases hr with e | ⟨b, off, rfl, hc⟩
  · rw [e] at hi; simp at hi
  · exact ⟨b, off, rfl, hc i hi⟩
set_option maxHeartbeats 4000000 in
theorem rpairs_any (h : Ob w W v l L n) (hn : n ≤ 900000000) (sv : Value) (ps : List (Int × Int)) (hr : Rw w 2 sv (px ps)) (hps : ps.length ≤ 1000000) :
    Calls Tryz.prog 37 #[v, sv] W fun e W' => ∃ v', e = .returned v' ∧ Ob w W' v' (l ++ cat (fun i => spP.enc (ps.getD i (0, 0))) (min ps.length 255)) L (n + 2040) := by
  have hlen : (px ps).length = ps.length := by simp [px]
  obtain ⟨a, c, rfl, hrr⟩ := hr
  have HC : Hid (∀ i, i < ps.length → ∀ V, Mem w V L → ∃ b off x y, a = some ⟨b, off, none⟩ ∧ ps.getD i (0, 0) = (x, y) ∧ V.cell? ⟨b, off + i * 2, none⟩ = some (.int .u32 x) ∧ V.cell? ⟨b, off + i * 2 + 1, none⟩ = some (.int .u32 y)) := by
    intro i hi V hV
    have hr2 : Rw V 2 (.slice a (px ps).length c) (px ps) := hV.rw' ⟨a, c, rfl, hrr⟩ px_ne
    obtain ⟨b, off, rfl, hc⟩ := rw_at hr2 i (by omega)
    obtain ⟨x, hx⟩ : ∃ x, ps[i]? = some x := ⟨_, List.getElem?_eq_getElem hi⟩
    have ex : (px ps).getD i [] = [.int .u32 x.1, .int .u32 x.2] := by simp [px, List.getD, hx]
    rw [ex] at hc
    exact ⟨b, off, x.1, x.2, rfl, by simp [List.getD, hx], hc 0 _ rfl, hc 1 _ rfl⟩
  rw [hlen]
  have HO : Hid (Ob w W v l L n) := h
  obtain ⟨k, hk⟩ : ∃ k, min ps.length 255 = k := ⟨_, rfl⟩
  rw [hk]
  obtain ⟨N, hN⟩ : ∃ N, ps.length = N := ⟨_, rfl⟩
  rw [hN] at HC hk hps ⊢
  have HK : Hid (k = min N 255) := hk.symm
  have hkb : k ≤ 255 := by omega
  have HE : Hid (∀ i, cat (fun i => spP.enc (ps.getD i (0, 0))) (i + 1) = (cat (fun i => spP.enc (ps.getD i (0, 0))) i ++ be 4 (ps.getD i (0, 0)).1) ++ be 4 (ps.getD i (0, 0)).2) := by
    intro i
    rw [cat, spP_enc, List.append_assoc]
  have HNN : Hid (n ≤ 900000000) := hn
  clear h hrr hlen hk hN hn
  generalize (fun i => spP.enc (ps.getD i (0, 0))) = enc at *
  go_enter Tryz.func37, Tryz.ntmps37
  go_wp2_with fail
  go_loopw [0, 5] (fun u0 u5 w' => ∃ i : Nat, i ≤ k ∧ u5 = .int .i64 i ∧ Hid (Ob w w' u0 (l ++ cat enc i) L (n + i * 8))) (fun u0 u5 w' => k - (intOf u5).toNat)
  case atStart => exact ⟨0, Nat.zero_le _, rfl, by rw [cat, List.append_nil]; exact HO⟩
  case round =>
    obtain ⟨i, hi, rfl, HR⟩ := hrel
    clear HO
    by_cases hlt : i < k
    · have hkk := HK.out
      have h1 : (i : Int) < N := by omega
      have h2 : (i : Int) < 255 := by omega
      have h3 : i < N := by omega
      clear hkk
      obtain ⟨b, off, x, y, rfl, exy, c1, c2⟩ := HC.out i h3 _ HR.out.mem
      have KE : Hid (∀ V, Mem w V L → V.cell? ⟨b, off + i * 2, none⟩ = some (.int .u32 x) ∧ V.cell? ⟨b, off + i * 2 + 1, none⟩ = some (.int .u32 y)) := by
        intro V hV
        obtain ⟨b', off', x', y', e1, e2, d1, d2⟩ := HC.out i h3 V hV
        simp only [Option.some.injEq, Addr.mk.injEq, and_true] at e1
        obtain ⟨rfl, rfl⟩ := e1
        rw [exy] at e2
        simp only [Prod.mk.injEq] at e2
        obtain ⟨rfl, rfl⟩ := e2
        exact ⟨d1, d2⟩
      have EE := HE.out i
      rw [exy] at EE
      have HEE : Hid (cat enc (i + 1) = (cat enc i ++ be 4 x) ++ be 4 y) := EE
      clear EE exy
      go_upto_region 4 with fail
      go_region_held3 (fun V => V.cell? ⟨b, off + i * 2, none⟩ = some (.int .u32 x) ∧ V.cell? ⟨b, off + i * 2 + 1, none⟩ = some (.int .u32 y)) (first | go_keep | exact KE.out _ hO1.mem | exact KE.out _ hO2.mem)
        (first
          | (go_at_call 32; with_reducible refine (rput32_any HR.out.drew x (by have := HNN.out; omega)).mono ?_; rintro e W1 ⟨v1, rfl, hO1⟩)
          | (go_at_call 32; with_reducible refine (rput32_any hO1 y (by have := HNN.out; omega)).mono ?_; rintro e W2 ⟨v2, rfl, hO2⟩))
      have HH : Hid (Ob w W2 v2 (l ++ cat enc (i + 1)) L (n + (i + 1) * 8)) := by
        rw [HEE.out, ← List.append_assoc, ← List.append_assoc]
        exact ⟨hO2.1, Nat.le_trans hO2.2 (by omega)⟩
      clear hO1 hO2 HR KE HEE c1 c2
      go_wp2_with fail
      go_roundw
      case rel => exact ⟨i + 1, by omega, by go_num, HH⟩
      case measure => simp [intOf]; omega
    · obtain rfl : i = k := by omega
      have hkk := HK.out
      by_cases hN : i < N
      · have h1 : (i : Int) < N := by omega
        have h2 : ¬ ((i : Int) < 255) := by omega
        clear hkk
        go_wp2_with fail
        go_ret
        exact ⟨_, rfl, HR.out.1, Nat.le_trans HR.out.2 (by omega)⟩
      · have h1 : ¬ ((i : Int) < N) := by omega
        clear hkk
        go_wp2_with fail
        go_ret
        exact ⟨_, rfl, HR.out.1, Nat.le_trans HR.out.2 (by omega)⟩
end
end Go.Proofs.YtngegdamcfmonaaGreat

namespace Go.Proofs.YtngegdamcfmonaaGreat
open Go.ChangeShapes Go.WideShapes Go.ChangeAt Go.RowKit Go.Joins
open Sm
open Cf
set_option linter.unusedVariables false
set_option maxRecDepth 100000

theorem map_of {k : IntKind} {P : Int → Prop} : ∀ (cs : List Value), (∀ i, i < cs.length → ∃ a, cs[i]? = some (.int k a) ∧ P a) → ∃ l : List Int, cs = l.map (Value.int k) ∧ ∀ a ∈ l, P a
  | [], _ => ⟨[], rfl, by simp⟩
  | c :: cs, h => by
    obtain ⟨a, e, ha⟩ := h 0 (by simp)
    simp at e
    subst e
    obtain ⟨l, rfl, hl⟩ := map_of cs (fun i hi => by simpa using h (i + 1) (by simpa using hi))
    exact ⟨a :: l, rfl, fun b hb => by
      rcases List.mem_cons.mp hb with rfl | hb
      · exact ha
      · exact hl b hb⟩
theorem bytes_all : ∀ {l : List Int}, (∀ a ∈ l, 0 ≤ a ∧ a ≤ 255) → IsBytes l
  | [], _ => bytes_nil
  | a :: l, h => bytes_cons (h a (by simp)) (bytes_all fun b hb => h b (List.mem_cons_of_mem _ hb))
section
variable {H : Type} {enc : TypeId × Value → H} {W : World} {base : Nat} {held : Bool}
theorem open_arr {t : TypeId} {n : Nat} (ht : Tryz.prog.underlying t = some (.array n 5)) (hc : Tryz.prog.cellsOf t = n) {fuel : Nat} {cs : List Value} {x : DataW H × List MemPlace} (h : DataW.trod enc Tryz.prog W base (fun _ => true) held fuel t cs = some x) :
    ∃ l : List Int, cs = l.map (Value.int .u8) ∧ l.length = n ∧ IsBytes l := by
  obtain ⟨xs, m, -, -, hcl, hlen, hel⟩ := DataW.trod_array ht h
  rw [hc] at hcl
  rw [show Tryz.prog.cellsOf 5 = 1 by kernel_rfl] at hel
  obtain ⟨l, rfl, hl⟩ := map_of (k := .u8) (P := fun a => 0 ≤ a ∧ a ≤ 255) cs (fun i hi => by
    have h1 := hel i (by omega)
    rw [List.getElem?_eq_getElem (by omega)] at h1
    obtain ⟨a, e0, -, wa⟩ := DataW.trod_int Tryz.underlying5 h1
    refine ⟨a, ?_, bounds_u8 wa⟩
    have := congrArg (·[0]?) e0
    simpa [List.getElem?_take, List.getElem?_drop] using this)
  exact ⟨l, rfl, by simpa using hcl, bytes_all hl⟩
theorem addr_add (b off j : Nat) : (Addr.mk b off none).add j = ⟨b, off + j, none⟩ := by
  by_cases e : j = 0
  · subst e; simp [Addr.add]
  · simp [Addr.add, e]
theorem open_nums {fuel : Nat} {cs : List Value} {x : DataW H × List MemPlace} (h : DataW.trod enc Tryz.prog W base (fun _ => true) held fuel 29 cs = some x) :
    ∃ (v : Value) (l : List Int), cs = [v] ∧ Rw W 1 v (ux l) := by
  rcases open_ints Tryz.underlying29 Tryz.underlying22 (by kernel_rfl) h with ⟨rfl, _⟩ | ⟨a, len, cap, zs, rfl, _, hl, hm, hz, _, hcell, hwz⟩
  · exact ⟨_, [], rfl, none, 0, rfl, Nat.le_refl _, by omega, fun _ => rfl, Or.inl rfl⟩
  · simp only [if_true] at hz
    have e : (ux (zs.take len)).length = len := by simp [ux]; omega
    refine ⟨_, zs.take len, rfl, some a, cap, by rw [e], by omega, hm, (fun e => by cases e), ?_⟩
    by_cases h0 : len = 0
    · left
      subst h0
      simp [ux]
    · right
      obtain ⟨b, off, spot⟩ := a
      have hspot : spot = none := by
        have hc := hcell 0 (by omega)
        simpa [Addr.add] using World.cell?_spot hc
      subst hspot
      refine ⟨b, off, rfl, fun i hi j u hu => ?_⟩
      rw [e] at hi
      have hi' : i < (zs.take len).length := by simp; omega
      have hg : (ux (zs.take len)).getD i [] = [.int .u32 (zs.getD i 0)] := by
        rw [List.getD, ux, List.getElem?_map, List.getElem?_take, if_pos hi, List.getD, List.getElem?_eq_getElem (by omega)]
        rfl
      rw [hg] at hu
      match j, hu with
      | 0, hu =>
        simp at hu
        subst hu
        have hc := hcell i (by omega)
        rw [addr_add] at hc
        simpa using hc
theorem trod_struct2 {t : TypeId} {f0 f1 : Field} {fuel : Nat} {cs : List Value} {x : DataW H × List MemPlace} (ht : Tryz.prog.underlying t = some (.struct #[f0, f1])) (h : DataW.trod enc Tryz.prog W base (fun _ => true) held fuel t cs = some x) :
    ∃ y0 y1 n, DataW.trod enc Tryz.prog W base (fun _ => true) held n f0.type ((cs.drop f0.offset).take (Tryz.prog.cellsOf f0.type)) = some y0 ∧ DataW.trod enc Tryz.prog W base (fun _ => true) held n f1.type ((cs.drop f1.offset).take (Tryz.prog.cellsOf f1.type)) = some y1 := by
  obtain ⟨xs, n, _, _, hl, hlen, hf⟩ := DataW.trod_struct ht h
  match xs, hlen with
  | [y0, y1], _ => exact ⟨y0, y1, n, by simpa using hf 0 f0 rfl, by simpa using hf 1 f1 rfl⟩
theorem list_of {β : Type} (Q : Nat → β → Prop) : ∀ n, (∀ i, i < n → ∃ x, Q i x) → ∃ l : List β, l.length = n ∧ ∀ i x, l[i]? = some x → Q i x
  | 0, _ => ⟨[], rfl, by simp⟩
  | n + 1, h => by
    obtain ⟨l, hl, hq⟩ := list_of Q n (fun i hi => h i (by omega))
    obtain ⟨x, hx⟩ := h n (by omega)
    refine ⟨l ++ [x], by simp [hl], fun i y hy => ?_⟩
    rw [List.getElem?_append] at hy
    split at hy
    · exact hq i y hy
    · rename_i hi
      have : i = n := by
        have := (List.getElem?_eq_some_iff.1 hy).1
        simp at this
        omega
      subst this
      rw [hl, Nat.sub_self] at hy
      simp at hy
      subst hy
      exact hx
theorem open_pairs {fuel : Nat} {cs : List Value} {x : DataW H × List MemPlace} (h : DataW.trod enc Tryz.prog W base (fun _ => true) held fuel 31 cs = some x) :
    ∃ (v : Value) (l : List (Int × Int)), cs = [v] ∧ Rw W 2 v (px l) := by
  rcases Go.Deep.open_slice Tryz.underlying31 h with ⟨rfl, _⟩ | ⟨a, len, cap, m, n, D, Pl, rfl, _, hl, hm, hmm, _, hx⟩
  · exact ⟨_, [], rfl, none, 0, rfl, Nat.le_refl _, by omega, fun _ => rfl, Or.inl rfl⟩
  · have hlm : len ≤ m := by simp at hmm; omega
    by_cases h0 : len = 0
    · subst h0
      exact ⟨_, [], rfl, some a, cap, rfl, Nat.zero_le _, hm, (fun e => by cases e), Or.inl rfl⟩
    · rw [show Tryz.prog.cellsOf 142 = 2 by kernel_rfl] at hx
      obtain ⟨b, off, spot⟩ := a
      have hspot : spot = none := by
        obtain ⟨cs', h1, h2⟩ := hx 0 (by omega)
        obtain ⟨_, hlen, hcell⟩ := World.cells?_some h1
        have hc := hcell 0 (by omega)
        rw [List.getElem?_eq_getElem (by omega)] at hc
        simpa [Addr.add] using World.cell?_spot hc
      subst hspot
      obtain ⟨l, hll, hq⟩ := list_of (fun i (x : Int × Int) => W.cell? ⟨b, off + i * 2, none⟩ = some (.int .u32 x.1) ∧ W.cell? ⟨b, off + i * 2 + 1, none⟩ = some (.int .u32 x.2)) len (fun i hi => by
        obtain ⟨cs', h1, h2⟩ := hx i (by omega)
        obtain ⟨_, hlen, hcell⟩ := World.cells?_some h1
        match cs', hlen with
        | [v0, v1], _ =>
          have e0 := hcell 0 (by omega)
          have e1 := hcell 1 (by omega)
          rw [Go.Deep.add_add] at e0 e1
          rw [addr_add] at e0 e1
          obtain ⟨y0, y1, n', g0, g1⟩ := trod_struct2 Tryz.underlying142 h2
          have k0 : DataW.trod enc Tryz.prog W base (fun _ => true) held n' 22 [v0] = some y0 := by
            have := g0; simp only [show Tryz.prog.cellsOf 22 = 1 by kernel_rfl] at this; exact this
          have k1 : DataW.trod enc Tryz.prog W base (fun _ => true) held n' 22 [v1] = some y1 := by
            have := g1; simp only [show Tryz.prog.cellsOf 22 = 1 by kernel_rfl] at this; exact this
          obtain ⟨x0, rfl, q0⟩ := open_cell Tryz.underlying22 k0
          obtain ⟨x1, rfl, q1⟩ := open_cell Tryz.underlying22 k1
          exact ⟨(x0, x1), by simpa using e0, by simpa [Nat.add_assoc] using e1⟩)
      have e : (px l).length = len := by simp [px, hll]
      refine ⟨_, l, rfl, some ⟨b, off, none⟩, cap, by rw [e], by omega, hm, (fun e => by cases e), Or.inr ⟨b, off, rfl, fun i hi j u hu => ?_⟩⟩
      rw [e] at hi
      have hg : (px l).getD i [] = [.int .u32 (l[i]'(by omega)).1, .int .u32 (l[i]'(by omega)).2] := by
        rw [List.getD, px, List.getElem?_map, List.getElem?_eq_getElem (by omega)]
        rfl
      rw [hg] at hu
      obtain ⟨q0, q1⟩ := hq i _ (List.getElem?_eq_getElem (by omega))
      match j, hu with
      | 0, hu =>
        simp at hu
        subst hu
        simpa using q0
      | 1, hu =>
        simp at hu
        subst hu
        exact q1
theorem open_num {fuel : Nat} {t : TypeId} {k : IntKind} {cs : List Value} {x : DataW H × List MemPlace} (ht : Tryz.prog.underlying t = some (.int k)) (h : DataW.trod enc Tryz.prog W base (fun _ => true) held fuel t cs = some x) : ∃ a, cs = [.int k a] := by
  obtain ⟨a, e, -, -⟩ := DataW.trod_int ht h
  exact ⟨a, e⟩
theorem trod_struct16 {t : TypeId} {f0 f1 f2 f3 f4 f5 f6 f7 f8 f9 f10 f11 f12 f13 f14 f15 : Field} {fuel : Nat} {cs : List Value} {x : DataW H × List MemPlace} (ht : Tryz.prog.underlying t = some (.struct #[f0, f1, f2, f3, f4, f5, f6, f7, f8, f9, f10, f11, f12, f13, f14, f15])) (h : DataW.trod enc Tryz.prog W base (fun _ => true) held fuel t cs = some x) :
    ∃ n, cs.length = Tryz.prog.cellsOf t ∧ (∃ y, DataW.trod enc Tryz.prog W base (fun _ => true) held n f0.type ((cs.drop f0.offset).take (Tryz.prog.cellsOf f0.type)) = some y) ∧ (∃ y, DataW.trod enc Tryz.prog W base (fun _ => true) held n f1.type ((cs.drop f1.offset).take (Tryz.prog.cellsOf f1.type)) = some y) ∧ (∃ y, DataW.trod enc Tryz.prog W base (fun _ => true) held n f2.type ((cs.drop f2.offset).take (Tryz.prog.cellsOf f2.type)) = some y) ∧ (∃ y, DataW.trod enc Tryz.prog W base (fun _ => true) held n f3.type ((cs.drop f3.offset).take (Tryz.prog.cellsOf f3.type)) = some y) ∧ (∃ y, DataW.trod enc Tryz.prog W base (fun _ => true) held n f4.type ((cs.drop f4.offset).take (Tryz.prog.cellsOf f4.type)) = some y) ∧ (∃ y, DataW.trod enc Tryz.prog W base (fun _ => true) held n f5.type ((cs.drop f5.offset).take (Tryz.prog.cellsOf f5.type)) = some y) ∧ (∃ y, DataW.trod enc Tryz.prog W base (fun _ => true) held n f6.type ((cs.drop f6.offset).take (Tryz.prog.cellsOf f6.type)) = some y) ∧ (∃ y, DataW.trod enc Tryz.prog W base (fun _ => true) held n f7.type ((cs.drop f7.offset).take (Tryz.prog.cellsOf f7.type)) = some y) ∧ (∃ y, DataW.trod enc Tryz.prog W base (fun _ => true) held n f8.type ((cs.drop f8.offset).take (Tryz.prog.cellsOf f8.type)) = some y) ∧ (∃ y, DataW.trod enc Tryz.prog W base (fun _ => true) held n f9.type ((cs.drop f9.offset).take (Tryz.prog.cellsOf f9.type)) = some y) ∧ (∃ y, DataW.trod enc Tryz.prog W base (fun _ => true) held n f10.type ((cs.drop f10.offset).take (Tryz.prog.cellsOf f10.type)) = some y) ∧ (∃ y, DataW.trod enc Tryz.prog W base (fun _ => true) held n f11.type ((cs.drop f11.offset).take (Tryz.prog.cellsOf f11.type)) = some y) ∧ (∃ y, DataW.trod enc Tryz.prog W base (fun _ => true) held n f12.type ((cs.drop f12.offset).take (Tryz.prog.cellsOf f12.type)) = some y) ∧ (∃ y, DataW.trod enc Tryz.prog W base (fun _ => true) held n f13.type ((cs.drop f13.offset).take (Tryz.prog.cellsOf f13.type)) = some y) ∧ (∃ y, DataW.trod enc Tryz.prog W base (fun _ => true) held n f14.type ((cs.drop f14.offset).take (Tryz.prog.cellsOf f14.type)) = some y) ∧ (∃ y, DataW.trod enc Tryz.prog W base (fun _ => true) held n f15.type ((cs.drop f15.offset).take (Tryz.prog.cellsOf f15.type)) = some y) := by
  obtain ⟨xs, n, _, _, hl, hlen, hf⟩ := DataW.trod_struct ht h
  have hlen' : xs.length = 16 := hlen
  exact ⟨n, hl, ⟨_, (hf 0 f0 rfl).trans (List.getElem?_eq_getElem (by omega))⟩, ⟨_, (hf 1 f1 rfl).trans (List.getElem?_eq_getElem (by omega))⟩, ⟨_, (hf 2 f2 rfl).trans (List.getElem?_eq_getElem (by omega))⟩, ⟨_, (hf 3 f3 rfl).trans (List.getElem?_eq_getElem (by omega))⟩, ⟨_, (hf 4 f4 rfl).trans (List.getElem?_eq_getElem (by omega))⟩, ⟨_, (hf 5 f5 rfl).trans (List.getElem?_eq_getElem (by omega))⟩, ⟨_, (hf 6 f6 rfl).trans (List.getElem?_eq_getElem (by omega))⟩, ⟨_, (hf 7 f7 rfl).trans (List.getElem?_eq_getElem (by omega))⟩, ⟨_, (hf 8 f8 rfl).trans (List.getElem?_eq_getElem (by omega))⟩, ⟨_, (hf 9 f9 rfl).trans (List.getElem?_eq_getElem (by omega))⟩, ⟨_, (hf 10 f10 rfl).trans (List.getElem?_eq_getElem (by omega))⟩, ⟨_, (hf 11 f11 rfl).trans (List.getElem?_eq_getElem (by omega))⟩, ⟨_, (hf 12 f12 rfl).trans (List.getElem?_eq_getElem (by omega))⟩, ⟨_, (hf 13 f13 rfl).trans (List.getElem?_eq_getElem (by omega))⟩, ⟨_, (hf 14 f14 rfl).trans (List.getElem?_eq_getElem (by omega))⟩, ⟨_, (hf 15 f15 rfl).trans (List.getElem?_eq_getElem (by omega))⟩⟩
theorem open_cells {fuel : Nat} {cs : List Value} {x : DataW H × List MemPlace} (hf : DataW.trod enc Tryz.prog W base (fun _ => true) held fuel 33 cs = some x) :
    ∃ (t : Ten) (p s q : Value), cs = tc t p s q ∧ TLen t ∧ Rw W 1 p (ux t.pool) ∧ Rw W 2 s (px t.stat) ∧ Rw W 2 q (px t.twi) ∧ IsBytes t.key ∧ IsBytes t.vmac ∧ IsBytes t.host := by
  obtain ⟨n, hl, ⟨y0, g0⟩, ⟨y1, g1⟩, ⟨y2, g2⟩, ⟨y3, g3⟩, ⟨y4, g4⟩, ⟨y5, g5⟩, ⟨y6, g6⟩, ⟨y7, g7⟩, ⟨y8, g8⟩, ⟨y9, g9⟩, ⟨y10, g10⟩, ⟨y11, g11⟩, ⟨y12, g12⟩, ⟨y13, g13⟩, ⟨y14, g14⟩, ⟨y15, g15⟩⟩ := trod_struct16 Tryz.underlying33 hf
  rw [show Tryz.prog.cellsOf 33 = 33 by kernel_rfl] at hl
  have c1 : Tryz.prog.cellsOf 9 = 1 := by kernel_rfl
  have c2 : Tryz.prog.cellsOf 22 = 1 := by kernel_rfl
  have c3 : Tryz.prog.cellsOf 25 = 8 := by kernel_rfl
  have c4 : Tryz.prog.cellsOf 24 = 6 := by kernel_rfl
  have c5 : Tryz.prog.cellsOf 29 = 1 := by kernel_rfl
  have c6 : Tryz.prog.cellsOf 30 = 1 := by kernel_rfl
  have c7 : Tryz.prog.cellsOf 3 = 1 := by kernel_rfl
  have c8 : Tryz.prog.cellsOf 31 = 1 := by kernel_rfl
  simp only [c1, c2, c3, c4, c5, c6, c7, c8] at g0 g1 g2 g3 g4 g5 g6 g7 g8 g9 g10 g11 g12 g13 g14 g15
  obtain ⟨nm, e0, -⟩ := DataW.trod_string Tryz.underlying9 g0
  obtain ⟨vni, e1⟩ := open_num Tryz.underlying22 g1
  obtain ⟨key, e2, l2, b2⟩ := open_arr Tryz.underlying25 c3 g2
  obtain ⟨vtep, e3⟩ := open_num Tryz.underlying22 g3
  obtain ⟨vmac, e4, l4, b4⟩ := open_arr Tryz.underlying24 c4 g4
  obtain ⟨host, e5, l5, b5⟩ := open_arr Tryz.underlying24 c4 g5
  obtain ⟨p, pool, e6, r6⟩ := open_nums g6
  obtain ⟨lo, e7⟩ := open_num Tryz.underlying30 g7
  obtain ⟨hi, e8⟩ := open_num Tryz.underlying30 g8
  obtain ⟨fi, e9⟩ := open_num Tryz.underlying3 g9
  obtain ⟨s, stat, e10, r10⟩ := open_pairs g10
  obtain ⟨q, twi, e11, r11⟩ := open_pairs g11
  obtain ⟨se, e12⟩ := open_num Tryz.underlying3 g12
  obtain ⟨qu, e13⟩ := open_num Tryz.underlying3 g13
  obtain ⟨ra, e14⟩ := open_num Tryz.underlying22 g14
  obtain ⟨bu, e15⟩ := open_num Tryz.underlying22 g15
  have step : ∀ o n o', o + n = o' → cs.drop o = (cs.drop o).take n ++ cs.drop o' := by
    intro o n o' e
    subst e
    rw [← List.drop_drop, List.take_append_drop]
  refine ⟨⟨nm, vni, key, vtep, vmac, host, pool, lo, hi, fi, stat, twi, se, qu, ra, bu⟩, p, s, q, ?_, ⟨l2, l4, l5⟩, r6, r10, r11, b2, b4, b5⟩
  have hend : cs.drop 33 = [] := by rw [List.drop_eq_nil_iff]; omega
  refine (List.drop_zero (l := cs)).symm.trans ?_
  rw [step 0 1 1 rfl, e0, step 1 1 2 rfl, e1, step 2 8 10 rfl, e2, step 10 1 11 rfl, e3, step 11 6 17 rfl, e4, step 17 6 23 rfl, e5, step 23 1 24 rfl, e6, step 24 1 25 rfl, e7, step 25 1 26 rfl, e8, step 26 1 27 rfl, e9, step 27 1 28 rfl, e10, step 28 1 29 rfl, e11, step 29 1 30 rfl, e12, step 30 1 31 rfl, e13, step 31 1 32 rfl, e14, step 32 1 33 rfl, e15, hend]
  simp only [tc, List.cons_append, List.nil_append, List.append_nil]
theorem open_tenant {r : Reach} {b0 : Nat} {v : Value} {d : DataW H} {p : List MemPlace} (hv : Value.okWide Tryz.prog W r b0 33 v) (h : DataW.Trod enc Tryz.prog W base (fun _ => true) held 33 v d p) :
    ∃ t : Ten, TV W v t ∧ IsBytes t.key ∧ IsBytes t.vmac ∧ IsBytes t.host := by
  obtain ⟨cs, rfl, hsz⟩ := okWide_struct Tryz.underlying33 hv
  obtain ⟨fuel, hf⟩ := h
  obtain ⟨t, p, s, q, e, h1, h2, h3, h4, h5, h6, h7⟩ := open_cells hf
  refine ⟨t, ⟨h1, p, s, q, ?_, h2, h3, h4⟩, h5, h6, h7⟩
  have e' : cs.toList = tc t p s q := e
  rw [← e']
end
end Go.Proofs.YtngegdamcfmonaaGreat

