/-
  Settings as bytes: the program's OpenTenant, at all bytes.
  Settings as bytes: the document's own put16, put32, name, pairs.
  Settings held against one another: which tenants the statements speak of.
-/
import Derived.Test.YtngegdamcfmonaaGreatM21
namespace Go.Proofs.YtngegdamcfmonaaGreat
open Go.RowKit
open Sm
open Cf
set_option linter.unusedVariables false
set_option maxRecDepth 20000

theorem rw_own_U {w V : World} {K : List (Nat × Obj)} (l : List Int) (hp : Nat) (h : Mem w V (lb hp 22 (ux l) ++ K)) (hl : l.length ≤ 255) : Rw V 1 (lv hp (ux l)) (ux l) := by
  have hlen : (ux l).length = l.length := by simp [ux]
  by_cases h0 : l = []
  · subst h0; exact ⟨none, 0, rfl, Nat.le_refl _, by omega, fun _ => rfl, Or.inl rfl⟩
  · have hne : ux l ≠ [] := by simpa [ux] using h0
    rw [lb_one hne] at h
    rw [lv_one hne]
    refine ⟨_, _, rfl, Nat.le_refl _, by omega, (fun e => by cases e), Or.inr ⟨hp, 0, rfl, fun i hi j u hj => ?_⟩⟩
    obtain ⟨x, hx⟩ : ∃ x, l[i]? = some x := ⟨_, List.getElem?_eq_getElem (by omega)⟩
    have ex : (ux l).getD i [] = [.int .u32 x] := by simp [ux, List.getD, hx]
    rw [ex] at hj
    rw [h.cell 0 rfl, flat_TU l i x hx]
    have := get_mid (ux (l.take i)).flatten [.int .u32 x] (ux (l.drop (i + 1))).flatten j u hj
    rw [flatl_TU, List.length_take, Nat.min_eq_left (by omega)] at this
    rw [Nat.zero_add]; exact this
theorem rw_own_P {w V : World} {K : List (Nat × Obj)} (l : List (Int × Int)) (hp : Nat) (h : Mem w V (lb hp 142 (px l) ++ K)) (hl : l.length ≤ 255) : Rw V 2 (lv hp (px l)) (px l) := by
  have hlen : (px l).length = l.length := by simp [px]
  by_cases h0 : l = []
  · subst h0; exact ⟨none, 0, rfl, Nat.le_refl _, by omega, fun _ => rfl, Or.inl rfl⟩
  · have hne : px l ≠ [] := by simpa [px] using h0
    rw [lb_one hne] at h
    rw [lv_one hne]
    refine ⟨_, _, rfl, Nat.le_refl _, by omega, (fun e => by cases e), Or.inr ⟨hp, 0, rfl, fun i hi j u hj => ?_⟩⟩
    obtain ⟨x, hx⟩ : ∃ x, l[i]? = some x := ⟨_, List.getElem?_eq_getElem (by omega)⟩
    have ex : (px l).getD i [] = [.int .u32 x.1, .int .u32 x.2] := by simp [px, List.getD, hx]
    rw [ex] at hj
    rw [h.cell 0 rfl, flat_TP l i x hx]
    have := get_mid (px (l.take i)).flatten [.int .u32 x.1, .int .u32 x.2] (px (l.drop (i + 1))).flatten j u hj
    rw [flatl_TP, List.length_take, Nat.min_eq_left (by omega)] at this
    rw [Nat.zero_add]; exact this
theorem tc_one (t : Ten) (hp hs hq : Nat) (x y z : List (List Value)) : (tc t (lv hp x) (lv hs y) (lv hq z)).toArray.all (·.oneCell') = true := by
  have ho : ∀ h xs, (lv h xs).oneCell' = true := by intro h xs; cases xs <;> rfl
  apply all_oneCell_toArray
  intro v hv
  simp only [tc, List.mem_cons, List.mem_append, List.mem_map, List.not_mem_nil, or_false] at hv
  rcases hv with rfl | rfl | ⟨x, _, rfl⟩ | rfl | ⟨x, _, rfl⟩ | ⟨x, _, rfl⟩ | rfl | rfl | rfl | rfl | rfl | rfl | rfl | rfl | rfl | rfl <;> first | rfl | exact ho _ _
theorem perm4 {α : Type} (d b c a : α) (l : List α) : (c :: b :: d :: a :: l).Perm (c :: b :: d :: a :: l) := List.Perm.refl _
/-- A tenant that bytes begin with, and those behind. -/
def tdec (l : List Int) : Option (Ten × List Int) := spT.dec l ten0
abbrev tz : Array Value := (tc ten0 nilV nilV nilV).toArray
theorem JT_zero {w V : World} {g : Nat} {T : TypeId} {K : List (Nat × Obj)} (h : Mem w V ((g, .cells tz T (0, 0)) :: K)) : JT w ten0 g T [] [] V K :=
  ⟨ten0_len, ⟨by decide, by decide, by decide⟩, 0, 0, 0, h⟩
theorem build_T (V : World) : (Instr.build 33 #[]).run Tryz.prog V = .ok (.agg tz) V := by kernel_rfl
theorem sizeT : (Tryz.prog.info? 33).map (·.size) = some 33 := by kernel_rfl

theorem results_two' {fn : Func} {p q : Tmp} {ty : TypeId} (h : fn.results = #[.cell p ty, .tmp q]) (tmps : Array Value) (w : World) (g : Nat) (cs : Array Value)
    (hp : tmps.getD p undef = .pointer (some ⟨g, 0, none⟩)) (hl : (loadVar ty ⟨g, 0, none⟩).run Tryz.prog w = .ok (.agg cs) w) :
    (results fn tmps).run Tryz.prog w = .ok (.tuple #[.agg cs, tmps.getD q undef]) w := by
  have hp' : tmps[p]?.getD undef = .pointer (some ⟨g, 0, none⟩) := by simpa using hp
  simp [results, h, hp', asAddr, hl]
theorem results_three {fn : Func} {p q r : Tmp} {ty : TypeId} (h : fn.results = #[.cell p ty, .tmp q, .tmp r]) (tmps : Array Value) (w : World) (g : Nat) (cs : Array Value)
    (hp : tmps.getD p undef = .pointer (some ⟨g, 0, none⟩)) (hl : (loadVar ty ⟨g, 0, none⟩).run Tryz.prog w = .ok (.agg cs) w) :
    (results fn tmps).run Tryz.prog w = .ok (.tuple #[.agg cs, tmps.getD q undef, tmps.getD r undef]) w := by
  have hp' : tmps[p]?.getD undef = .pointer (some ⟨g, 0, none⟩) := by simpa using hp
  simp [results, h, hp', asAddr, hl]
set_option maxHeartbeats 8000000 in
theorem openTenant_any {w : World} {a : Option Addr} {l : List Int} {c : Nat} (hS : Sl w a l c) (hl : l.length ≤ 1000000) :
    Calls Tryz.prog 21 #[.slice a l.length c] w fun e w' => Below w.heap.size w w' ∧ match tdec l with
      | none => e = .returned (.tuple #[.agg tz, .int .i64 0, .int .i64 70])
      | some (t, l') => ∃ v, e = .returned (.tuple #[v, .int .i64 ((l.length : Int) - l'.length), .int .i64 0]) ∧ TV w' v t := by
  have hM0 : Mem w ((w.alloc (.cells tz 33)).alloc (.cells tz 33)) [(w.heap.size + 1, .cells tz 33 (0, 0)), (w.heap.size, .cells tz 33 (0, 0))] := two_blocks' w _ _
  have C := tenant_any hM0
  obtain ⟨g, hg⟩ : ∃ g, w.heap.size = g := ⟨_, rfl⟩
  rw [hg] at C
  obtain ⟨R, hR⟩ : ∃ R, tdec l = R := ⟨_, rfl⟩
  rw [hR]
  clear hM0
  go_enter Tryz.func21, Tryz.ntmps21
  go_upto_region 2 with (refine wpList_store_row rfl 33 (.tmp 5) (.tmp 8) (by with_reducible rfl) (w.heap.size + 1) tz (by simp [Act.eval]) (by simp [Act.eval]; rfl) 33 tz (heap_alloc2_new _ _ _) (by kernel_rfl) rfl (by kernel_rfl) ?_)
  refine wp_letter (fun V => V = (w.alloc (.cells tz 33)).alloc (.cells tz 33)) (by
    have := World.setRow_alloc_new (w.alloc (.cells tz 33)) tz tz 33
    rw [show (w.alloc (.cells tz 33)).heap.size = w.heap.size + 1 by simp] at this
    exact this) ?_
  rintro V0 rfl
  go_wp2_with fail
  refine C.mono ?_
  rintro e V ⟨⟨k1, k2, k3, c1, c2, c3⟩, E, rfl, hM, hF⟩
  have hM1 : Mem w V ((g + 1, .cells tz 33 (0, 0)) :: (E ++ [(g, .cells tz 33 (0, 0))])) := hM.perm (List.perm_middle (l₁ := E))
  have CR := hF.rd (E ++ [(g, .cells tz 33 (0, 0))]) (fun q hq => List.mem_append_left _ hq) ten0 (g + 1) 33 [] [] a l c V (JT_zero hM1) hS
  have eg : ∀ args V, (callFunc k2 args).run Tryz.prog V = .ok (.enter k2 args) V := hF.er
  have hfd : ∀ V, (Instr.field 79 (.agg #[.func (.func k1) #[] c1, .func (.func k2) #[] c2, .func (.func k3) #[] c3]) 1).run Tryz.prog V = .ok (.func (.func k2) #[] c2) V := fun V => by kernel_rfl
  simp only [List.length_nil] at CR
  simp only [tdec] at hR
  rw [hR] at CR
  simp only [Fv.val]
  clear hF C hM hM1 hS hR
  generalize hll : l.length = n at *
  cases R with
  | none =>
    go_wp2_with fail
    refine CR.mono ?_
    rintro e V2 ⟨rfl, hM2⟩
    have hM3 : Mem w V2 ((g, .cells tz 33 (0, 0)) :: E) := hM2.perm List.perm_append_comm
    have hg3 := hM3.get 0 rfl
    have hM4 : Mem w (V2.setRow g tz) ((g, .cells tz 33 (0, 0)) :: E) := hM3.wrote 0 rfl (wrote_setRow V2 g tz tz _ hg3)
    have hbt := build_T
    go_wp2_with (refine wpList_store_row rfl 33 (.tmp 2) (.tmp 18) (by with_reducible rfl) g tz (by simp [Act.eval]) (by simp [Act.eval]; rfl) 33 tz hg3 (by kernel_rfl) rfl (by kernel_rfl) ?_)
    refine bodyPost_ret (v := .tuple #[.agg tz, .int .i64 0, .int .i64 70]) ?_ rfl ⟨hg ▸ hM4.below, rfl⟩
    exact results_three (p := 2) (q := 3) (r := 4) (ty := 33) rfl _ _ g tz rfl (run_loadVar_row _ _ 33 33 _ (0, 0) _ (hM4.get 0 rfl) Tryz.underlying33 rfl (by kernel_rfl))
  | some x =>
    obtain ⟨t, l'⟩ := x
    go_wp2_with fail
    refine CR.mono ?_
    rintro e V2 ⟨a2, c2', rfl, hS2, hJ⟩
    obtain ⟨hlen, hbd, hp, hs, hq, hM2⟩ := hJ
    simp only [List.nil_append, List.append_nil] at hM2
    have hone := tc_one t hp hs hq (ux t.pool) (px t.stat) (px t.twi)
    obtain ⟨tl, htl⟩ : ∃ tl, (tc t (lv hp (ux t.pool)) (lv hs (px t.stat)) (lv hq (px t.twi))).toArray = tl := ⟨_, rfl⟩
    rw [htl] at hM2 hone
    have hg5 := hM2.get 0 rfl
    have hsz : tl.size = 33 := by rw [← htl, List.size_toArray]; exact tc_len hlen _ _ _
    have hi33 : (Tryz.prog.info? 33).map (·.size) = some tl.size := by rw [hsz]; kernel_rfl
    have hM3 : Mem w V2 ((g, .cells tz 33 (0, 0)) :: (g + 1, .cells tl 33 (0, 0)) :: (lb hp 22 (ux t.pool) ++ (lb hs 142 (px t.stat) ++ (lb hq 142 (px t.twi) ++ E)))) := hM2.perm (by
      rw [← List.append_assoc, ← List.append_assoc, ← List.append_assoc, ← List.cons_append]
      refine List.Perm.trans List.perm_append_comm ?_
      rw [List.append_assoc, List.append_assoc]
      exact List.Perm.refl _)
    have hg3 := hM3.get 0 rfl
    have hM4 : Mem w (V2.setRow g tl) ((g, .cells tl 33 (0, 0)) :: (g + 1, .cells tl 33 (0, 0)) :: (lb hp 22 (ux t.pool) ++ (lb hs 142 (px t.stat) ++ (lb hq 142 (px t.twi) ++ E)))) := hM3.wrote 0 rfl (wrote_setRow V2 g tz _ _ hg3)
    have HT : Hid (TV (V2.setRow g tl) (.agg tl) t) :=
      ⟨hlen, _, _, _, by rw [← htl], rw_own_U _ _ hM4.sub.sub hbd.1, rw_own_P _ _ hM4.sub.sub.dropA hbd.2.1, rw_own_P _ _ hM4.sub.sub.dropA.dropA hbd.2.2⟩
    have hl2 : IntKind.i64.wrap ((n : Int) - l'.length) = (n : Int) - l'.length := wrap64n (by have := hS2.row.len; omega) (by omega)
    clear CR hM2 hM3 hS2 htl
    go_wp2_with (first | (refine wpList_load_row rfl 33 (.tmp 5) (by with_reducible rfl) (g + 1) (by simp [Act.eval]) 33 tl (0, 0) _ hg5 Tryz.underlying33 rfl hi33 ?_) | (refine wpList_store_row rfl 33 (.tmp 2) (.tmp 19) (by with_reducible rfl) g tl (by simp [Act.eval]) (by simp [Act.eval]) 33 tz hg3 hi33 (by rw [hsz]; rfl) hone ?_))
    refine bodyPost_ret (v := .tuple #[.agg tl, .int .i64 ((n : Int) - l'.length), .int .i64 0]) ?_ rfl ⟨hg ▸ hM4.below, ⟨_, rfl, HT.out⟩⟩
    exact results_three (p := 2) (q := 3) (r := 4) (ty := 33) rfl _ _ g tl rfl (run_loadVar_row _ _ 33 33 _ (0, 0) _ (hM4.get 0 rfl) Tryz.underlying33 rfl hi33)
end Go.Proofs.YtngegdamcfmonaaGreat

namespace Go.Proofs.YtngegdamcfmonaaGreat
open Go.RowKit
open Sm
open Cf
set_option linter.unusedVariables false
set_option maxRecDepth 20000

/-- Bytes of the call's own, at most n of them. -/
def Ob (w W : World) (v : Value) (l : List Int) (L : List (Nat × Obj)) (n : Nat) : Prop := Out w W v l L ∧ l.length ≤ n
section
variable {w W W' : World} {v : Value} {l : List Int} {L : List (Nat × Obj)} {n : Nat}
theorem Ob.mem (h : Ob w W v l L n) : Mem w W L := h.1.mem
theorem Ob.after (h : Ob w W v l L n) (hb : Below W.heap.size W W') : Ob w W' v l L n := ⟨h.1.after hb, h.2⟩
theorem Ob.drew (h : Ob w W v l L n) : Ob w W.drew v l L n := h.after ((Below.refl _ _).drew)
theorem be4 (x : Int) : be 4 x = [x / 16777216 % 256, x / 65536 % 256, x / 256 % 256, x % 256] := by simp [be]
theorem be2 (x : Int) : be 2 x = [x / 256 % 256, x % 256] := by simp [be]
theorem be1 (x : Int) : be 1 x = [x % 256] := by simp [be]
theorem be2_wrap (x : Int) : be 2 (IntKind.u16.wrap x) = be 2 x := by
  have : IntKind.u16.wrap x = x % 65536 := by simp [IntKind.wrap, IntKind.bits, IntKind.signed]
  rw [be2, be2, this]
  congr 1
  · omega
  · congr 1; omega
theorem out_lits (h : Out w W v l L) (k : List Int) (hk : IsBytes k) (m : Nat) (hm : k.length = m) (hb : l.length + m ≤ 1000000000) (ty : TypeId) :
    ∃ v' W', (Builtin.append_ #[40, 40] ty #[v, .slice (some ⟨W.heap.size, 0, none⟩) m m]).run Tryz.prog (W.alloc (.cells (k.map (Value.int .u8)).toArray 5)) = .ok v' W' ∧ Out w W' v' (l ++ k) L :=
  out_append (h.after ((Below.refl _ _).alloc (Nat.le_refl _) _)) _ m m k hm (row_lit W k hk (by omega) 5) hb ty
set_option maxHeartbeats 2000000 in
theorem rput32_any (h : Ob w W v l L n) (x : Int) (hn : n ≤ 990000000) :
    Calls Tryz.prog 32 #[v, .int .u32 x] W fun e W' => ∃ v', e = .returned v' ∧ Ob w W' v' (l ++ be 4 x) L (n + 4) := by
  have hl := h.2
  rw [be4]
  obtain ⟨v1, W1, hr, hO⟩ := out_lits h.1 [x / 16777216 % 256, x / 65536 % 256, x / 256 % 256, x % 256] (bytes_cons (mod_byte _) (bytes_cons (mod_byte _) (bytes_cons (mod_byte _) (bytes_cons (mod_byte _) bytes_nil)))) 4 rfl (by omega) 40
  have HO : Hid (Ob w W1 v1 (l ++ [x / 16777216 % 256, x / 65536 % 256, x / 256 % 256, x % 256]) L (n + 4)) := ⟨hO, by simp; omega⟩
  simp only [List.map_cons, List.map_nil] at hr
  have u1 : IntKind.u8.wrap (x / 16777216) = x / 16777216 % 256 := wrapu8 _
  have u2 : IntKind.u8.wrap (x / 65536) = x / 65536 % 256 := wrapu8 _
  have u3 : IntKind.u8.wrap (x / 256) = x / 256 % 256 := wrapu8 _
  have u4 : IntKind.u8.wrap x = x % 256 := wrapu8 _
  clear h hO hl
  go_enter Tryz.func32, Tryz.ntmps32
  go_wp2_with (at_builtin; refine wpList_append_run (.tmp 5) (.tmp 17) 40 40 (by with_reducible rfl) hr rfl rfl (by simp [Act.eval]) (by simp [Act.eval]) ?_)
  go_ret
  exact ⟨_, rfl, HO.out⟩
set_option maxHeartbeats 2000000 in
theorem rput16_any (h : Ob w W v l L n) (x : Int) (hn : n ≤ 990000000) :
    Calls Tryz.prog 36 #[v, .int .u16 x] W fun e W' => ∃ v', e = .returned v' ∧ Ob w W' v' (l ++ be 2 x) L (n + 2) := by
  have hl := h.2
  rw [be2]
  obtain ⟨v1, W1, hr, hO⟩ := out_lits h.1 [x / 256 % 256, x % 256] (bytes_cons (mod_byte _) (bytes_cons (mod_byte _) bytes_nil)) 2 rfl (by omega) 40
  have HO : Hid (Ob w W1 v1 (l ++ [x / 256 % 256, x % 256]) L (n + 2)) := ⟨hO, by simp; omega⟩
  simp only [List.map_cons, List.map_nil] at hr
  have u3 : IntKind.u8.wrap (x / 256) = x / 256 % 256 := wrapu8 _
  have u4 : IntKind.u8.wrap x = x % 256 := wrapu8 _
  clear h hO hl
  go_enter Tryz.func36, Tryz.ntmps36
  go_wp2_with (at_builtin; refine wpList_append_run (.tmp 5) (.tmp 11) 40 40 (by with_reducible rfl) hr rfl rfl (by simp [Act.eval]) (by simp [Act.eval]) ?_)
  go_ret
  exact ⟨_, rfl, HO.out⟩
/-- As one step of a region that draws its order. -/
theorem step_append_run {ops : Array Oper} {o : Oper} {a : Act} {W : World} {K : Act → World → Prop} {Q : Exit → Act → World → Prop} {E : Prop} (hgd : o.guard = none)
    (s x : Operand) (t tn : TypeId) (ho : o.op = .call { callee := .builtin .append, args := #[s, x], argTypes := #[t, tn] }) {vs vx : Value} (hs : a.eval s = vs) (hx : a.eval x = vx)
    {v' : Value} {w' : World} (hr : (Builtin.append_ #[t, tn] o.type #[vs, vx]).run Tryz.prog W = .ok v' w') (h : K (a.put o.dst v') w') :
    if Region.wanted o (yielded ops a.tmps) = true then Oper.wp Tryz.prog o a W K Q else E := by
  have hw : Region.wanted o (yielded ops a.tmps) = true := by simp [Region.wanted, hgd]
  rw [if_pos hw]
  exact wp_append_out s x t tn ho hs hx hr h
theorem step_out {ops : Array Oper} {o : Oper} {a : Act} {K : Act → World → Prop} {Q : Exit → Act → World → Prop} {E : Prop} (hgd : o.guard = none)
    (s x : Operand) (ho : o.op = .call { callee := .builtin .append, args := #[s, x], argTypes := #[40, 40] }) (hs : a.eval s = v) (ad : Addr) (m c : Nat) (hx : a.eval x = .slice (some ad) m c)
    (h : Ob w W v l L n) (k : List Int) (hk : k.length = m) (hr : Row W (some ad) k) (hn : n + m ≤ 1000000000) (hK : ∀ v' W', Ob w W' v' (l ++ k) L (n + m) → K (a.put o.dst v') W') :
    if Region.wanted o (yielded ops a.tmps) = true then Oper.wp Tryz.prog o a W K Q else E := by
  have hl := h.2
  obtain ⟨v', W', h1, h2⟩ := out_append h.1 ad m c k hk hr (by omega) o.type
  exact step_append_run hgd s x _ _ ho hs hx h1 (hK v' W' ⟨h2, by rw [List.length_append]; omega⟩)
theorem step_str {ops : Array Oper} {o : Oper} {a : Act} {K : Act → World → Prop} {Q : Exit → Act → World → Prop} {E : Prop} (hgd : o.guard = none)
    (s x : Operand) (ho : o.op = .call { callee := .builtin .append, args := #[s, x], argTypes := #[40, 9] }) (hs : a.eval s = v) (t : ByteArray) (hx : a.eval x = .string t)
    (h : Ob w W v l L n) (m : Nat) (hk : t.size ≤ m) (hn : n + m ≤ 1000000000) (hK : ∀ v' W', Ob w W' v' (l ++ sb t) L (n + m) → K (a.put o.dst v') W') :
    if Region.wanted o (yielded ops a.tmps) = true then Oper.wp Tryz.prog o a W K Q else E := by
  have hl := h.2
  obtain ⟨v', W', h1, h2⟩ := out_str h.1 t (by omega) o.type
  exact step_append_run hgd s x _ _ ho hs hx h1 (hK v' W' ⟨h2, by rw [List.length_append, sb_len]; omega⟩)
set_option maxHeartbeats 4000000 in
theorem rname_any (h : Ob w W v l L n) (s : ByteArray) (hn : n ≤ 900000000) :
    Calls Tryz.prog 35 #[v, .string s] W fun e W' => ∃ v', e = .returned v' ∧ Ob w W' v' (l ++ nm s) L (n + 256) := by
  obtain ⟨k, hk⟩ : ∃ k, min s.size 255 = k := ⟨_, rfl⟩
  obtain ⟨s', hs'⟩ : ∃ s', s.extract 0 k = s' := ⟨_, rfl⟩
  have hsl : ∀ V, (Instr.slice 9 (.string s) none (some (.int .i64 k)) none).run Tryz.prog V = .ok (.string s') V := by
    intro V
    rw [run_slice_string_h V 9 s Tryz.underlying9 .i64 k (by omega) (by omega), Int.toNat_natCast, hs']
  have hz : s'.size = k := by rw [← hs', ByteArray.size_extract]; omega
  have hsb' : sb s' = (sb s).take 255 := by
    rw [← hs']
    unfold sb
    rw [Lib.extract_data, List.drop_zero, Nat.sub_zero, List.map_take]
    rw [← hk]
    by_cases hc : s.size ≤ 255
    · rw [Nat.min_eq_left hc, List.take_of_length_le (l := List.map _ _) (by rw [List.length_map, Array.length_toList]; exact Nat.le_refl _), List.take_of_length_le (by rw [List.length_map, Array.length_toList]; exact hc)]
    · rw [Nat.min_eq_right (by omega)]
  have hnm : ∀ l : List Int, (l ++ [(k : Int)]) ++ sb s' = l ++ nm s := by
    intro l
    rw [hsb', List.append_assoc]
    unfold nm
    rw [hk]
    rfl
  have HN : Hid (∀ l : List Int, (l ++ [(k : Int)]) ++ sb s' = l ++ nm s) := hnm
  have hk255 : k ≤ 255 := by omega
  have e1 : IntKind.u8.wrap (k : Int) = k := by rw [wrapu8]; omega
  have e2 : (k : Int) % 256 = k := by omega
  have HO : Hid (Ob w W v l L n) := h
  have HS : Hid (s'.size ≤ 255 ∧ n ≤ 900000000 ∧ IsBytes [(k : Int)]) := ⟨by omega, hn, bytes_cons (by omega) bytes_nil⟩
  clear h hsb' hs' hnm hz hn
  by_cases hc : s.size ≤ 255
  · have hk2 : k = s.size := by omega
    have h1 : (s.size : Int) ≤ 255 := by omega
    have h2 : ¬ ((255 : Int) < s.size) := by omega
    subst hk2
    clear hk hc
    go_enter Tryz.func35, Tryz.ntmps35
    go_upto_region 2 with fail
    go_region_held3 (fun V => True) (trivial)
      (first
        | (refine step_out rfl (.tmp 9) (.tmp 12) rfl (by simp [Act.eval]) ⟨W.heap.size, 0, none⟩ 1 1 (by simp [Act.eval]) (HO.out.after (((Below.refl _ _).alloc (Nat.le_refl _) _).drew)) [(s.size : Int)] rfl (row_drew (row_lit W [(s.size : Int)] HS.out.2.2 (by simp) 5)) (by have := HS.out.2.1; omega) ?_; intro v1 W1 hO1)
        | (refine step_str rfl (.tmp 13) (.tmp 16) rfl (by simp [Act.eval]) s' (by simp [Act.eval]) hO1 255 HS.out.1 (by have := HS.out.2.1; omega) ?_; intro v2 W2 hO2))
    rw [HN.out] at hO2
    have HO2 : Hid (Ob w W2 v2 (l ++ nm s) L (n + 1 + 255)) := hO2
    clear hO1 hO2
    go_wp2_with fail
    go_ret
    exact ⟨_, rfl, HO2.out⟩
  · have hk2 : k = 255 := by omega
    have h1 : ¬ ((s.size : Int) ≤ 255) := by omega
    have h2 : (255 : Int) < s.size := by omega
    subst hk2
    clear hk hc
    simp only [Int.cast_ofNat_Int] at hsl e1 e2 HN HS
    go_enter Tryz.func35, Tryz.ntmps35
    go_upto_region 2 with fail
    go_region_held3 (fun V => True) (trivial)
      (first
        | (refine step_out rfl (.tmp 9) (.tmp 12) rfl (by simp [Act.eval]) ⟨W.heap.size, 0, none⟩ 1 1 (by simp [Act.eval]) (HO.out.after (((Below.refl _ _).alloc (Nat.le_refl _) _).drew)) [(255 : Int)] rfl (row_drew (row_lit W [(255 : Int)] HS.out.2.2 (by simp) 5)) (by have := HS.out.2.1; omega) ?_; intro v1 W1 hO1)
        | (refine step_str rfl (.tmp 13) (.tmp 16) rfl (by simp [Act.eval]) s' (by simp [Act.eval]) hO1 255 HS.out.1 (by have := HS.out.2.1; omega) ?_; intro v2 W2 hO2))
    rw [HN.out] at hO2
    have HO2 : Hid (Ob w W2 v2 (l ++ nm s) L (n + 1 + 255)) := hO2
    clear hO1 hO2
    go_wp2_with fail
    go_ret
    exact ⟨_, rfl, HO2.out⟩
theorem spP_enc (x : Int × Int) : spP.enc x = be 4 x.1 ++ be 4 x.2 := by
  simp [spP, spAll, cat, spA, spB, spNum]
theorem rw_at {V : World} {sz : Nat} {a : Option Addr} {n c : Nat} {xs : List (List Value)} (h : Rw V sz (.slice a n c) xs) (i : Nat) (hi : i < xs.length) : ∃ b off, a = some ⟨b, off, none⟩ ∧ ∀ j u, (xs.getD i [])[j]? = some u → V.cell? ⟨b, off + i * sz + j, none⟩ = some u := by
  obtain ⟨a', c', e, _, _, _, hr⟩ := h
  simp only [Value.slice.injEq] at e
  obtain ⟨rfl, -, rfl⟩ := e
  rcases hr with e | ⟨b, off, rfl, hc⟩
  · rw [e] at hi; simp at hi
  · exact ⟨b, off, rfl, hc i hi⟩
set_option maxHeartbeats 4000000 in
theorem rpairs_any (h : Ob w W v l L n) (hn : n ≤ 900000000) (sv : Value) (ps : List (Int × Int)) (hr : Rw w 2 sv (px ps)) (hps : ps.length ≤ 1000000) :
    Calls Tryz.prog 37 #[v, sv] W fun e W' => ∃ v', e = .returned v' ∧ Ob w W' v' (l ++ cat (fun i => spP.enc (ps.getD i (0, 0))) (min ps.length 255)) L (n + 2040) := by
  have hlen : (px ps).length = ps.length := by simp [px]
  obtain ⟨a, c, rfl, hrr⟩ := hr
  have HC : Hid (∀ i, i < ps.length → ∀ V, Mem w V L → ∃ b off x y, a = some ⟨b, off, none⟩ ∧ ps.getD i (0, 0) = (x, y) ∧ V.cell? ⟨b, off + i * 2, none⟩ = some (.int .u32 x) ∧ V.cell? ⟨b, off + i * 2 + 1, none⟩ = some (.int .u32 y)) := by
    intro i hi V hV
    have hr2 : Rw V 2 (.slice a (px ps).length c) (px ps) := hV.rw' ⟨a, c, rfl, hrr⟩ px_ne
    obtain ⟨b, off, rfl, hc⟩ := rw_at hr2 i (by omega)
    obtain ⟨x, hx⟩ : ∃ x, ps[i]? = some x := ⟨_, List.getElem?_eq_getElem hi⟩
    have ex : (px ps).getD i [] = [.int .u32 x.1, .int .u32 x.2] := by simp [px, List.getD, hx]
    rw [ex] at hc
    exact ⟨b, off, x.1, x.2, rfl, by simp [List.getD, hx], hc 0 _ rfl, hc 1 _ rfl⟩
  rw [hlen]
  have HO : Hid (Ob w W v l L n) := h
  obtain ⟨k, hk⟩ : ∃ k, min ps.length 255 = k := ⟨_, rfl⟩
  rw [hk]
  obtain ⟨N, hN⟩ : ∃ N, ps.length = N := ⟨_, rfl⟩
  rw [hN] at HC hk hps ⊢
  have HK : Hid (k = min N 255) := hk.symm
  have hkb : k ≤ 255 := by omega
  have HE : Hid (∀ i, cat (fun i => spP.enc (ps.getD i (0, 0))) (i + 1) = (cat (fun i => spP.enc (ps.getD i (0, 0))) i ++ be 4 (ps.getD i (0, 0)).1) ++ be 4 (ps.getD i (0, 0)).2) := by
    intro i
    rw [cat, spP_enc, List.append_assoc]
  have HNN : Hid (n ≤ 900000000) := hn
  clear h hrr hlen hk hN hn
  generalize (fun i => spP.enc (ps.getD i (0, 0))) = enc at *
  go_enter Tryz.func37, Tryz.ntmps37
  go_wp2_with fail
  go_loopw [0, 5] (fun u0 u5 w' => ∃ i : Nat, i ≤ k ∧ u5 = .int .i64 i ∧ Hid (Ob w w' u0 (l ++ cat enc i) L (n + i * 8))) (fun u0 u5 w' => k - (intOf u5).toNat)
  case atStart => exact ⟨0, Nat.zero_le _, rfl, by rw [cat, List.append_nil]; exact HO⟩
  case round =>
    obtain ⟨i, hi, rfl, HR⟩ := hrel
    clear HO
    by_cases hlt : i < k
    · have hkk := HK.out
      have h1 : (i : Int) < N := by omega
      have h2 : (i : Int) < 255 := by omega
      have h3 : i < N := by omega
      clear hkk
      obtain ⟨b, off, x, y, rfl, exy, c1, c2⟩ := HC.out i h3 _ HR.out.mem
      have KE : Hid (∀ V, Mem w V L → V.cell? ⟨b, off + i * 2, none⟩ = some (.int .u32 x) ∧ V.cell? ⟨b, off + i * 2 + 1, none⟩ = some (.int .u32 y)) := by
        intro V hV
        obtain ⟨b', off', x', y', e1, e2, d1, d2⟩ := HC.out i h3 V hV
        simp only [Option.some.injEq, Addr.mk.injEq, and_true] at e1
        obtain ⟨rfl, rfl⟩ := e1
        rw [exy] at e2
        simp only [Prod.mk.injEq] at e2
        obtain ⟨rfl, rfl⟩ := e2
        exact ⟨d1, d2⟩
      have EE := HE.out i
      rw [exy] at EE
      have HEE : Hid (cat enc (i + 1) = (cat enc i ++ be 4 x) ++ be 4 y) := EE
      clear EE exy
      go_upto_region 4 with fail
      go_region_held3 (fun V => V.cell? ⟨b, off + i * 2, none⟩ = some (.int .u32 x) ∧ V.cell? ⟨b, off + i * 2 + 1, none⟩ = some (.int .u32 y)) (first | go_keep | exact KE.out _ hO1.mem | exact KE.out _ hO2.mem)
        (first
          | (go_at_call 32; with_reducible refine (rput32_any HR.out.drew x (by have := HNN.out; omega)).mono ?_; rintro e W1 ⟨v1, rfl, hO1⟩)
          | (go_at_call 32; with_reducible refine (rput32_any hO1 y (by have := HNN.out; omega)).mono ?_; rintro e W2 ⟨v2, rfl, hO2⟩))
      have HH : Hid (Ob w W2 v2 (l ++ cat enc (i + 1)) L (n + (i + 1) * 8)) := by
        rw [HEE.out, ← List.append_assoc, ← List.append_assoc]
        exact ⟨hO2.1, Nat.le_trans hO2.2 (by omega)⟩
      clear hO1 hO2 HR KE HEE c1 c2
      go_wp2_with fail
      go_roundw
      case rel => exact ⟨i + 1, by omega, by go_num, HH⟩
      case measure => simp [intOf]; omega
    · obtain rfl : i = k := by omega
      have hkk := HK.out
      by_cases hN : i < N
      · have h1 : (i : Int) < N := by omega
        have h2 : ¬ ((i : Int) < 255) := by omega
        clear hkk
        go_wp2_with fail
        go_ret
        exact ⟨_, rfl, HR.out.1, Nat.le_trans HR.out.2 (by omega)⟩
      · have h1 : ¬ ((i : Int) < N) := by omega
        clear hkk
        go_wp2_with fail
        go_ret
        exact ⟨_, rfl, HR.out.1, Nat.le_trans HR.out.2 (by omega)⟩
end
end Go.Proofs.YtngegdamcfmonaaGreat

namespace Go.Proofs.YtngegdamcfmonaaGreat
open Go.RowKit
open Sm
open Cf
set_option linter.unusedVariables false
set_option maxRecDepth 20000

/-- A tenant that is light. -/
def Lgt (t : Ten) : Prop := t.name.size ≤ 300 ∧ t.pool.length ≤ 300 ∧ t.stat.length ≤ 300 ∧ t.twi.length ≤ 300
instance (t : Ten) : Decidable (Lgt t) := by unfold Lgt; infer_instance
set_option maxHeartbeats 8000000 in
theorem light_any {w : World} {v : Value} {t : Ten} (h : TV w v t) :
    Calls Tryz.prog 11 #[v] w fun e w' => e = .returned (.bool (decide (Lgt t))) ∧ Below w.heap.size w w' := by
  obtain ⟨R, hR⟩ : ∃ R, decide (Lgt t) = R := ⟨_, rfl⟩
  rw [hR]
  have hR' : ∀ b : Bool, (b = true ↔ Lgt t) → R = b := by
    intro b hb
    rw [← hR]
    cases b with
    | true => exact decide_eq_true (hb.mp rfl)
    | false => exact decide_eq_false (fun e => by cases hb.mpr e)
  clear hR
  obtain ⟨hl, p, s, q, rfl, ⟨pa, pc, rfl, -⟩, ⟨sa, sc, rfl, -⟩, ⟨qa, qc, rfl, -⟩⟩ := h
  obtain ⟨n, vn, key, vt, vm, ho, po, lo, hi, fi, st, tw, se, qu, ra, bu⟩ := t
  obtain ⟨h1, h2, h3⟩ := hl
  obtain ⟨a, b, c, d, f, g, x, y, rfl⟩ := eight8 h1
  obtain ⟨a1, b1, c1, d1, f1, g1, rfl⟩ := six6 h2
  obtain ⟨a2, b2, c2, d2, f2, g2, rfl⟩ := six6 h3
  have k1 : (ux po).length = po.length := by simp [ux]
  have k2 : (px st).length = st.length := by simp [px]
  have k3 : (px tw).length = tw.length := by simp [px]
  simp only [tc, List.map_cons, List.map_nil, List.cons_append, List.nil_append, Lgt, k1, k2, k3] at hR' ⊢
  clear k1 k2 k3 h1 h2 h3
  generalize po.length = pn at *
  generalize st.length = sn at *
  generalize tw.length = qn at *
  go_enter Tryz.func11, Tryz.ntmps11
  by_cases e1 : n.size ≤ 300
  rotate_left
  · have d1 : decide ((n.size : Int) ≤ 300) = false := decide_eq_false (by omega)
    obtain rfl := hR' false ⟨(fun e => by cases e), fun e => absurd e.1 e1⟩
    go_wp2_with fail
    go_ret
    exact ⟨rfl, (Below.refl _ _).alloc (Nat.le_refl _) _⟩
  have d1 : decide ((n.size : Int) ≤ 300) = true := decide_eq_true (by omega)
  by_cases e2 : pn ≤ 300
  rotate_left
  · have d2 : decide ((pn : Int) ≤ 300) = false := decide_eq_false (by omega)
    obtain rfl := hR' false ⟨(fun e => by cases e), fun e => absurd e.2.1 e2⟩
    go_wp2_with fail
    go_ret
    exact ⟨rfl, (Below.refl _ _).alloc (Nat.le_refl _) _⟩
  have d2 : decide ((pn : Int) ≤ 300) = true := decide_eq_true (by omega)
  by_cases e3 : sn ≤ 300
  rotate_left
  · have d3 : decide ((sn : Int) ≤ 300) = false := decide_eq_false (by omega)
    obtain rfl := hR' false ⟨(fun e => by cases e), fun e => absurd e.2.2.1 e3⟩
    go_wp2_with fail
    go_ret
    exact ⟨rfl, (Below.refl _ _).alloc (Nat.le_refl _) _⟩
  have d3 : decide ((sn : Int) ≤ 300) = true := decide_eq_true (by omega)
  by_cases e4 : qn ≤ 300
  rotate_left
  · have d4 : decide ((qn : Int) ≤ 300) = false := decide_eq_false (by omega)
    obtain rfl := hR' false ⟨(fun e => by cases e), fun e => absurd e.2.2.2 e4⟩
    go_wp2_with fail
    go_ret
    exact ⟨rfl, (Below.refl _ _).alloc (Nat.le_refl _) _⟩
  have d4 : decide ((qn : Int) ≤ 300) = true := decide_eq_true (by omega)
  obtain rfl := hR' true ⟨fun _ => ⟨e1, e2, e3, e4⟩, fun _ => rfl⟩
  go_wp2_with fail
  go_ret
  exact ⟨rfl, (Below.refl _ _).alloc (Nat.le_refl _) _⟩
end Go.Proofs.YtngegdamcfmonaaGreat

