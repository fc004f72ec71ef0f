/-
  What rewrite.look and rewrite.Look answer.
-/
import Derived.Test.YtjalpbkfpjfigaaGreatM27
namespace Go.Proofs.YtjalpbkfpjfigaaGreat
open Go.RowKit
open Sm
set_option linter.unusedVariables false
set_option maxRecDepth 20000

/-! ### What lies from a base on. -/
/-- All blocks from B on are as they were. -/
def Above (B : Nat) (w w' : World) : Prop := ∀ k, B ≤ k → w'.heap[k]? = w.heap[k]?
theorem Above.refl (B : Nat) (w : World) : Above B w w := fun _ _ => rfl
theorem Above.set {B : Nat} {w w' : World} (h : Above B w w') {g j : Nat} (hg : g < B) {x : Value} : Above B w (w'.setCell ⟨g, j, none⟩ x) := fun k hk => by
  rw [Below.heap_setCell _ _ _ _ (by simp only; omega)]; exact h k hk
theorem Row.above {w w' : World} {B : Nat} {a : Option Addr} {l : List Int} (h : Row w a l) (ha : ∀ x, a = some x → B ≤ x.block) (hs : Above B w w') : Row w' a l := by
  refine ⟨h.bytes, h.len, ?_⟩
  rcases h.cells with e | ⟨b, off, rfl, hc⟩
  · exact Or.inl e
  · refine Or.inr ⟨b, off, rfl, fun i hi => ?_⟩
    have := hc i hi
    unfold World.cell? at this ⊢
    simp only at this ⊢
    rw [hs b (ha _ rfl)]
    exact this
theorem IpV.above {w w' : World} {B : Nat} {v : Value} {p : Pk} (h : IpV w B v p) (hs : Above B w w') : IpV w' B v p := by
  obtain ⟨ao, co, bo, cb, e, h1, h2, h3, h4, h5, h6⟩ := h
  exact ⟨ao, co, bo, cb, e, h1.above h5 hs, h2.above h6 hs, h3, h4, h5, h6⟩
theorem UdV.above {w w' : World} {B : Nat} {v : Value} {u : Dg} (h : UdV w B v u) (hs : Above B w w') : UdV w' B v u := by
  obtain ⟨bo, cb, e, h1, h2, h3⟩ := h
  exact ⟨bo, cb, e, h1.above h3 hs, h2, h3⟩
theorem TcV.above {w w' : World} {B : Nat} {v : Value} {q : Sg} (h : TcV w B v q) (hs : Above B w w') : TcV w' B v q := by
  obtain ⟨ao, co, bo, cb, e, h1, h2, h3, h4, h5, h6⟩ := h
  exact ⟨ao, co, bo, cb, e, h1.above h5 hs, h2.above h6 hs, h3, h4, h5, h6⟩
theorem own_above {w w' : World} {B n : Nat} {v : Value} {xs : List Value} (h : w.ownsRow B 5 1 v n xs) (hs : Above B w w') : w'.ownsRow B 5 1 v n xs := by
  obtain ⟨h1, h2⟩ := h
  rcases h2 with h2 | ⟨k, cap, cur, e, hk, hh, r⟩
  · exact ⟨h1, Or.inl h2⟩
  · exact ⟨h1, Or.inr ⟨k, cap, cur, e, hk, by rw [hs k hk]; exact hh, r⟩⟩
theorem MgO.above {w w' : World} {B : Nat} {v : Value} {q : Mg} (h : MgO w B v q) (hs : Above B w w') : MgO w' B v q := by
  obtain ⟨bo, cb, e, h1, h2⟩ := h
  exact ⟨bo, cb, e, own_above h1 hs, h2⟩
theorem Above.mono {B C : Nat} {w w' : World} (h : Above B w w') (hC : B ≤ C) : Above C w w' := fun k hk => h k (Nat.le_trans hC hk)
theorem BdV.above {w w' : World} {B : Nat} {v : Value} {p : Pk} (h : BdV w B v p) (hs : Above B w w') : BdV w' B v p := by
  rcases h with ⟨e, u, ev, h⟩ | ⟨e, u, ev, h⟩ | ⟨e, u, ev, h⟩
  · exact Or.inl ⟨e, u, ev, h.above hs⟩
  · exact Or.inr (Or.inl ⟨e, u, ev, h.above hs⟩)
  · exact Or.inr (Or.inr ⟨e, u, ev, h.above hs⟩)
theorem PtsV.above {w w' : World} {B : Nat} {v : Value} {ps : List Pt} (h : PtsV w B v ps) (hs : Above B w w') : PtsV w' B v ps := by
  rcases h with h | ⟨k, s, d, e, ev, hk, hC⟩
  · exact Or.inl h
  · exact Or.inr ⟨k, s, d, e, ev, by rw [hs k hC]; exact hk, hC⟩

theorem Mem.first {w W : World} {p : Nat × Obj} {L : List (Nat × Obj)} (h : Mem w W (p :: L)) : Mem w W [p] :=
  ⟨h.below, fun q hq => h.low q (by simp at hq; simp [hq]), fun q hq => h.at_ q (by simp at hq; simp [hq]), by simp⟩
/-- A struct in its box, and a number beside it, as a body's results. -/
theorem results_cell_tmp {fn : Func} {p q : Tmp} {ty : TypeId} (h : fn.results = #[.cell p ty, .tmp q]) (tmps : Array Value) (w : World) (g : Nat) (cs : Array Value)
    (hp : tmps.getD p undef = .pointer (some ⟨g, 0, none⟩)) (hl : (loadVar ty ⟨g, 0, none⟩).run Tryz.prog w = .ok (.agg cs) w) :
    (results fn tmps).run Tryz.prog w = .ok (.tuple #[.agg cs, tmps.getD q undef]) w := by
  have hp' : tmps[p]?.getD undef = .pointer (some ⟨g, 0, none⟩) := by simpa using hp
  simp [results, h, hp', asAddr, hl]
/-- The world at a body's end under a new letter. -/
theorem post_letter {P : Program} {fn : Func} {R : Ending → World → Prop} {e : Exit} {a : Act} {W : World} (S : World → Prop) (h : S W) (k : ∀ W', S W' → bodyPost P fn R e a W') : bodyPost P fn R e a W := k W h

/-! ### What is seen. -/
abbrev snT : TypeId := 66
abbrev snB (p : Pk) (o b bv : Value) (f : Fl) (iv : Value) : Array Value :=
  #[.int .u8 p.tos, .int .u8 p.ttl, .int .u8 p.proto, .int .u16 p.id, .int .u8 p.flags, .int .u16 p.off, .int .u32 p.src, .int .u32 p.dst, o, b, bv,
    .int .u8 f.proto, .int .u32 f.src.ip, .int .u16 f.src.port, .int .u32 f.dst.ip, .int .u16 f.dst.port, .int .u8 f.flags, iv]
abbrev sn0 : Array Value :=
  #[.int .u8 0, .int .u8 0, .int .u8 0, .int .u16 0, .int .u8 0, .int .u16 0, .int .u32 0, .int .u32 0, .slice none 0 0, .slice none 0 0, .nilIface, .int .u8 0, .int .u32 0, .int .u16 0, .int .u32 0, .int .u16 0, .int .u8 0, .slice none 0 0]
/-- What a seen packet's lists are: its options and body, what it carries (behind C, its options before), its points. -/
structure SnL (w : World) (B : Nat) (p : Pk) (f : Fl) (ao bo ia : Option Addr) (co cb ic : Nat) (bt : TypeId) (bu : Value) : Prop where
  ip : IpV w B (.agg (ipB p (.slice ao p.opts.length co) (.slice bo p.body.length cb))) p
  cap : p.body.length ≤ cb
  bd : ∃ C, B ≤ C ∧ BdV w C (.iface bt bu) p ∧ (p.opts = [] ∨ ∀ x, ao = some x → x.block < C)
  pts : PtsV w B (.slice ia f.inner.length ic) f.inner
theorem SnL.above {w w' : World} {B : Nat} {p : Pk} {f : Fl} {ao bo ia : Option Addr} {co cb ic : Nat} {bt : TypeId} {bu : Value} (h : SnL w B p f ao bo ia co cb ic bt bu) (hs : Above B w w') : SnL w' B p f ao bo ia co cb ic bt bu := by
  obtain ⟨h1, h2, ⟨C, h3, h4, h5⟩, h6⟩ := h
  exact ⟨h1.above hs, h2, ⟨C, h3, h4.above (hs.mono h3), h5⟩, h6.above hs⟩
theorem SnL.below {w w' : World} {C : Nat} {p : Pk} {f : Fl} {ao bo ia : Option Addr} {co cb ic : Nat} {bt : TypeId} {bu : Value} (h : SnL w C p f ao bo ia co cb ic bt bu) {B : Nat} (hb : Below B w w') (hB : w.heap.size ≤ B) : SnL w' C p f ao bo ia co cb ic bt bu := by
  obtain ⟨h1, h2, ⟨D, h3, h4, h5⟩, h6⟩ := h
  exact ⟨h1.below hb hB, h2, ⟨D, h3, h4.below hb hB, h5⟩, h6.below hb hB⟩
theorem SnL.mono {w : World} {B D : Nat} {p : Pk} {f : Fl} {ao bo ia : Option Addr} {co cb ic : Nat} {bt : TypeId} {bu : Value} (h : SnL w B p f ao bo ia co cb ic bt bu) (hD : D ≤ B) : SnL w D p f ao bo ia co cb ic bt bu := by
  obtain ⟨h1, h2, ⟨C, h3, h4, h5⟩, h6⟩ := h
  exact ⟨h1.mono hD, h2, ⟨C, Nat.le_trans hD h3, h4, h5⟩, h6.mono hD⟩

/-- ip.Parse's answer written out. -/
theorem parse_seen {w : World} {a : Option Addr} {n c : Nat} {l : List Int} (hr : Row w a l) (hn : l.length = n) (hc : n ≤ c) :
    Calls Tryz.prog 43 #[.slice a n c] w fun r w' => ∃ ao co bo cb, r = .returned (.tuple #[.agg (ipB (ipRes l) (.slice ao (ipRes l).opts.length co) (.slice bo (ipRes l).body.length cb)), .int .i64 (ipErr l)]) ∧
      IpV w' w.heap.size (.agg (ipB (ipRes l) (.slice ao (ipRes l).opts.length co) (.slice bo (ipRes l).body.length cb))) (ipRes l) ∧ (ipRes l).body.length ≤ cb ∧ Below w.heap.size w w' := by
  refine (parse_cap hr hn hc).mono ?_
  rintro r w' ⟨v, rfl, ⟨hv, hcap⟩, hb⟩
  have hv' := hv
  obtain ⟨ao, co, bo, cb, rfl, -⟩ := hv
  exact ⟨ao, co, bo, cb, rfl, hv', hcap.le, hb⟩
/-- A packet whose options are some lies below the world's end. -/
theorem ipv_low {w : World} {B : Nat} {p : Pk} {ao bo : Option Addr} {co cb : Nat} (h : IpV w B (.agg (ipB p (.slice ao p.opts.length co) (.slice bo p.body.length cb))) p) : p.opts = [] ∨ ∀ x, ao = some x → x.block < w.heap.size := by
  obtain ⟨ao', co', bo', cb', e, h1, -⟩ := h
  simp only [ipA, Value.agg.injEq, Array.mk.injEq, List.cons.injEq, true_and, and_true, Value.slice.injEq] at e
  obtain ⟨⟨rfl, rfl⟩, rfl, rfl⟩ := e
  rcases h1.cells with e | ⟨b, off, rfl, hc⟩
  · exact Or.inl e
  · by_cases hz : p.opts = []
    · exact Or.inl hz
    · refine Or.inr (fun x hx => ?_)
      cases hx
      exact cell_lt (hc 0 (List.length_pos_iff.mpr hz))
theorem ipv_row {w : World} {B : Nat} {p : Pk} {ao bo : Option Addr} {co cb : Nat} (h : IpV w B (.agg (ipB p (.slice ao p.opts.length co) (.slice bo p.body.length cb))) p) : Row w bo p.body := by
  obtain ⟨ao', co', bo', cb', e, -, h2, -⟩ := h
  simp only [ipA, Value.agg.injEq, Array.mk.injEq, List.cons.injEq, true_and, and_true, Value.slice.injEq] at e
  obtain ⟨⟨rfl, rfl⟩, rfl, rfl⟩ := e
  exact h2
namespace Sm
theorem ipRes_ok {l : List Int} (h : IsBytes l) : (ipRes l).Ok := by
  unfold ipRes
  split
  · unfold ipPk
    have a := w16_range h 6
    exact ⟨h 1, h 8, h 9, w16_range h 4, by simp only; omega, by simp only; omega, w32_range h 12, w32_range h 16, bytes_part h _ _, bytes_part h _ _⟩
  · exact ⟨by decide, by decide, by decide, by decide, by decide, by decide, by decide, by decide, bytes_nil, bytes_nil⟩
end Sm
theorem bdv_iface {w : World} {B : Nat} {v : Value} {p : Pk} (h : BdV w B v p) : ∃ bt bu, v = .iface bt bu := by
  rcases h with ⟨-, u, rfl, -⟩ | ⟨-, u, rfl, -⟩ | ⟨-, u, rfl, -⟩ <;> exact ⟨_, _, rfl⟩
end Go.Proofs.YtjalpbkfpjfigaaGreat

