/-
  What the document's own lychref8.Look answers, whatever bytes it is handed.
-/
import Derived.Test.YtjalpbkfpjfigaaGreatRwRefInner
import Derived.Test.YtjalpbkfpjfigaaGreatRwRefHop
import Derived.Test.YtjalpbkfpjfigaaGreatRwLookOut
import Derived.Test.YtjalpbkfpjfigaaGreatTcpKnown
import Derived.Deep.CutBlock
namespace Go.Proofs.YtjalpbkfpjfigaaGreat
open Go.RowKit
open Sm
set_option linter.unusedVariables false
set_option maxRecDepth 20000

abbrev rfT : TypeId := 49
theorem wrote_flT (t : TypeId) (g : Nat) (f : Fl) (iv : Value) (w : World) (h : w.heap[g]? = some (.cells flZ t (0, 0))) : Wrote w (((((((w.setCell ⟨g, 0, none⟩ (.int .u8 f.proto)).setCell ⟨g, 1, none⟩ (.int .u32 f.src.ip)).setCell ⟨g, 2, none⟩ (.int .u16 f.src.port)).setCell ⟨g, 3, none⟩ (.int .u32 f.dst.ip)).setCell ⟨g, 4, none⟩ (.int .u16 f.dst.port)).setCell ⟨g, 5, none⟩ (.int .u8 f.flags)).setCell ⟨g, 6, none⟩ (iv)) g (flB f iv) t := by
  have h1 := wrote_all g t [.int .u8 f.proto, .int .u32 f.src.ip, .int .u16 f.src.port, .int .u32 f.dst.ip, .int .u16 f.dst.port, .int .u8 f.flags, iv] 0 flZ w h
  have e : setAll [.int .u8 f.proto, .int .u32 f.src.ip, .int .u16 f.src.port, .int .u32 f.dst.ip, .int .u16 f.dst.port, .int .u8 f.flags, iv] 0 flZ = flB f iv := by kernel_rfl
  rw [e] at h1
  simp only [putAll] at h1
  exact h1
theorem post_fillT {P : Program} {fn : Func} {R : Ending → World → Prop} {e : Exit} {a : Act} {w : World} {g k : Nat} {p : Pk} {o b : Value} {f : Fl} {iv : Value} {t : TypeId} (hg : w.heap[g]? = some (.cells ip0 ipT (0, 0))) (hk : w.heap[k]? = some (.cells flZ t (0, 0))) (hne : k ≠ g)
    (K : ∀ W1 W2, Wrote w W1 g (ipB p o b) ipT → Wrote W1 W2 k (flB f iv) t → bodyPost P fn R e a W2) :
    bodyPost P fn R e a ((((((((((((((((((w.setCell ⟨g, 0, none⟩ (.int .u8 p.tos)).setCell ⟨g, 1, none⟩ (.int .u8 p.ttl)).setCell ⟨g, 2, none⟩ (.int .u8 p.proto)).setCell ⟨g, 3, none⟩ (.int .u16 p.id)).setCell ⟨g, 4, none⟩ (.int .u8 p.flags)).setCell ⟨g, 5, none⟩ (.int .u16 p.off)).setCell ⟨g, 6, none⟩ (.int .u32 p.src)).setCell ⟨g, 7, none⟩ (.int .u32 p.dst)).setCell ⟨g, 8, none⟩ (o)).setCell ⟨g, 9, none⟩ (b)).setCell ⟨k, 0, none⟩ (.int .u8 f.proto)).setCell ⟨k, 1, none⟩ (.int .u32 f.src.ip)).setCell ⟨k, 2, none⟩ (.int .u16 f.src.port)).setCell ⟨k, 3, none⟩ (.int .u32 f.dst.ip)).setCell ⟨k, 4, none⟩ (.int .u16 f.dst.port)).setCell ⟨k, 5, none⟩ (.int .u8 f.flags)).setCell ⟨k, 6, none⟩ (iv))) := by
  have h1 := wrote_ip g p o b w hg
  have h2 := wrote_flT t k f iv _ ((h1.there k hne).trans hk)
  exact K _ _ h1 h2
/-- Look's answers. -/
def RlV (w w' : World) (l : List Int) (e : Ending) : Prop :=
  (lkErr l ≠ 0 ∧ e = .returned (.tuple #[.agg ip0, .agg flZ, .int .i64 (lkErr l)]) ∧ Below w.heap.size w w') ∨
  (lkErr l = 0 ∧ ∃ ao bo ia co cb ic, e = .returned (.tuple #[.agg (ipB (ipPk l) (.slice ao (ipPk l).opts.length co) (.slice bo (ipPk l).body.length cb)), .agg (flB (flFl (ipPk l)) (.slice ia (flFl (ipPk l)).inner.length ic)), .int .i64 0]) ∧
    IpV w' w.heap.size (.agg (ipB (ipPk l) (.slice ao (ipPk l).opts.length co) (.slice bo (ipPk l).body.length cb))) (ipPk l) ∧ (ipPk l).body.length ≤ cb ∧ PtsV w' w.heap.size (.slice ia (flFl (ipPk l)).inner.length ic) (flFl (ipPk l)).inner ∧ Below w.heap.size w w')
/-- A refusal's end. -/
theorem noughts_end {w W : World} {L : List (Nat × Obj)} {R : Ending → World → Prop} {tmps : Array Value} {df : List _} {E : Int} (hM : Mem w W ((w.heap.size, .cells ip0 ipT (0, 0)) :: (w.heap.size + 1, .cells flZ rfT (0, 0)) :: L))
    (h2 : tmps.getD 2 undef = .pointer (some ⟨w.heap.size, 0, none⟩)) (h3 : tmps.getD 3 undef = .pointer (some ⟨w.heap.size + 1, 0, none⟩)) (h4 : tmps.getD 4 undef = .int .i64 E) (hd : df = [])
    (hR : ∀ W', Below w.heap.size w W' → R (.returned (.tuple #[.agg ip0, .agg flZ, .int .i64 E])) W') :
    bodyPost Tryz.prog Tryz.f16 R .ret ⟨tmps, df⟩ ((((((((((((((((((W.setCell ⟨w.heap.size, 0, none⟩ (.int .u8 0)).setCell ⟨w.heap.size, 1, none⟩ (.int .u8 0)).setCell ⟨w.heap.size, 2, none⟩ (.int .u8 0)).setCell ⟨w.heap.size, 3, none⟩ (.int .u16 0)).setCell ⟨w.heap.size, 4, none⟩ (.int .u8 0)).setCell ⟨w.heap.size, 5, none⟩ (.int .u16 0)).setCell ⟨w.heap.size, 6, none⟩ (.int .u32 0)).setCell ⟨w.heap.size, 7, none⟩ (.int .u32 0)).setCell ⟨w.heap.size, 8, none⟩ (.slice none 0 0)).setCell ⟨w.heap.size, 9, none⟩ (.slice none 0 0)).setCell ⟨w.heap.size + 1, 0, none⟩ (.int .u8 0)).setCell ⟨w.heap.size + 1, 1, none⟩ (.int .u32 0)).setCell ⟨w.heap.size + 1, 2, none⟩ (.int .u16 0)).setCell ⟨w.heap.size + 1, 3, none⟩ (.int .u32 0)).setCell ⟨w.heap.size + 1, 4, none⟩ (.int .u16 0)).setCell ⟨w.heap.size + 1, 5, none⟩ (.int .u8 0)).setCell ⟨w.heap.size + 1, 6, none⟩ (.slice none 0 0))) := by
  refine post_fillT (p := ⟨0, 0, 0, 0, 0, 0, 0, 0, [], []⟩) (f := ⟨0, ⟨0, 0⟩, ⟨0, 0⟩, 0, []⟩) (o := .slice none 0 0) (b := .slice none 0 0) (iv := .slice none 0 0) (hM.get 0 rfl) (hM.get 1 rfl) (by omega) ?_
  intro W1 W2 k1 k2
  have hz := (hM.wrote 0 rfl k1).wrote 1 rfl k2
  refine bodyPost_ret (v := .tuple #[.agg ip0, .agg flZ, .int .i64 E]) ?hres hd ?hpost
  case hres =>
    have := results_cell2_tmp (fn := Tryz.f16) (p := 2) (q := 3) (r := 4) (ty := ipT) (tz := rfT) rfl tmps W2 w.heap.size (w.heap.size + 1) ip0 flZ h2 h3 (run_loadVar_row _ _ ipT ipT _ (0, 0) _ (hz.get 0 rfl) Tryz.underlying42 rfl (by kernel_rfl)) (run_loadVar_row _ _ rfT rfT _ (0, 0) _ (hz.get 1 rfl) Tryz.underlying49 rfl (by kernel_rfl))
    rw [h4] at this
    exact this
  case hpost => exact hR W2 hz.below

set_option maxHeartbeats 4000000 in
theorem rlook_no {w : World} {a : Option Addr} {n c : Nat} {l : List Int} (hr : Row w a l) (hn : l.length = n) (hc : n ≤ c) (h0 : ipErr l ≠ 0) :
    Calls Tryz.prog 16 #[.slice a n c] w fun e w' => RlV w w' l e := by
  have hM : Mem w ((w.alloc (.cells ip0 ipT)).alloc (.cells flZ rfT)) [(w.heap.size, .cells ip0 ipT), (w.heap.size + 1, .cells flZ rfT)] := ((Mem.nil w).push1 rfl).push2 (by simp)
  have hP := rip_seen (hM.row hr) hn hc
  have HE : Hid (lkErr l = ipErr l ∧ ipErr l ≠ 0) := ⟨by unfold lkErr; rw [if_pos h0], h0⟩
  have HF : Hid (∀ W' E, E = ipErr l → Below w.heap.size w W' → RlV w W' l (.returned (.tuple #[.agg ip0, .agg flZ, .int .i64 E]))) := fun W' E hE hb => Or.inl ⟨by rw [HE.out.1]; exact HE.out.2, by rw [hE, HE.out.1], hb⟩
  have HM : Hid _ := hM
  clear hM hr hn hc
  generalize ipRes l = p at *
  generalize hE : ipErr l = E at *
  have h0' : (E == 0) = false := by simp [h0]
  have h0'' : (E != 0) = true := bne_iff_ne.mpr h0
  clear HE hE
  go_enter Tryz.func16, Tryz.ntmps16
  go_wp2_with fail
  refine hP.mono ?_
  rintro e w1 ⟨ao, co, bo, cb, rfl, -, -, hb1⟩
  have hM1 := HM.out.after hb1
  clear hP hb1
  go_upto_region 3 with fail
  refine wp_letter (fun W => Mem w W [(w.heap.size, .cells ip0 ipT), (w.heap.size + 1, .cells flZ rfT)]) (hM1.after ((Below.refl _ _).alloc (Nat.le_refl _) _)) ?_
  intro w2 hM2
  have HM2 : Hid (Mem w w2 [(w.heap.size, .cells ip0 ipT), (w.heap.size + 1, .cells flZ rfT)]) := hM2
  have ka : ∀ i, w2.cell? ⟨w.heap.size, i, none⟩ = ip0[i]? := hM2.cell 0 rfl
  have kaf : ∀ i, w2.frozen? ⟨w.heap.size, i, none⟩ = false := hM2.free 0 rfl
  have kb : ∀ i, w2.cell? ⟨w.heap.size + 1, i, none⟩ = flZ[i]? := hM2.cell 1 rfl
  have kbf : ∀ i, w2.frozen? ⟨w.heap.size + 1, i, none⟩ = false := hM2.free 1 rfl
  clear hM1 hM2
  go_wp2_with fail
  (try simp only [Exit.inBlock, Exit.then])
  exact noughts_end HM2.out rfl rfl rfl rfl (fun W' hb => HF.out W' _ rfl hb)
end Go.Proofs.YtjalpbkfpjfigaaGreat
