/-
  What icmp.Parse answers: the document's message with a body of the call's own, or the error.
  What package ip's split answers: a packet's header and body as pieces of its bytes, or a failure.
  What icmp.Echo, icmp.Error answer, and the document's own lychref1.Echo, lychref1.Error.
-/
import Derived.Test.YtjalpbkfpjfigaaM09
import Derived.Test.YtjalpbkfpjfigaaM10
import Derived.Test.YtjalpbkfpjfigaaM03
namespace Go.Proofs.Ytjalpbkfpjfigaa
open Go.RowKit
open Sm
set_option linter.unusedVariables false

set_option maxHeartbeats 400000 in
theorem mparse_short (a : Option Addr) (n cap : Nat) (w : World) (h : n < 8) :
    Calls Try.prog 70 #[.slice a n cap] w fun e w' => e = .returned (.tuple #[.agg mg0, .int .i64 20]) ∧ Below w.heap.size w w' := by
  have h' : (n : Int) < 8 := by omega
  go_enter Try.func70, Try.ntmps70
  go_wp2
  refine bodyPost_ret (v := .tuple #[.agg mg0, .int .i64 20]) (by simp [results, Try.results70, go_sem]) rfl ⟨rfl, ?_⟩
  exact (Below.refl _ _).alloc (Nat.le_refl _) _

/-- A row, and its first two bytes. -/
theorem row_two {w : World} {b off : Nat} {l : List Int} {X0 X1 : Int} (hq : 8 ≤ l.length ∧ l.getD 0 0 = X0 ∧ l.getD 1 0 = X1) (h : Row w (some ⟨b, off, none⟩) l) :
    Row w (some ⟨b, off, none⟩) l ∧ w.cell? ⟨b, off, none⟩ = some (.int .u8 X0) ∧ w.cell? ⟨b, off + 1, none⟩ = some (.int .u8 X1) := by
  obtain ⟨h8, rfl, rfl⟩ := hq
  exact ⟨h, h.cellAt 0 (by omega), h.cellAt 1 (by omega)⟩

set_option maxRecDepth 20000 in
set_option maxHeartbeats 2000000 in
theorem mparse_ok {w : World} {b off n cap : Nat} {l : List Int} (h : Row w (some ⟨b, off, none⟩) l) (hn : l.length = n) (hc : n ≤ cap) (m : Nat) (h8 : n = m + 8) (X0 X1 X2 X4 : Int) (e0 : l.getD 0 0 = X0) (e1 : l.getD 1 0 = X1) (e2 : w16 l 2 = X2) (e4 : w32 l 4 = X4) (body : List Int) (hbd : (l.drop 8).take m = body) :
    Calls Try.prog 70 #[.slice (some ⟨b, off, none⟩) n cap] w fun e w' => ∃ g, e = .returned (.tuple #[.agg (mgA X0 X1 X2 X4 (.slice (some ⟨g, 0, none⟩) m m)), .int .i64 0]) ∧ (Row w' (some ⟨g, 0, none⟩) body ∧ w'.heap[g]? = some (.cells (bs body) 5 (0, 0))) ∧ w.heap.size ≤ g ∧ Below w.heap.size w w' := by
  have h8' : (8 : Int) ≤ n := by omega
  have h0' : (0 : Int) < n := by omega
  have h1' : (1 : Int) < n := by omega
  have g0' : 0 < n := by omega
  have hc4 : (4 : Int) ≤ cap := by omega
  have hc8 : (8 : Int) ≤ cap := by omega
  have hc44 : (4 : Int) ≤ ((cap - 4 : Nat) : Int) := by omega
  have hc2n : ¬ cap = 2 := by omega
  have hc4n : ¬ cap = 4 := by omega
  have hnm : n - 8 = m := by omega
  have hni : (n : Int) - 8 = m := by omega
  have hnl := h.len
  have hnl' : (n : Int) ≤ 140737488351232 := by omega
  have hmw : IntKind.i64.wrap (m : Int) = m := by rw [IntKind.wrap_i64]; omega
  have hbl : body.length = m := by rw [← hbd]; simp; omega
  have hmk := make_bytes m (by omega)
  have HR : Hid (Row w (some ⟨b, off, none⟩) l ∧ 8 ≤ l.length ∧ 8 + m ≤ l.length) := ⟨h, by omega, by omega⟩
  have HE : Hid (w16 l 2 = X2 ∧ w32 l 4 = X4 ∧ (l.drop 8).take m = body ∧ body.length = m ∧ n = m + 8 ∧ n ≤ cap ∧ m ≤ 140737488351232) := ⟨e2, e4, hbd, hbl, h8, hc, by omega⟩
  have HQ : Hid (8 ≤ l.length ∧ l.getD 0 0 = X0 ∧ l.getD 1 0 = X1) := ⟨by omega, e0, e1⟩
  have HM1 : Hid (Mem w (w.alloc (.cells mg0 mgT)) [(w.heap.size, .cells mg0 mgT)]) := (Mem.nil w).push w.heap.size (.cells mg0 mgT) rfl
  clear h hn hc hnl e0 e1 e2 e4 hbd hbl h8
  go_enter Try.func70, Try.ntmps70
  go_upto_region 3 with fail
  refine wp_letter (fun W => Mem w W [(w.heap.size, .cells mg0 mgT)]) HM1.out ?_
  intro w1 hM1
  clear HM1
  have HM1 : Hid _ := hM1
  obtain ⟨hS, c0, c1⟩ := row_two HQ.out (hM1.row HR.out.1)
  clear hM1
  have D1 : ∀ (u : World) (k : Nat) (o : Obj), (u.drewN k).alloc o = (u.alloc o).drewN k := fun _ _ _ => rfl
  have D2 : ∀ (u : World) (k : Nat) (p : Addr) (v : Value), (u.drewN k).setCell p v = (u.setCell p v).drewN k := fun _ _ _ _ => rfl
  have HT : Hid (∀ W, (Row W (some ⟨b, off, none⟩) l ∧ W.cell? ⟨b, off, none⟩ = some (.int .u8 X0) ∧ W.cell? ⟨b, off + 1, none⟩ = some (.int .u8 X1)) → Row W (some ⟨b, off, none⟩) l) := fun _ h => h.1
  go_cut [0, 4] from 5 (fun s0 s4 wx => s0 = .slice (some ⟨b, off, none⟩) n cap ∧ ∃ gm gu, s4 = .pointer (some ⟨gu, 0, none⟩) ∧ Mem w wx [(w.heap.size, .cells mg0 mgT), (gm, .cells (madeCells #[.int .u8 0] m) 5), (gu, .cells (mgA X0 X1 X2 X4 (.slice (some ⟨gm, 0, none⟩) m m)) mgT)])
  case first =>
    go_region_held3 (fun w' => Row w' (some ⟨b, off, none⟩) l ∧ w'.cell? ⟨b, off, none⟩ = some (.int .u8 X0) ∧ w'.cell? ⟨b, off + 1, none⟩ = some (.int .u8 X1))
      (exact row_two HQ.out (by (try first | assumption | exact HT.out _ (by assumption)); repeat (first | assumption | refine row_alloc ?_ | refine row_drewN ?_ | refine row_drew ?_)))
      (first
        | (go_at_call 90; with_reducible refine (mword_at (by first | assumption | exact HT.out _ (by assumption)) 2 (off + 2) rfl (by have := HR.out; omega) X2 HE.out.1 _).mono ?_; rintro e w5 ⟨rfl, q5, rfl⟩)
        | (go_at_call 91; with_reducible refine (mlong_at (by first | assumption | exact HT.out _ (by assumption)) 4 (off + 4) rfl (by have := HR.out; omega) X4 HE.out.2.1 _ hc44).mono ?_; rintro e w5 ⟨rfl, q5, rfl⟩))
    all_goals
      go_wp2_with fail
      go_meet
      case rel => first
        | exact ⟨rfl, w1.heap.size, w1.heap.size + 1, rfl, ((HM1.out.push2 rfl).push3 (by simp)).drewN _⟩
        | exact ⟨rfl, w1.heap.size + 1, w1.heap.size, rfl, (((HM1.out.push2 rfl).push3 (by simp)).perm ((List.Perm.swap _ _ _).cons _)).drewN _⟩
  case rest =>
  clear HM1 hS c0 c1 D1 D2 hni
  obtain ⟨rfl, gm, gu, rfl, hM2⟩ := hcut
  have HM2 : Hid _ := hM2
  have k4 : wc.cell? ⟨gu, 4, none⟩ = some (.slice (some ⟨gm, 0, none⟩) m m) := hM2.cell 2 rfl 4
  clear hM2
  go_upto_region 4 with fail
  go_cut [0] from 5 (fun s0 wx => Mem w wx [(w.heap.size, .cells mg0 mgT), (gm, .cells (bs body) 5), (gu, .cells (mgA X0 X1 X2 X4 (.slice (some ⟨gm, 0, none⟩) m m)) mgT)])
  case first =>
    have HF : Hid (0 + body.length ≤ (madeCells #[Value.int .u8 0] m).size) := by
      show _ ≤ _
      rw [HE.out.2.2.2.1, size_madeCells]; omega
    by_cases hm0 : cap = 8
    · have hmz : m = 0 := by have := HE.out; omega
      have hbn : body = [] := List.eq_nil_of_length_eq_zero (by rw [HE.out.2.2.2.1]; exact hmz)
      go_region_law (refine step_copy_bytes rfl (.tmp 27) (.tmp 29) 22 22 rfl Try.underlying22 (some ⟨gm, 0, none⟩) (some ⟨b, off, none⟩) 0 0 0 0 (by simp [Act.eval]) (by simp [Act.eval]) gm 0 _ (bs body) 5 (HM2.out.drew.get 1 rfl) body (by rw [hbn]; rfl) (fun hp => by rw [hbn] at hp; simp at hp) HF.out (made_new m body HE.out.2.2.2.1) ?_; intro w5 hw5)
      all_goals
        go_wp2_with fail
        go_meet
        case rel => exact HM2.out.drew.wrote 1 rfl hw5
    · have hn0 : (8 : Int) < cap := by omega
      have HP : Hid (0 < body.length → some (⟨gm, 0, none⟩ : Addr) = some ⟨gm, 0, none⟩ ∧ ∃ ad, some (⟨b, off + 8, none⟩ : Addr) = some ad ∧ ∀ j v, (body.map (Value.int .u8))[j]? = some v → wc.drew.cell? (ad.add j) = some v) := by
        intro hp
        refine ⟨rfl, _, rfl, ?_⟩
        have hr := HM2.out.drew.row (HR.out.1.part 8 m (by have := HR.out; omega))
        rw [HE.out.2.2.1] at hr
        exact hr.news
      go_region_law (refine step_copy_bytes rfl (.tmp 27) (.tmp 29) 22 22 rfl Try.underlying22 (some ⟨gm, 0, none⟩) (some ⟨b, off + 8, none⟩) m m m (cap - 8) (by simp [Act.eval]) (by simp [Act.eval]) gm 0 _ (bs body) 5 (HM2.out.drew.get 1 rfl) body (by rw [HE.out.2.2.2.1]; exact (Nat.min_self m).symm) HP.out HF.out (made_new m body HE.out.2.2.2.1) ?_; intro w5 hw5)
      all_goals
        go_wp2_with fail
        go_meet
        case rel => exact HM2.out.drew.wrote 1 rfl hw5
  case rest =>
  have HM5 : Hid _ := hcut
  have kc : ∀ i, wc.cell? ⟨gu, i, none⟩ = (mgA X0 X1 X2 X4 (.slice (some ⟨gm, 0, none⟩) m m))[i]? := hcut.cell 2 rfl
  have kr : ∀ i, wc.cell? ⟨w.heap.size, i, none⟩ = mg0[i]? := hcut.cell 0 rfl
  have kf : ∀ i, wc.frozen? ⟨w.heap.size, i, none⟩ = false := hcut.free 0 rfl
  clear hcut HM2 k4
  go_wp2_with fail
  refine bodyPost_ret (v := .tuple #[.agg (mgA X0 X1 X2 X4 (.slice (some ⟨gm, 0, none⟩) m m)), .int .i64 0]) (by simp [results, Try.results70, go_sem, kr]) rfl ⟨gm, rfl, ?_, HM5.out.ge 1 rfl, ?_⟩
  · have hne := HM5.out.ne 0 1 rfl rfl (by decide)
    have hb' : IsBytes body := by rw [← HE.out.2.2.1]; exact bytes_part HR.out.1.bytes _ _
    refine ⟨?_, ?_⟩
    · repeat (refine Row.setCell ?_ hne _)
      exact HM5.out.own 1 rfl hb' (by rw [HE.out.2.2.2.1]; exact HE.out.2.2.2.2.2.2)
    · iterate 5 (rw [Below.heap_setCell _ _ _ _ (fun e => hne e.symm)])
      exact HM5.out.get 1 rfl
  · iterate 5 (refine below_set ?_ (Nat.le_refl _))
    exact HM5.out.below

theorem mg_e20 {l : List Int} (h : l.length < 8) : mgErr l = 20 ∧ mgRes l = Mg.zero := by
  have e : mgErr l = 20 := by unfold mgErr; rw [if_pos h]
  exact ⟨e, if_neg (by rw [e]; decide)⟩
theorem mg_e0 {l : List Int} (h : ¬ l.length < 8) : mgErr l = 0 ∧ mgRes l = mgMg l := by
  have e : mgErr l = 0 := by unfold mgErr; rw [if_neg h]
  exact ⟨e, if_pos e⟩

/-- A value that is the message q, its body of the call's own. -/
def MgO (w : World) (B : Nat) (v : Value) (q : Mg) : Prop :=
  ∃ bo cb, v = .agg (mgA q.typ q.code q.sum q.rest (.slice bo q.body.length cb)) ∧ w.ownsRow B 5 1 (.slice bo q.body.length cb) q.body.length (q.body.map (Value.int .u8)) ∧ IsBytes q.body ∧ q.body.length ≤ 140737488351232
theorem own_nil {w : World} {B : Nat} {a : Option Addr} {n c : Nat} {xs : List Value} (h : w.ownsRow B 5 1 (.slice a n c) n xs) : (a = none → c = 0) ∧ (∀ x, a = some x → B ≤ x.block) ∧ n ≤ c := by
  obtain ⟨h1, h2⟩ := h
  rcases h2 with ⟨e, h3⟩ | ⟨g, cap, cur, e, hg, r⟩
  · cases e; exact ⟨fun _ => rfl, fun x hx => (by cases hx), by omega⟩
  · cases e; exact ⟨fun h => (by cases h), fun x hx => (by cases hx; exact hg), r.2.1⟩
/-- A store below what it owns. -/
theorem own_far {w : World} {B n : Nat} {v : Value} {xs : List Value} (h : w.ownsRow B 5 1 v n xs) {g j : Nat} (hg : g < B) {x : Value} : (w.setCell ⟨g, j, none⟩ x).ownsRow B 5 1 v n xs := by
  obtain ⟨h1, h2⟩ := h
  rcases h2 with h2 | ⟨k, cap, cur, e, hk, hh, r⟩
  · exact ⟨h1, Or.inl h2⟩
  · exact ⟨h1, Or.inr ⟨k, cap, cur, e, hk, by rw [Below.heap_setCell _ _ _ _ (by simp only; omega)]; exact hh, r⟩⟩
theorem MgO.v {w : World} {B : Nat} {v : Value} {q : Mg} (h : MgO w B v q) : MgV w B v q := by
  obtain ⟨bo, cb, e, ho, hb, hl⟩ := h
  obtain ⟨n1, n2, -⟩ := own_nil ho
  obtain ⟨ao, cap, e2, hr⟩ := own_row rfl ho hb hl
  cases e2
  exact ⟨bo, cb, e, hr, n1, n2⟩
theorem MgO.below {w w' : World} {C : Nat} {v : Value} {q : Mg} (h : MgO w C v q) {B : Nat} (hb : Below B w w') (hB : w.heap.size ≤ B) : MgO w' C v q := by
  obtain ⟨bo, cb, e, ho, h2⟩ := h
  exact ⟨bo, cb, e, own_after ho hb hB, h2⟩
theorem MgO.mono {w : World} {C D : Nat} {v : Value} {q : Mg} (h : MgO w C v q) (hD : D ≤ C) : MgO w D v q := by
  obtain ⟨bo, cb, e, ho, h2⟩ := h
  exact ⟨bo, cb, e, own_base ho hD, h2⟩
theorem mgo_zero (w : World) (B : Nat) : MgO w B (.agg mg0) Mg.zero := ⟨none, 0, rfl, World.ownsRow_nil _ _ _ _, bytes_nil, by decide⟩

/-- What icmp.Parse answers, whatever it is handed: its body of its own. -/
theorem mparse_own {w : World} {a : Option Addr} {n c : Nat} {l : List Int} (hr : Row w a l) (hn : l.length = n) (hc : n ≤ c) :
    Calls Try.prog 70 #[.slice a n c] w fun r w' => ∃ v, r = .returned (.tuple #[v, .int .i64 (mgErr l)]) ∧ MgO w' w.heap.size v (mgRes l) ∧ Below w.heap.size w w' := by
  subst hn
  by_cases h1 : l.length < 8
  · rw [(mg_e20 h1).1, (mg_e20 h1).2]
    refine (mparse_short a _ c w h1).mono ?_
    rintro r w' ⟨rfl, hb⟩
    exact ⟨_, rfl, mgo_zero _ _, hb⟩
  rcases hr.cells with e0 | ⟨b, off, rfl, -⟩
  · rw [e0] at h1; simp at h1
  rw [(mg_e0 h1).1, (mg_e0 h1).2]
  have hl : ((l.drop 8).take (l.length - 8)).length = l.length - 8 := by simp
  have hlen := hr.len
  have hby := bytes_part hr.bytes 8 (l.length - 8)
  refine (mparse_ok hr rfl hc (l.length - 8) (by omega) _ _ _ _ rfl rfl rfl rfl _ rfl).mono ?_
  rintro r w' ⟨g, rfl, ⟨hrow, hheap⟩, hg, hb⟩
  refine ⟨_, rfl, ⟨some ⟨g, 0, none⟩, l.length - 8, by simp only [mgMg]; rw [hl], ?_, hby, by simp only [mgMg]; omega⟩, hb⟩
  simp only [mgMg]
  rw [hl]
  refine ⟨by simp, Or.inr ⟨g, l.length - 8, bs ((l.drop 8).take (l.length - 8)), rfl, hg, hheap, Nat.le_refl _, by unfold maxLen; omega, ?_, ?_⟩⟩
  · rw [bs_size, hl]; omega
  · exact List.take_of_length_le (by simp)
/-- What icmp.Parse answers, whatever it is handed. -/
theorem mparse_any {w : World} {a : Option Addr} {n c : Nat} {l : List Int} (hr : Row w a l) (hn : l.length = n) (hc : n ≤ c) :
    Calls Try.prog 70 #[.slice a n c] w fun r w' => ∃ v, r = .returned (.tuple #[v, .int .i64 (mgErr l)]) ∧ MgV w' w.heap.size v (mgRes l) ∧ Below w.heap.size w w' := by
  refine (mparse_own hr hn hc).mono ?_
  rintro r w' ⟨v, rfl, hv, hb⟩
  exact ⟨v, rfl, hv.v, hb⟩
end Go.Proofs.Ytjalpbkfpjfigaa

namespace Go.Proofs.Ytjalpbkfpjfigaa
open Go.RowKit
open Sm
set_option linter.unusedVariables false
set_option maxRecDepth 20000

theorem wraps_i64 (n : Int) (h0 : 0 ≤ n) (h1 : n < 2 ^ 63) : IntKind.i64.wrap n = n := by rw [IntKind.wrap_i64]; omega
theorem sm_low4 (x : Int) (h0 : 0 ≤ x) (h1 : x ≤ 255) : bits .and .u8 x 15 = x % 16 := bits_mask .u8 8 (by decide) wraps_u8 4 (by decide) x h0 (by omega)
theorem sm_word64 (x y : Int) (h0 : 0 ≤ x) (h1 : x ≤ 255) (h2 : 0 ≤ y) (h3 : y ≤ 255) : bits .or .i64 (x * 256) y = x * 256 + y :=
  bits_join .i64 63 (by decide) wraps_i64 8 (x * 256) y (by omega) (by omega) (by omega) h2 (by omega) (by omega)
theorem rd_mem (w : World) (v : Value) : Mem w (w.alloc (.cells #[v] rdT)) [(w.heap.size, .cells #[v] rdT (0, 0))] := (Mem.nil w).push w.heap.size (.cells #[v] rdT) rfl

set_option maxHeartbeats 1000000 in
theorem split_few {w : World} (a : Option Addr) (n c : Nat) (h : n < 20) :
    Calls Try.prog 59 #[.slice a n c] w fun r w' => r = .panicked (failing 20) ∧ Below w.heap.size w w' := by
  go_enter Try.func59, Try.ntmps59
  go_upto_region 2 with fail
  refine wp_letter (fun W => Mem w W [(w.heap.size, .cells #[.slice a n c] rdT (0, 0))]) (rd_mem ..) ?_
  intro w1 hM1
  have hn := need_no (hM1.cell 0 rfl 0) 20 h
  have HM1 : Hid _ := hM1
  clear hM1
  go_wp2_with fail
  refine hn.mono ?_
  rintro e w' ⟨rfl, rfl⟩
  exact ⟨rfl, rfl, HM1.out.below⟩

/-- What the walks of split know of the first bytes. -/
structure Front (w : World) (b off n : Nat) (x0 x2 x3 : Int) (k wl : Nat) : Prop where
  c0 : w.cell? ⟨b, off, none⟩ = some (.int .u8 x0)
  c2 : w.cell? ⟨b, off + 2, none⟩ = some (.int .u8 x2)
  c3 : w.cell? ⟨b, off + 3, none⟩ = some (.int .u8 x3)
  r0 : 0 ≤ x0 ∧ x0 ≤ 255
  r2 : 0 ≤ x2 ∧ x2 ≤ 255
  r3 : 0 ≤ x3 ∧ x3 ≤ 255
  hk : x0 % 16 = k
  hw : x2 * 256 + x3 = wl
  n0 : 20 ≤ n
  n1 : n ≤ 140737488351232

set_option maxHeartbeats 2000000 in
theorem split_form {w : World} {b off n : Nat} {x0 x2 x3 : Int} {k wl : Nat} (F : Front w b off n x0 x2 x3 k wl) (c : Nat) (h : ¬ (x0 / 16 = 4 ∧ 20 ≤ 4 * k ∧ 4 * k ≤ wl)) :
    Calls Try.prog 59 #[.slice (some ⟨b, off, none⟩) n c] w fun r w' => r = .panicked (failing 21) ∧ Below w.heap.size w w' := by
  obtain ⟨c0, c2, c3, ⟨r00, r01⟩, ⟨r20, r21⟩, ⟨r30, r31⟩, hk, hw, n0, n1⟩ := F
  have hand := sm_low4 x0 r00 r01
  rw [hk] at hand
  have hor := sm_word64 x2 x3 r20 r21 r30 r31
  rw [hw] at hor
  have k1 : (k : Int) ≤ 15 := by omega
  have wl1 : (wl : Int) ≤ 65535 := by omega
  have hb := cell_lt c0
  simp only at hb
  have v0 := wrap64_small x2 r20 (by omega)
  have v1 := wrap64_small x3 r30 (by omega)
  have v2 := wrap64_small (x2 * 256) (by omega) (by omega)
  have v3 := wrap64_small (k : Int) (by omega) (by omega)
  have v4 := wrap64_small (4 * (k : Int)) (by omega) (by omega)
  have i0 : (0 : Int) < n := by omega
  have i2 : (2 : Int) < n := by omega
  have i3 : (3 : Int) < n := by omega
  have HN0 : Hid (20 ≤ n) := n0
  have cases3 : x0 / 16 ≠ 4 ∨ (x0 / 16 = 4 ∧ ¬ (20 : Int) ≤ 4 * (k : Int)) ∨ (x0 / 16 = 4 ∧ (20 : Int) ≤ 4 * (k : Int) ∧ ¬ 4 * (k : Int) ≤ wl) := by omega
  clear hk hw h n0 n1
  rcases cases3 with hv | ⟨hv, h20⟩ | ⟨hv, h20, hle⟩
  all_goals
    go_enter Try.func59, Try.ntmps59
    go_upto_region 2 with fail
    refine wp_letter (fun W => Mem w W [(w.heap.size, .cells (rdr b off n c) rdT (0, 0))]) (rd_mem ..) ?_
    intro w1 hM1
    have hn := need_yes (hM1.cell 0 rfl 0) 20 HN0.out
    have d0 := (hM1.old (i := off) hb).trans c0
    have d2 := (hM1.old (i := off + 2) hb).trans c2
    have d3 := (hM1.old (i := off + 3) hb).trans c3
    have HM1 : Hid _ := hM1
    clear hM1
    go_wp2_with fail
    refine hn.mono ?_
    rintro e w' ⟨rfl, rfl⟩
    go_wp2_with fail
    go_quiet (fail)
    go_wp2_with fail
    first
      | refine (must_no 21 _).mono ?_
      | (rw [decide_eq_false (Int.not_le.mpr hle)]; refine (must_no 21 _).mono ?_)
    rintro e w' ⟨rfl, rfl⟩
    exact ⟨rfl, rfl, (HM1.out.drewN _).below⟩

set_option maxHeartbeats 2000000 in
theorem split_rest {w : World} {b off n : Nat} {x0 x2 x3 : Int} {k wl : Nat} (F : Front w b off n x0 x2 x3 k wl) (c : Nat) (hc : n ≤ c) (hv : x0 / 16 = 4) (h20 : 20 ≤ 4 * k) (hle : 4 * k ≤ wl) :
    Calls Try.prog 59 #[.slice (some ⟨b, off, none⟩) n c] w fun r w' => Below w.heap.size w w' ∧
      ((r = .panicked (failing 20) ∧ (n < 4 * k ∨ n < wl)) ∨
       (∃ o2, r = .returned (.tuple #[.slice (some ⟨b, off, none⟩) (4 * k) c, .slice (some ⟨b, o2, none⟩) (wl - 4 * k) (c - 4 * k)]) ∧ 4 * k ≤ n ∧ wl ≤ n ∧ (4 * k < n → o2 = off + 4 * k))) := by
  obtain ⟨c0, c2, c3, ⟨r00, r01⟩, ⟨r20, r21⟩, ⟨r30, r31⟩, hk, hw, n0, n1⟩ := F
  have hand := sm_low4 x0 r00 r01
  rw [hk] at hand
  have hor := sm_word64 x2 x3 r20 r21 r30 r31
  rw [hw] at hor
  have k1 : (k : Int) ≤ 15 := by omega
  have wl1 : (wl : Int) ≤ 65535 := by omega
  have hb := cell_lt c0
  simp only at hb
  have v0 := wrap64_small x2 r20 (by omega)
  have v1 := wrap64_small x3 r30 (by omega)
  have v2 := wrap64_small (x2 * 256) (by omega) (by omega)
  have v3 := wrap64_small (k : Int) (by omega) (by omega)
  have v4 := wrap64_small (4 * (k : Int)) (by omega) (by omega)
  have v5 := wrap64_small ((wl : Int) - 4 * (k : Int)) (by omega) (by omega)
  have i0 : (0 : Int) < n := by omega
  have i2 : (2 : Int) < n := by omega
  have i3 : (3 : Int) < n := by omega
  have HN0 : Hid (20 ≤ n ∧ n ≤ 140737488351232 ∧ n ≤ c ∧ 4 * k ≤ wl) := ⟨n0, n1, hc, hle⟩
  have h20' : (20 : Int) ≤ 4 * (k : Int) := by omega
  have hle' : 4 * (k : Int) ≤ wl := by omega
  have e1 : 4 * (k : Int) = ((4 * k : Nat) : Int) := by omega
  have e2 : (wl : Int) - 4 * (k : Int) = ((wl - 4 * k : Nat) : Int) := by omega
  have HE1 : Hid (4 * (k : Int) = ((4 * k : Nat) : Int)) := e1
  have HE2 : Hid ((wl : Int) - 4 * (k : Int) = ((wl - 4 * k : Nat) : Int)) := e2
  clear hk hw n0 n1 hc h20 hle e1 e2
  go_enter Try.func59, Try.ntmps59
  go_upto_region 2 with fail
  refine wp_letter (fun W => Mem w W [(w.heap.size, .cells (rdr b off n c) rdT (0, 0))]) (rd_mem ..) ?_
  intro w1 hM1
  have hn := need_yes (hM1.cell 0 rfl 0) 20 HN0.out.1
  have d0 := (hM1.old (i := off) hb).trans c0
  have d2 := (hM1.old (i := off + 2) hb).trans c2
  have d3 := (hM1.old (i := off + 3) hb).trans c3
  have HM1 : Hid _ := hM1
  clear hM1
  go_wp2_with fail
  refine hn.mono ?_
  rintro e w' ⟨rfl, rfl⟩
  go_wp2_with fail
  go_quiet (fail)
  go_wp2_with fail
  refine (must_yes 21 _).mono ?_
  rintro e w' ⟨rfl, rfl⟩
  have HM2 : Hid _ := HM1.out.drewN nq
  generalize w1.drewN nq = w2 at HM2 ⊢
  clear HM1 hn d0 d2 d3
  go_wp2_with fail
  rw [HE1.out]
  by_cases h1 : 4 * k ≤ n
  · refine (take_wrote (HM2.out.get 0 rfl) (4 * k) h1 HN0.out.2.2.1 HN0.out.2.1).mono ?_
    rintro e w3 ⟨rfl, o2, ho2, hw3⟩
    have HM3 : Hid _ := HM2.out.wrote 0 rfl hw3
    have HO2 : Hid _ := ho2
    clear HM2 hw3 ho2
    go_wp2_with fail
    rw [HE2.out]
    by_cases h2 : wl ≤ n
    · refine (take_wrote (HM3.out.get 0 rfl) (wl - 4 * k) (by omega) (by have := HN0.out; omega) (by have := HN0.out; omega)).mono ?_
      rintro e w4 ⟨rfl, o3, ho3, hw4⟩
      have HM4 : Hid _ := HM3.out.wrote 0 rfl hw4
      clear HM3 hw4 ho3
      go_wp2_with fail
      go_ret2
      exact ⟨HM4.out.below, Or.inr ⟨o2, rfl, h1, h2, HO2.out⟩⟩
    · refine (take_no (HM3.out.cell 0 rfl 0) (wl - 4 * k) (by have := HN0.out; omega)).mono ?_
      rintro e w4 ⟨rfl, rfl⟩
      exact ⟨rfl, HM3.out.below, Or.inl ⟨rfl, Or.inr (by omega)⟩⟩
  · refine (take_no (HM2.out.cell 0 rfl 0) (4 * k) (by omega)).mono ?_
    rintro e w4 ⟨rfl, rfl⟩
    exact ⟨rfl, HM2.out.below, Or.inl ⟨rfl, Or.inl (by omega)⟩⟩
end Go.Proofs.Ytjalpbkfpjfigaa

namespace Go.Proofs.Ytjalpbkfpjfigaa
open Go.RowKit
open Sm
set_option linter.unusedVariables false

set_option maxHeartbeats 1000000 in
/-- What icmp.Echo answers, whatever it is handed. -/
theorem mecho_any {w : World} {B : Nat} {v : Value} {q : Mg} (hv : MgV w B v q) :
    Calls Try.prog 92 #[v] w fun e w' => e = .returned (.bool (mecho q)) ∧ Below w.heap.size w w' := by
  obtain ⟨bo, cb, rfl, -⟩ := hv
  obtain ⟨t, k, c, r, body⟩ := q
  have HB : Hid (∀ o, Below w.heap.size w (w.alloc o)) := fun o => (Below.refl _ _).alloc (Nat.le_refl _) _
  simp only [mecho]
  generalize body.length = nb
  by_cases h0 : t = 0
  · subst h0
    go_enter Try.func92, Try.ntmps92
    go_wp2
    go_ret
    exact ⟨by simp <;> rfl, HB.out _⟩
  have n0 : (t == 0) = false := by simp [h0]
  by_cases h8 : t = 8
  · subst h8
    go_enter Try.func92, Try.ntmps92
    go_wp2
    go_ret
    exact ⟨by simp <;> rfl, HB.out _⟩
  have n8 : (t == 8) = false := by simp [h8]
  go_enter Try.func92, Try.ntmps92
  go_wp2
  go_ret
  exact ⟨by simp [h0, h8], HB.out _⟩

set_option maxHeartbeats 1000000 in
/-- What icmp.Error answers, whatever it is handed. -/
theorem merror_any {w : World} {B : Nat} {v : Value} {q : Mg} (hv : MgV w B v q) :
    Calls Try.prog 93 #[v] w fun e w' => e = .returned (.bool (merror q)) ∧ Below w.heap.size w w' := by
  obtain ⟨bo, cb, rfl, -⟩ := hv
  obtain ⟨t, k, c, r, body⟩ := q
  have HB : Hid (∀ o, Below w.heap.size w (w.alloc o)) := fun o => (Below.refl _ _).alloc (Nat.le_refl _) _
  simp only [merror]
  generalize body.length = nb
  by_cases h3 : t = 3
  · subst h3
    go_enter Try.func93, Try.ntmps93
    go_wp2
    go_ret
    exact ⟨rfl, HB.out _⟩
  have n3 : (t == 3) = false := by simp [h3]
  by_cases h11 : t = 11
  · subst h11
    go_enter Try.func93, Try.ntmps93
    go_wp2
    go_ret
    exact ⟨rfl, HB.out _⟩
  have n11 : (t == 11) = false := by simp [h11]
  by_cases h12 : t = 12
  · subst h12
    go_enter Try.func93, Try.ntmps93
    go_wp2
    go_ret
    exact ⟨rfl, HB.out _⟩
  have n12 : (t == 12) = false := by simp [h12]
  go_enter Try.func93, Try.ntmps93
  go_wp2
  go_ret
  exact ⟨by simp [h3, h11, h12], HB.out _⟩

end Go.Proofs.Ytjalpbkfpjfigaa

