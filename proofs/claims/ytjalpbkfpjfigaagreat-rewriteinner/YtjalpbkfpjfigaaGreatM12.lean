/-
  What icmp.Parse answers: the document's message with a body of the call's own, or the error.
  The statements' seat: what lychseat.Addr, inside, outside, proto and port answer.
  What icmp.Echo, icmp.Error answer, and the document's own lychref1.Echo, lychref1.Error.
-/
import Derived.Test.YtjalpbkfpjfigaaGreatM09
import Derived.Test.YtjalpbkfpjfigaaGreatM10
namespace Go.Proofs.YtjalpbkfpjfigaaGreat
open Go.RowKit
open Sm
set_option linter.unusedVariables false

set_option maxHeartbeats 400000 in
theorem mparse_short (a : Option Addr) (n cap : Nat) (w : World) (h : n < 8) :
    Calls Tryz.prog 78 #[.slice a n cap] w fun e w' => e = .returned (.tuple #[.agg mg0, .int .i64 20]) ∧ Below w.heap.size w w' := by
  have h' : (n : Int) < 8 := by omega
  go_enter Tryz.func78, Tryz.ntmps78
  go_wp2
  refine bodyPost_ret (v := .tuple #[.agg mg0, .int .i64 20]) (by simp [results, Tryz.results78, go_sem]) rfl ⟨rfl, ?_⟩
  exact (Below.refl _ _).alloc (Nat.le_refl _) _

/-- A row, and its first two bytes. -/
theorem row_two {w : World} {b off : Nat} {l : List Int} {X0 X1 : Int} (hq : 8 ≤ l.length ∧ l.getD 0 0 = X0 ∧ l.getD 1 0 = X1) (h : Row w (some ⟨b, off, none⟩) l) :
    Row w (some ⟨b, off, none⟩) l ∧ w.cell? ⟨b, off, none⟩ = some (.int .u8 X0) ∧ w.cell? ⟨b, off + 1, none⟩ = some (.int .u8 X1) := by
  obtain ⟨h8, rfl, rfl⟩ := hq
  exact ⟨h, h.cellAt 0 (by omega), h.cellAt 1 (by omega)⟩

set_option maxRecDepth 20000 in
set_option maxHeartbeats 2000000 in
theorem mparse_ok {w : World} {b off n cap : Nat} {l : List Int} (h : Row w (some ⟨b, off, none⟩) l) (hn : l.length = n) (hc : n ≤ cap) (m : Nat) (h8 : n = m + 8) (X0 X1 X2 X4 : Int) (e0 : l.getD 0 0 = X0) (e1 : l.getD 1 0 = X1) (e2 : w16 l 2 = X2) (e4 : w32 l 4 = X4) (body : List Int) (hbd : (l.drop 8).take m = body) :
    Calls Tryz.prog 78 #[.slice (some ⟨b, off, none⟩) n cap] w fun e w' => ∃ g, e = .returned (.tuple #[.agg (mgA X0 X1 X2 X4 (.slice (some ⟨g, 0, none⟩) m m)), .int .i64 0]) ∧ (Row w' (some ⟨g, 0, none⟩) body ∧ w'.heap[g]? = some (.cells (bs body) 5 (0, 0))) ∧ w.heap.size ≤ g ∧ Below w.heap.size w w' := by
  have h8' : (8 : Int) ≤ n := by omega
  have h0' : (0 : Int) < n := by omega
  have h1' : (1 : Int) < n := by omega
  have g0' : 0 < n := by omega
  have hc4 : (4 : Int) ≤ cap := by omega
  have hc8 : (8 : Int) ≤ cap := by omega
  have hc44 : (4 : Int) ≤ ((cap - 4 : Nat) : Int) := by omega
  have hc2n : ¬ cap = 2 := by omega
  have hc4n : ¬ cap = 4 := by omega
  have hnm : n - 8 = m := by omega
  have hni : (n : Int) - 8 = m := by omega
  have hnl := h.len
  have hnl' : (n : Int) ≤ 140737488351232 := by omega
  have hmw : IntKind.i64.wrap (m : Int) = m := by rw [IntKind.wrap_i64]; omega
  have hbl : body.length = m := by rw [← hbd]; simp; omega
  have hmk := make_bytes m (by omega)
  have HR : Hid (Row w (some ⟨b, off, none⟩) l ∧ 8 ≤ l.length ∧ 8 + m ≤ l.length) := ⟨h, by omega, by omega⟩
  have HE : Hid (w16 l 2 = X2 ∧ w32 l 4 = X4 ∧ (l.drop 8).take m = body ∧ body.length = m ∧ n = m + 8 ∧ n ≤ cap ∧ m ≤ 140737488351232) := ⟨e2, e4, hbd, hbl, h8, hc, by omega⟩
  have HQ : Hid (8 ≤ l.length ∧ l.getD 0 0 = X0 ∧ l.getD 1 0 = X1) := ⟨by omega, e0, e1⟩
  have HM1 : Hid (Mem w (w.alloc (.cells mg0 mgT)) [(w.heap.size, .cells mg0 mgT)]) := (Mem.nil w).push w.heap.size (.cells mg0 mgT) rfl
  clear h hn hc hnl e0 e1 e2 e4 hbd hbl h8
  go_enter Tryz.func78, Tryz.ntmps78
  go_upto_region 3 with fail
  refine wp_letter (fun W => Mem w W [(w.heap.size, .cells mg0 mgT)]) HM1.out ?_
  intro w1 hM1
  clear HM1
  have HM1 : Hid _ := hM1
  obtain ⟨hS, c0, c1⟩ := row_two HQ.out (hM1.row HR.out.1)
  clear hM1
  have D1 : ∀ (u : World) (k : Nat) (o : Obj), (u.drewN k).alloc o = (u.alloc o).drewN k := fun _ _ _ => rfl
  have D2 : ∀ (u : World) (k : Nat) (p : Addr) (v : Value), (u.drewN k).setCell p v = (u.setCell p v).drewN k := fun _ _ _ _ => rfl
  have HT : Hid (∀ W, (Row W (some ⟨b, off, none⟩) l ∧ W.cell? ⟨b, off, none⟩ = some (.int .u8 X0) ∧ W.cell? ⟨b, off + 1, none⟩ = some (.int .u8 X1)) → Row W (some ⟨b, off, none⟩) l) := fun _ h => h.1
  go_cut [0, 4] from 5 (fun s0 s4 wx => s0 = .slice (some ⟨b, off, none⟩) n cap ∧ ∃ gm gu, s4 = .pointer (some ⟨gu, 0, none⟩) ∧ Mem w wx [(w.heap.size, .cells mg0 mgT), (gm, .cells (madeCells #[.int .u8 0] m) 5), (gu, .cells (mgA X0 X1 X2 X4 (.slice (some ⟨gm, 0, none⟩) m m)) mgT)])
  case first =>
    go_region_held3 (fun w' => Row w' (some ⟨b, off, none⟩) l ∧ w'.cell? ⟨b, off, none⟩ = some (.int .u8 X0) ∧ w'.cell? ⟨b, off + 1, none⟩ = some (.int .u8 X1))
      (exact row_two HQ.out (by (try first | assumption | exact HT.out _ (by assumption)); repeat (first | assumption | refine row_alloc ?_ | refine row_drewN ?_ | refine row_drew ?_)))
      (first
        | (go_at_call 108; with_reducible refine (mword_at (by first | assumption | exact HT.out _ (by assumption)) 2 (off + 2) rfl (by have := HR.out; omega) X2 HE.out.1 _).mono ?_; rintro e w5 ⟨rfl, q5, rfl⟩)
        | (go_at_call 109; with_reducible refine (mlong_at (by first | assumption | exact HT.out _ (by assumption)) 4 (off + 4) rfl (by have := HR.out; omega) X4 HE.out.2.1 _ hc44).mono ?_; rintro e w5 ⟨rfl, q5, rfl⟩))
    all_goals
      go_wp2_with fail
      go_meet
      case rel => first
        | exact ⟨rfl, w1.heap.size, w1.heap.size + 1, rfl, ((HM1.out.push2 rfl).push3 (by simp)).drewN _⟩
        | exact ⟨rfl, w1.heap.size + 1, w1.heap.size, rfl, (((HM1.out.push2 rfl).push3 (by simp)).perm ((List.Perm.swap _ _ _).cons _)).drewN _⟩
  case rest =>
  clear HM1 hS c0 c1 D1 D2 hni
  obtain ⟨rfl, gm, gu, rfl, hM2⟩ := hcut
  have HM2 : Hid _ := hM2
  have k4 : wc.cell? ⟨gu, 4, none⟩ = some (.slice (some ⟨gm, 0, none⟩) m m) := hM2.cell 2 rfl 4
  clear hM2
  go_upto_region 4 with fail
  go_cut [0] from 5 (fun s0 wx => Mem w wx [(w.heap.size, .cells mg0 mgT), (gm, .cells (bs body) 5), (gu, .cells (mgA X0 X1 X2 X4 (.slice (some ⟨gm, 0, none⟩) m m)) mgT)])
  case first =>
    have HF : Hid (0 + body.length ≤ (madeCells #[Value.int .u8 0] m).size) := by
      show _ ≤ _
      rw [HE.out.2.2.2.1, size_madeCells]; omega
    by_cases hm0 : cap = 8
    · have hmz : m = 0 := by have := HE.out; omega
      have hbn : body = [] := List.eq_nil_of_length_eq_zero (by rw [HE.out.2.2.2.1]; exact hmz)
      go_region_law (refine step_copy_bytes rfl (.tmp 27) (.tmp 29) 22 22 rfl Tryz.underlying22 (some ⟨gm, 0, none⟩) (some ⟨b, off, none⟩) 0 0 0 0 (by simp [Act.eval]) (by simp [Act.eval]) gm 0 _ (bs body) 5 (HM2.out.drew.get 1 rfl) body (by rw [hbn]; rfl) (fun hp => by rw [hbn] at hp; simp at hp) HF.out (made_new m body HE.out.2.2.2.1) ?_; intro w5 hw5)
      all_goals
        go_wp2_with fail
        go_meet
        case rel => exact HM2.out.drew.wrote 1 rfl hw5
    · have hn0 : (8 : Int) < cap := by omega
      have HP : Hid (0 < body.length → some (⟨gm, 0, none⟩ : Addr) = some ⟨gm, 0, none⟩ ∧ ∃ ad, some (⟨b, off + 8, none⟩ : Addr) = some ad ∧ ∀ j v, (body.map (Value.int .u8))[j]? = some v → wc.drew.cell? (ad.add j) = some v) := by
        intro hp
        refine ⟨rfl, _, rfl, ?_⟩
        have hr := HM2.out.drew.row (HR.out.1.part 8 m (by have := HR.out; omega))
        rw [HE.out.2.2.1] at hr
        exact hr.news
      go_region_law (refine step_copy_bytes rfl (.tmp 27) (.tmp 29) 22 22 rfl Tryz.underlying22 (some ⟨gm, 0, none⟩) (some ⟨b, off + 8, none⟩) m m m (cap - 8) (by simp [Act.eval]) (by simp [Act.eval]) gm 0 _ (bs body) 5 (HM2.out.drew.get 1 rfl) body (by rw [HE.out.2.2.2.1]; exact (Nat.min_self m).symm) HP.out HF.out (made_new m body HE.out.2.2.2.1) ?_; intro w5 hw5)
      all_goals
        go_wp2_with fail
        go_meet
        case rel => exact HM2.out.drew.wrote 1 rfl hw5
  case rest =>
  have HM5 : Hid _ := hcut
  have kc : ∀ i, wc.cell? ⟨gu, i, none⟩ = (mgA X0 X1 X2 X4 (.slice (some ⟨gm, 0, none⟩) m m))[i]? := hcut.cell 2 rfl
  have kr : ∀ i, wc.cell? ⟨w.heap.size, i, none⟩ = mg0[i]? := hcut.cell 0 rfl
  have kf : ∀ i, wc.frozen? ⟨w.heap.size, i, none⟩ = false := hcut.free 0 rfl
  clear hcut HM2 k4
  go_wp2_with fail
  refine bodyPost_ret (v := .tuple #[.agg (mgA X0 X1 X2 X4 (.slice (some ⟨gm, 0, none⟩) m m)), .int .i64 0]) (by simp [results, Tryz.results78, go_sem, kr]) rfl ⟨gm, rfl, ?_, HM5.out.ge 1 rfl, ?_⟩
  · have hne := HM5.out.ne 0 1 rfl rfl (by decide)
    have hb' : IsBytes body := by rw [← HE.out.2.2.1]; exact bytes_part HR.out.1.bytes _ _
    refine ⟨?_, ?_⟩
    · repeat (refine Row.setCell ?_ hne _)
      exact HM5.out.own 1 rfl hb' (by rw [HE.out.2.2.2.1]; exact HE.out.2.2.2.2.2.2)
    · iterate 5 (rw [Below.heap_setCell _ _ _ _ (fun e => hne e.symm)])
      exact HM5.out.get 1 rfl
  · iterate 5 (refine below_set ?_ (Nat.le_refl _))
    exact HM5.out.below

theorem mg_e20 {l : List Int} (h : l.length < 8) : mgErr l = 20 ∧ mgRes l = Mg.zero := by
  have e : mgErr l = 20 := by unfold mgErr; rw [if_pos h]
  exact ⟨e, if_neg (by rw [e]; decide)⟩
theorem mg_e0 {l : List Int} (h : ¬ l.length < 8) : mgErr l = 0 ∧ mgRes l = mgMg l := by
  have e : mgErr l = 0 := by unfold mgErr; rw [if_neg h]
  exact ⟨e, if_pos e⟩

/-- A value that is the message q, its body of the call's own. -/
def MgO (w : World) (B : Nat) (v : Value) (q : Mg) : Prop :=
  ∃ bo cb, v = .agg (mgA q.typ q.code q.sum q.rest (.slice bo q.body.length cb)) ∧ w.ownsRow B 5 1 (.slice bo q.body.length cb) q.body.length (q.body.map (Value.int .u8)) ∧ IsBytes q.body ∧ q.body.length ≤ 140737488351232
theorem own_nil {w : World} {B : Nat} {a : Option Addr} {n c : Nat} {xs : List Value} (h : w.ownsRow B 5 1 (.slice a n c) n xs) : (a = none → c = 0) ∧ (∀ x, a = some x → B ≤ x.block) ∧ n ≤ c := by
  obtain ⟨h1, h2⟩ := h
  rcases h2 with ⟨e, h3⟩ | ⟨g, cap, cur, e, hg, r⟩
  · cases e; exact ⟨fun _ => rfl, fun x hx => (by cases hx), by omega⟩
  · cases e; exact ⟨fun h => (by cases h), fun x hx => (by cases hx; exact hg), r.2.1⟩
/-- A store below what it owns. -/
theorem own_far {w : World} {B n : Nat} {v : Value} {xs : List Value} (h : w.ownsRow B 5 1 v n xs) {g j : Nat} (hg : g < B) {x : Value} : (w.setCell ⟨g, j, none⟩ x).ownsRow B 5 1 v n xs := by
  obtain ⟨h1, h2⟩ := h
  rcases h2 with h2 | ⟨k, cap, cur, e, hk, hh, r⟩
  · exact ⟨h1, Or.inl h2⟩
  · exact ⟨h1, Or.inr ⟨k, cap, cur, e, hk, by rw [Below.heap_setCell _ _ _ _ (by simp only; omega)]; exact hh, r⟩⟩
theorem MgO.v {w : World} {B : Nat} {v : Value} {q : Mg} (h : MgO w B v q) : MgV w B v q := by
  obtain ⟨bo, cb, e, ho, hb, hl⟩ := h
  obtain ⟨n1, n2, -⟩ := own_nil ho
  obtain ⟨ao, cap, e2, hr⟩ := own_row rfl ho hb hl
  cases e2
  exact ⟨bo, cb, e, hr, n1, n2⟩
theorem MgO.below {w w' : World} {C : Nat} {v : Value} {q : Mg} (h : MgO w C v q) {B : Nat} (hb : Below B w w') (hB : w.heap.size ≤ B) : MgO w' C v q := by
  obtain ⟨bo, cb, e, ho, h2⟩ := h
  exact ⟨bo, cb, e, own_after ho hb hB, h2⟩
theorem MgO.mono {w : World} {C D : Nat} {v : Value} {q : Mg} (h : MgO w C v q) (hD : D ≤ C) : MgO w D v q := by
  obtain ⟨bo, cb, e, ho, h2⟩ := h
  exact ⟨bo, cb, e, own_base ho hD, h2⟩
theorem mgo_zero (w : World) (B : Nat) : MgO w B (.agg mg0) Mg.zero := ⟨none, 0, rfl, World.ownsRow_nil _ _ _ _, bytes_nil, by decide⟩

/-- What icmp.Parse answers, whatever it is handed: its body of its own. -/
theorem mparse_own {w : World} {a : Option Addr} {n c : Nat} {l : List Int} (hr : Row w a l) (hn : l.length = n) (hc : n ≤ c) :
    Calls Tryz.prog 78 #[.slice a n c] w fun r w' => ∃ v, r = .returned (.tuple #[v, .int .i64 (mgErr l)]) ∧ MgO w' w.heap.size v (mgRes l) ∧ Below w.heap.size w w' := by
  subst hn
  by_cases h1 : l.length < 8
  · rw [(mg_e20 h1).1, (mg_e20 h1).2]
    refine (mparse_short a _ c w h1).mono ?_
    rintro r w' ⟨rfl, hb⟩
    exact ⟨_, rfl, mgo_zero _ _, hb⟩
  rcases hr.cells with e0 | ⟨b, off, rfl, -⟩
  · rw [e0] at h1; simp at h1
  rw [(mg_e0 h1).1, (mg_e0 h1).2]
  have hl : ((l.drop 8).take (l.length - 8)).length = l.length - 8 := by simp
  have hlen := hr.len
  have hby := bytes_part hr.bytes 8 (l.length - 8)
  refine (mparse_ok hr rfl hc (l.length - 8) (by omega) _ _ _ _ rfl rfl rfl rfl _ rfl).mono ?_
  rintro r w' ⟨g, rfl, ⟨hrow, hheap⟩, hg, hb⟩
  refine ⟨_, rfl, ⟨some ⟨g, 0, none⟩, l.length - 8, by simp only [mgMg]; rw [hl], ?_, hby, by simp only [mgMg]; omega⟩, hb⟩
  simp only [mgMg]
  rw [hl]
  refine ⟨by simp, Or.inr ⟨g, l.length - 8, bs ((l.drop 8).take (l.length - 8)), rfl, hg, hheap, Nat.le_refl _, by unfold maxLen; omega, ?_, ?_⟩⟩
  · rw [bs_size, hl]; omega
  · exact List.take_of_length_le (by simp)
/-- What icmp.Parse answers, whatever it is handed. -/
theorem mparse_any {w : World} {a : Option Addr} {n c : Nat} {l : List Int} (hr : Row w a l) (hn : l.length = n) (hc : n ≤ c) :
    Calls Tryz.prog 78 #[.slice a n c] w fun r w' => ∃ v, r = .returned (.tuple #[v, .int .i64 (mgErr l)]) ∧ MgV w' w.heap.size v (mgRes l) ∧ Below w.heap.size w w' := by
  refine (mparse_own hr hn hc).mono ?_
  rintro r w' ⟨v, rfl, hv, hb⟩
  exact ⟨v, rfl, hv.v, hb⟩
end Go.Proofs.YtjalpbkfpjfigaaGreat

namespace Go.Proofs.YtjalpbkfpjfigaaGreat
open Go.RowKit
open Sm
set_option linter.unusedVariables false
set_option maxRecDepth 20000

namespace Sm
def addr (a b c d : Int) : Int := a * 16777216 + b * 65536 + c * 256 + d
def insd (k : Int) : Int := if k % 6 = 5 then addr 10 0 0 9 else addr 10 0 0 (1 + k % 3)
def xor1 (n : Int) : Int := bits .xor .u8 n 1
def outsd (k n : Int) : Int :=
  if k % 9 = 0 ∨ k % 9 = 1 then addr 8 8 8 8 else if k % 9 = 2 then addr 8 8 4 4 else if k % 9 = 3 then addr 192 168 0 5 else if k % 9 = 4 then addr 192 168 0 6
  else if k % 9 = 5 ∨ k % 9 = 6 then addr 5 5 n 1 else if k % 9 = 7 then addr 5 6 n 9 else addr 5 5 (xor1 n) 1
def prt (k : Int) : Int := if k % 4 = 1 then 6 else if k % 4 = 2 then 1 else 17
def ports (k : Int) : Int := if k % 5 = 0 then 1000 + k / 16 else if k % 5 = 1 then 53 else 1020 + k / 8
theorem xor1_all : ∀ n : Fin 256, 0 ≤ bits .xor .u8 (n.val : Int) 1 ∧ bits .xor .u8 (n.val : Int) 1 ≤ 255 := by decide +kernel
theorem xor1_range {n : Int} (h0 : 0 ≤ n) (h1 : n ≤ 255) : 0 ≤ xor1 n ∧ xor1 n ≤ 255 := by
  have := xor1_all ⟨n.toNat, by omega⟩
  simp only at this
  rw [show ((n.toNat : Nat) : Int) = n by omega] at this
  exact this
theorem addr_range {a b c d : Int} (ha : 0 ≤ a ∧ a ≤ 255) (hb : 0 ≤ b ∧ b ≤ 255) (hc : 0 ≤ c ∧ c ≤ 255) (hd : 0 ≤ d ∧ d ≤ 255) : 0 ≤ addr a b c d ∧ addr a b c d ≤ 4294967295 := by unfold addr; omega
theorem insd_range {k : Int} (h0 : 0 ≤ k) : 0 ≤ insd k ∧ insd k ≤ 4294967295 := by
  unfold insd
  split
  · exact ⟨by decide, by decide⟩
  · exact addr_range (by omega) (by omega) (by omega) (by omega)
theorem outsd_range {k n : Int} (h0 : 0 ≤ n) (h1 : n ≤ 255) : 0 ≤ outsd k n ∧ outsd k n ≤ 4294967295 := by
  have := xor1_range h0 h1
  unfold outsd
  repeat' split
  all_goals exact addr_range (by omega) (by omega) (by omega) (by omega)
theorem ports_range {k : Int} (h0 : 0 ≤ k) (h1 : k ≤ 255) : 0 ≤ ports k ∧ ports k ≤ 65535 := by
  unfold ports
  repeat' split
  all_goals omega
theorem prt_kind (k : Int) : prt k = 17 ∨ prt k = 6 ∨ prt k = 1 := by
  unfold prt
  split
  · exact Or.inr (Or.inl rfl)
  · split
    · exact Or.inr (Or.inr rfl)
    · exact Or.inl rfl
end Sm

set_option maxHeartbeats 1000000 in
theorem addr_any (w : World) (a b c d : Int) (ha : 0 ≤ a ∧ a ≤ 255) (hb : 0 ≤ b ∧ b ≤ 255) (hc : 0 ≤ c ∧ c ≤ 255) (hd : 0 ≤ d ∧ d ≤ 255) :
    Calls Tryz.prog 51 #[.int .u8 a, .int .u8 b, .int .u8 c, .int .u8 d] w fun e w' => e = .returned (.int .u32 (addr a b c d)) ∧ w = w' := by
  have o1 : bits .or .u32 (a * 16777216) (b * 65536) = a * 16777216 + b * 65536 :=
    bits_join .u32 32 (by decide) wraps_u32 24 (a * 16777216) (b * 65536) (by omega) (by omega) (by omega) (by omega) (by omega) (by omega)
  have o2 : bits .or .u32 (a * 16777216 + b * 65536) (c * 256) = a * 16777216 + b * 65536 + c * 256 :=
    bits_join .u32 32 (by decide) wraps_u32 16 (a * 16777216 + b * 65536) (c * 256) (by omega) (by omega) (by omega) (by omega) (by omega) (by omega)
  have o3 : bits .or .u32 (a * 16777216 + b * 65536 + c * 256) d = a * 16777216 + b * 65536 + c * 256 + d :=
    bits_join .u32 32 (by decide) wraps_u32 8 (a * 16777216 + b * 65536 + c * 256) d (by omega) (by omega) (by omega) (by omega) (by omega) (by omega)
  have v1 := wrap32_small a ha.1 (by omega)
  have v2 := wrap32_small b hb.1 (by omega)
  have v3 := wrap32_small c hc.1 (by omega)
  have v4 := wrap32_small d hd.1 (by omega)
  have u1 := wrap32_small (a * 16777216) (by omega) (by omega)
  have u2 := wrap32_small (b * 65536) (by omega) (by omega)
  have u3 := wrap32_small (c * 256) (by omega) (by omega)
  clear ha hb hc hd
  go_enter Tryz.func51, Tryz.ntmps51
  go_wp2
  go_ret
  exact ⟨rfl, rfl⟩

set_option maxHeartbeats 1000000 in
theorem inside_any (w : World) (k : Int) (h0 : 0 ≤ k) (h1 : k ≤ 255) :
    Calls Tryz.prog 19 #[.int .u8 k] w fun e w' => e = .returned (.int .u32 (insd k)) ∧ w = w' := by
  by_cases h5 : k % 6 = 5
  · have HI : Hid (insd k = addr 10 0 0 9) := by show _ = _; unfold insd; rw [if_pos h5]
    have hA := addr_any w 10 0 0 9 (by decide) (by decide) (by decide) (by decide)
    generalize insd k = R at *
    generalize addr 10 0 0 9 = A at *
    go_enter Tryz.func19, Tryz.ntmps19
    go_wp2_with fail
    refine hA.mono ?_
    rintro e w' ⟨rfl, rfl⟩
    go_wp2_with fail
    go_ret
    exact ⟨by rw [HI.out] <;> rfl, rfl⟩
  · have HI : Hid (insd k = addr 10 0 0 (1 + k % 3)) := by show _ = _; unfold insd; rw [if_neg h5]
    have hA := addr_any w 10 0 0 (1 + k % 3) (by decide) (by decide) (by decide) (by omega)
    have hw : IntKind.u8.wrap (1 + k % 3) = 1 + k % 3 := wrap8_small _ (by omega) (by omega)
    generalize insd k = R at *
    generalize addr 10 0 0 (1 + k % 3) = A at *
    go_enter Tryz.func19, Tryz.ntmps19
    go_wp2_with fail
    refine hA.mono ?_
    rintro e w' ⟨rfl, rfl⟩
    go_wp2_with fail
    go_ret
    exact ⟨by rw [HI.out] <;> rfl, rfl⟩

set_option maxHeartbeats 2000000 in
theorem outside_any (w : World) (k n : Int) (h0 : 0 ≤ k) (h1 : k ≤ 255) (n0 : 0 ≤ n) (n1 : n ≤ 255) :
    Calls Tryz.prog 20 #[.int .u8 k, .int .u8 n] w fun e w' => e = .returned (.int .u32 (outsd k n)) ∧ w = w' := by
  have hx := xor1_range n0 n1
  have HD : Hid (outsd k n = if k % 9 = 0 ∨ k % 9 = 1 then addr 8 8 8 8 else if k % 9 = 2 then addr 8 8 4 4 else if k % 9 = 3 then addr 192 168 0 5 else if k % 9 = 4 then addr 192 168 0 6
    else if k % 9 = 5 ∨ k % 9 = 6 then addr 5 5 n 1 else if k % 9 = 7 then addr 5 6 n 9 else addr 5 5 (xor1 n) 1) := rfl
  have A0 := addr_any w 8 8 8 8 (by decide) (by decide) (by decide) (by decide)
  have A2 := addr_any w 8 8 4 4 (by decide) (by decide) (by decide) (by decide)
  have A3 := addr_any w 192 168 0 5 (by decide) (by decide) (by decide) (by decide)
  have A4 := addr_any w 192 168 0 6 (by decide) (by decide) (by decide) (by decide)
  have A5 := addr_any w 5 5 n 1 (by decide) (by decide) ⟨n0, n1⟩ (by decide)
  have A7 := addr_any w 5 6 n 9 (by decide) (by decide) ⟨n0, n1⟩ (by decide)
  have A8 := addr_any w 5 5 (xor1 n) 1 (by decide) (by decide) hx (by decide)
  have hxe : bits .xor .u8 n 1 = xor1 n := rfl
  generalize xor1 n = X at *
  generalize outsd k n = R at *
  generalize addr 8 8 8 8 = a0 at *
  generalize addr 8 8 4 4 = a2 at *
  generalize addr 192 168 0 5 = a3 at *
  generalize addr 192 168 0 6 = a4 at *
  generalize addr 5 5 n 1 = a5 at *
  generalize addr 5 6 n 9 = a7 at *
  generalize addr 5 5 X 1 = a8 at *
  have hk : k % 9 = 0 ∨ k % 9 = 1 ∨ k % 9 = 2 ∨ k % 9 = 3 ∨ k % 9 = 4 ∨ k % 9 = 5 ∨ k % 9 = 6 ∨ k % 9 = 7 ∨ k % 9 = 8 := by omega
  rcases hk with e | e | e | e | e | e | e | e | e <;> rw [e] at HD <;> simp at HD
  all_goals
    go_enter Tryz.func20, Tryz.ntmps20
    go_wp2_with fail
    first
      | with_reducible refine A0.mono ?_
      | with_reducible refine A2.mono ?_
      | with_reducible refine A3.mono ?_
      | with_reducible refine A4.mono ?_
      | with_reducible refine A5.mono ?_
      | with_reducible refine A7.mono ?_
      | with_reducible refine A8.mono ?_
    rintro e w' ⟨rfl, rfl⟩
    go_wp2_with fail
    go_ret
    exact ⟨by rw [HD.out] <;> rfl, rfl⟩

set_option maxHeartbeats 1000000 in
theorem port_any (w : World) (k : Int) (h0 : 0 ≤ k) (h1 : k ≤ 255) :
    Calls Tryz.prog 22 #[.int .u8 k] w fun e w' => e = .returned (.int .u16 (ports k)) ∧ w = w' := by
  have HD : Hid (ports k = if k % 5 = 0 then 1000 + k / 16 else if k % 5 = 1 then 53 else 1020 + k / 8) := rfl
  have v1 := wrap16_small (k / 16) (by omega) (by omega)
  have v2 := wrap16_small (k / 8) (by omega) (by omega)
  have v3 := wrap16_small (1000 + k / 16) (by omega) (by omega)
  have v4 := wrap16_small (1020 + k / 8) (by omega) (by omega)
  generalize ports k = R at *
  by_cases e0 : k % 5 = 0
  · rw [if_pos e0] at HD
    go_enter Tryz.func22, Tryz.ntmps22
    go_wp2
    go_ret
    exact ⟨by rw [HD.out] <;> rfl, rfl⟩
  · rw [if_neg e0] at HD
    by_cases e1 : k % 5 = 1
    · rw [if_pos e1] at HD
      go_enter Tryz.func22, Tryz.ntmps22
      go_wp2
      go_ret
      exact ⟨by rw [HD.out] <;> rfl, rfl⟩
    · rw [if_neg e1] at HD
      go_enter Tryz.func22, Tryz.ntmps22
      go_wp2
      go_ret
      exact ⟨by rw [HD.out] <;> rfl, rfl⟩

set_option maxHeartbeats 1000000 in
theorem proto_any (w : World) (k : Int) (h0 : 0 ≤ k) (h1 : k ≤ 255) :
    Calls Tryz.prog 21 #[.int .u8 k] w fun e w' => e = .returned (.int .u8 (prt k)) ∧ Below w.heap.size w w' := by
  have HD : Hid (prt k = if k % 4 = 1 then 6 else if k % 4 = 2 then 1 else 17) := rfl
  have HB : Hid (∀ o, Below w.heap.size w (w.alloc o)) := fun o => (Below.refl _ _).alloc (Nat.le_refl _) o
  generalize prt k = R at *
  have hk : k % 4 = 0 ∨ k % 4 = 1 ∨ k % 4 = 2 ∨ k % 4 = 3 := by omega
  rcases hk with e | e | e | e <;> rw [e] at HD <;> simp at HD
  all_goals
    go_enter Tryz.func21, Tryz.ntmps21
    go_wp2
    go_ret
    exact ⟨by rw [HD.out] <;> rfl, HB.out _⟩
end Go.Proofs.YtjalpbkfpjfigaaGreat

namespace Go.Proofs.YtjalpbkfpjfigaaGreat
open Go.RowKit
open Sm
set_option linter.unusedVariables false

set_option maxHeartbeats 1000000 in
/-- What icmp.Echo answers, whatever it is handed. -/
theorem mecho_any {w : World} {B : Nat} {v : Value} {q : Mg} (hv : MgV w B v q) :
    Calls Tryz.prog 110 #[v] w fun e w' => e = .returned (.bool (mecho q)) ∧ Below w.heap.size w w' := by
  obtain ⟨bo, cb, rfl, -⟩ := hv
  obtain ⟨t, k, c, r, body⟩ := q
  have HB : Hid (∀ o, Below w.heap.size w (w.alloc o)) := fun o => (Below.refl _ _).alloc (Nat.le_refl _) _
  simp only [mecho]
  generalize body.length = nb
  by_cases h0 : t = 0
  · subst h0
    go_enter Tryz.func110, Tryz.ntmps110
    go_wp2
    go_ret
    exact ⟨by simp <;> rfl, HB.out _⟩
  have n0 : (t == 0) = false := by simp [h0]
  by_cases h8 : t = 8
  · subst h8
    go_enter Tryz.func110, Tryz.ntmps110
    go_wp2
    go_ret
    exact ⟨by simp <;> rfl, HB.out _⟩
  have n8 : (t == 8) = false := by simp [h8]
  go_enter Tryz.func110, Tryz.ntmps110
  go_wp2
  go_ret
  exact ⟨by simp [h0, h8], HB.out _⟩

set_option maxHeartbeats 1000000 in
/-- What icmp.Error answers, whatever it is handed. -/
theorem merror_any {w : World} {B : Nat} {v : Value} {q : Mg} (hv : MgV w B v q) :
    Calls Tryz.prog 111 #[v] w fun e w' => e = .returned (.bool (merror q)) ∧ Below w.heap.size w w' := by
  obtain ⟨bo, cb, rfl, -⟩ := hv
  obtain ⟨t, k, c, r, body⟩ := q
  have HB : Hid (∀ o, Below w.heap.size w (w.alloc o)) := fun o => (Below.refl _ _).alloc (Nat.le_refl _) _
  simp only [merror]
  generalize body.length = nb
  by_cases h3 : t = 3
  · subst h3
    go_enter Tryz.func111, Tryz.ntmps111
    go_wp2
    go_ret
    exact ⟨rfl, HB.out _⟩
  have n3 : (t == 3) = false := by simp [h3]
  by_cases h11 : t = 11
  · subst h11
    go_enter Tryz.func111, Tryz.ntmps111
    go_wp2
    go_ret
    exact ⟨rfl, HB.out _⟩
  have n11 : (t == 11) = false := by simp [h11]
  by_cases h12 : t = 12
  · subst h12
    go_enter Tryz.func111, Tryz.ntmps111
    go_wp2
    go_ret
    exact ⟨rfl, HB.out _⟩
  have n12 : (t == 12) = false := by simp [h12]
  go_enter Tryz.func111, Tryz.ntmps111
  go_wp2
  go_ret
  exact ⟨by simp [h3, h11, h12], HB.out _⟩

set_option maxHeartbeats 1000000 in
/-- What lychref1.Echo answers, whatever it is handed. -/
theorem rmecho_any {w : World} {B : Nat} {v : Value} {q : Mg} (hv : MgV w B v q) :
    Calls Tryz.prog 48 #[v] w fun e w' => e = .returned (.bool (mecho q)) ∧ Below w.heap.size w w' := by
  obtain ⟨bo, cb, rfl, -⟩ := hv
  obtain ⟨t, k, c, r, body⟩ := q
  have HB : Hid (∀ o, Below w.heap.size w (w.alloc o)) := fun o => (Below.refl _ _).alloc (Nat.le_refl _) _
  simp only [mecho]
  generalize body.length = nb
  by_cases h8 : t = 8
  · subst h8
    go_enter Tryz.func48, Tryz.ntmps48
    go_wp2
    go_ret
    exact ⟨by simp <;> rfl, HB.out _⟩
  have n8 : (t == 8) = false := by simp [h8]
  by_cases h0 : t = 0
  · subst h0
    go_enter Tryz.func48, Tryz.ntmps48
    go_wp2
    go_ret
    exact ⟨by simp <;> rfl, HB.out _⟩
  have n0 : (t == 0) = false := by simp [h0]
  go_enter Tryz.func48, Tryz.ntmps48
  go_wp2
  go_ret
  exact ⟨by simp [h0, h8], HB.out _⟩

set_option maxHeartbeats 1000000 in
/-- What lychref1.Error answers, whatever it is handed. -/
theorem rmerror_any {w : World} {B : Nat} {v : Value} {q : Mg} (hv : MgV w B v q) :
    Calls Tryz.prog 49 #[v] w fun e w' => e = .returned (.bool (merror q)) ∧ Below w.heap.size w w' := by
  obtain ⟨bo, cb, rfl, -⟩ := hv
  obtain ⟨t, k, c, r, body⟩ := q
  have HB : Hid (∀ o, Below w.heap.size w (w.alloc o)) := fun o => (Below.refl _ _).alloc (Nat.le_refl _) _
  simp only [merror]
  generalize body.length = nb
  by_cases h3 : t = 3
  · subst h3
    go_enter Tryz.func49, Tryz.ntmps49
    go_wp2
    go_ret
    exact ⟨rfl, HB.out _⟩
  have n3 : (t == 3) = false := by simp [h3]
  by_cases h11 : t = 11
  · subst h11
    go_enter Tryz.func49, Tryz.ntmps49
    go_wp2
    go_ret
    exact ⟨rfl, HB.out _⟩
  have n11 : (t == 11) = false := by simp [h11]
  go_enter Tryz.func49, Tryz.ntmps49
  go_wp2
  go_ret
  exact ⟨by simp [h3, h11] <;> rfl, HB.out _⟩
end Go.Proofs.YtjalpbkfpjfigaaGreat

