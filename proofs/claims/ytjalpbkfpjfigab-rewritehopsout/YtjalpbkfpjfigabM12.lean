/-
  What icmp.Parse answers: the document's message with a body of the call's own, or the error.
  What the document's own lychref1.Udp and lychref1.UdpBytes answer, and lychhelp.Udp over two datagrams that are the same.
  What tcp.putWord and tcp.putLong write.
-/
import Derived.Test.YtjalpbkfpjfigabM09
import Derived.Test.YtjalpbkfpjfigabM10
namespace Go.Proofs.Ytjalpbkfpjfigab
open Go.RowKit
open Sm
set_option linter.unusedVariables false

set_option maxHeartbeats 400000 in
theorem mparse_short (a : Option Addr) (n cap : Nat) (w : World) (h : n < 8) :
    Calls Try.prog 56 #[.slice a n cap] w fun e w' => e = .returned (.tuple #[.agg mg0, .int .i64 20]) ∧ Below w.heap.size w w' := by
  have h' : (n : Int) < 8 := by omega
  go_enter Try.func56, Try.ntmps56
  go_wp2
  refine bodyPost_ret (v := .tuple #[.agg mg0, .int .i64 20]) (by simp [results, Try.results56, go_sem]) rfl ⟨rfl, ?_⟩
  exact (Below.refl _ _).alloc (Nat.le_refl _) _

/-- A row, and its first two bytes. -/
theorem row_two {w : World} {b off : Nat} {l : List Int} {X0 X1 : Int} (hq : 8 ≤ l.length ∧ l.getD 0 0 = X0 ∧ l.getD 1 0 = X1) (h : Row w (some ⟨b, off, none⟩) l) :
    Row w (some ⟨b, off, none⟩) l ∧ w.cell? ⟨b, off, none⟩ = some (.int .u8 X0) ∧ w.cell? ⟨b, off + 1, none⟩ = some (.int .u8 X1) := by
  obtain ⟨h8, rfl, rfl⟩ := hq
  exact ⟨h, h.cellAt 0 (by omega), h.cellAt 1 (by omega)⟩

set_option maxRecDepth 20000 in
set_option maxHeartbeats 2000000 in
theorem mparse_ok {w : World} {b off n cap : Nat} {l : List Int} (h : Row w (some ⟨b, off, none⟩) l) (hn : l.length = n) (hc : n ≤ cap) (m : Nat) (h8 : n = m + 8) (X0 X1 X2 X4 : Int) (e0 : l.getD 0 0 = X0) (e1 : l.getD 1 0 = X1) (e2 : w16 l 2 = X2) (e4 : w32 l 4 = X4) (body : List Int) (hbd : (l.drop 8).take m = body) :
    Calls Try.prog 56 #[.slice (some ⟨b, off, none⟩) n cap] w fun e w' => ∃ g, e = .returned (.tuple #[.agg (mgA X0 X1 X2 X4 (.slice (some ⟨g, 0, none⟩) m m)), .int .i64 0]) ∧ (Row w' (some ⟨g, 0, none⟩) body ∧ w'.heap[g]? = some (.cells (bs body) 5 (0, 0))) ∧ w.heap.size ≤ g ∧ Below w.heap.size w w' := by
  have h8' : (8 : Int) ≤ n := by omega
  have h0' : (0 : Int) < n := by omega
  have h1' : (1 : Int) < n := by omega
  have g0' : 0 < n := by omega
  have hc4 : (4 : Int) ≤ cap := by omega
  have hc8 : (8 : Int) ≤ cap := by omega
  have hc44 : (4 : Int) ≤ ((cap - 4 : Nat) : Int) := by omega
  have hc2n : ¬ cap = 2 := by omega
  have hc4n : ¬ cap = 4 := by omega
  have hnm : n - 8 = m := by omega
  have hni : (n : Int) - 8 = m := by omega
  have hnl := h.len
  have hnl' : (n : Int) ≤ 140737488351232 := by omega
  have hmw : IntKind.i64.wrap (m : Int) = m := by rw [IntKind.wrap_i64]; omega
  have hbl : body.length = m := by rw [← hbd]; simp; omega
  have hmk := make_bytes m (by omega)
  have HR : Hid (Row w (some ⟨b, off, none⟩) l ∧ 8 ≤ l.length ∧ 8 + m ≤ l.length) := ⟨h, by omega, by omega⟩
  have HE : Hid (w16 l 2 = X2 ∧ w32 l 4 = X4 ∧ (l.drop 8).take m = body ∧ body.length = m ∧ n = m + 8 ∧ n ≤ cap ∧ m ≤ 140737488351232) := ⟨e2, e4, hbd, hbl, h8, hc, by omega⟩
  have HQ : Hid (8 ≤ l.length ∧ l.getD 0 0 = X0 ∧ l.getD 1 0 = X1) := ⟨by omega, e0, e1⟩
  have HM1 : Hid (Mem w (w.alloc (.cells mg0 mgT)) [(w.heap.size, .cells mg0 mgT)]) := (Mem.nil w).push w.heap.size (.cells mg0 mgT) rfl
  clear h hn hc hnl e0 e1 e2 e4 hbd hbl h8
  go_enter Try.func56, Try.ntmps56
  go_upto_region 3 with fail
  refine wp_letter (fun W => Mem w W [(w.heap.size, .cells mg0 mgT)]) HM1.out ?_
  intro w1 hM1
  clear HM1
  have HM1 : Hid _ := hM1
  obtain ⟨hS, c0, c1⟩ := row_two HQ.out (hM1.row HR.out.1)
  clear hM1
  have D1 : ∀ (u : World) (k : Nat) (o : Obj), (u.drewN k).alloc o = (u.alloc o).drewN k := fun _ _ _ => rfl
  have D2 : ∀ (u : World) (k : Nat) (p : Addr) (v : Value), (u.drewN k).setCell p v = (u.setCell p v).drewN k := fun _ _ _ _ => rfl
  have HT : Hid (∀ W, (Row W (some ⟨b, off, none⟩) l ∧ W.cell? ⟨b, off, none⟩ = some (.int .u8 X0) ∧ W.cell? ⟨b, off + 1, none⟩ = some (.int .u8 X1)) → Row W (some ⟨b, off, none⟩) l) := fun _ h => h.1
  go_cut [0, 4] from 5 (fun s0 s4 wx => s0 = .slice (some ⟨b, off, none⟩) n cap ∧ ∃ gm gu, s4 = .pointer (some ⟨gu, 0, none⟩) ∧ Mem w wx [(w.heap.size, .cells mg0 mgT), (gm, .cells (madeCells #[.int .u8 0] m) 5), (gu, .cells (mgA X0 X1 X2 X4 (.slice (some ⟨gm, 0, none⟩) m m)) mgT)])
  case first =>
    go_region_held3 (fun w' => Row w' (some ⟨b, off, none⟩) l ∧ w'.cell? ⟨b, off, none⟩ = some (.int .u8 X0) ∧ w'.cell? ⟨b, off + 1, none⟩ = some (.int .u8 X1))
      (exact row_two HQ.out (by (try first | assumption | exact HT.out _ (by assumption)); repeat (first | assumption | refine row_alloc ?_ | refine row_drewN ?_ | refine row_drew ?_)))
      (first
        | (go_at_call 86; with_reducible refine (mword_at (by first | assumption | exact HT.out _ (by assumption)) 2 (off + 2) rfl (by have := HR.out; omega) X2 HE.out.1 _).mono ?_; rintro e w5 ⟨rfl, q5, rfl⟩)
        | (go_at_call 87; with_reducible refine (mlong_at (by first | assumption | exact HT.out _ (by assumption)) 4 (off + 4) rfl (by have := HR.out; omega) X4 HE.out.2.1 _ hc44).mono ?_; rintro e w5 ⟨rfl, q5, rfl⟩))
    all_goals
      go_wp2_with fail
      go_meet
      case rel => first
        | exact ⟨rfl, w1.heap.size, w1.heap.size + 1, rfl, ((HM1.out.push2 rfl).push3 (by simp)).drewN _⟩
        | exact ⟨rfl, w1.heap.size + 1, w1.heap.size, rfl, (((HM1.out.push2 rfl).push3 (by simp)).perm ((List.Perm.swap _ _ _).cons _)).drewN _⟩
  case rest =>
  clear HM1 hS c0 c1 D1 D2 hni
  obtain ⟨rfl, gm, gu, rfl, hM2⟩ := hcut
  have HM2 : Hid _ := hM2
  have k4 : wc.cell? ⟨gu, 4, none⟩ = some (.slice (some ⟨gm, 0, none⟩) m m) := hM2.cell 2 rfl 4
  clear hM2
  go_upto_region 4 with fail
  go_cut [0] from 5 (fun s0 wx => Mem w wx [(w.heap.size, .cells mg0 mgT), (gm, .cells (bs body) 5), (gu, .cells (mgA X0 X1 X2 X4 (.slice (some ⟨gm, 0, none⟩) m m)) mgT)])
  case first =>
    have HF : Hid (0 + body.length ≤ (madeCells #[Value.int .u8 0] m).size) := by
      show _ ≤ _
      rw [HE.out.2.2.2.1, size_madeCells]; omega
    by_cases hm0 : cap = 8
    · have hmz : m = 0 := by have := HE.out; omega
      have hbn : body = [] := List.eq_nil_of_length_eq_zero (by rw [HE.out.2.2.2.1]; exact hmz)
      go_region_law (refine step_copy_bytes rfl (.tmp 27) (.tmp 29) 29 29 rfl Try.underlying29 (some ⟨gm, 0, none⟩) (some ⟨b, off, none⟩) 0 0 0 0 (by simp [Act.eval]) (by simp [Act.eval]) gm 0 _ (bs body) 5 (HM2.out.drew.get 1 rfl) body (by rw [hbn]; rfl) (fun hp => by rw [hbn] at hp; simp at hp) HF.out (made_new m body HE.out.2.2.2.1) ?_; intro w5 hw5)
      all_goals
        go_wp2_with fail
        go_meet
        case rel => exact HM2.out.drew.wrote 1 rfl hw5
    · have hn0 : (8 : Int) < cap := by omega
      have HP : Hid (0 < body.length → some (⟨gm, 0, none⟩ : Addr) = some ⟨gm, 0, none⟩ ∧ ∃ ad, some (⟨b, off + 8, none⟩ : Addr) = some ad ∧ ∀ j v, (body.map (Value.int .u8))[j]? = some v → wc.drew.cell? (ad.add j) = some v) := by
        intro hp
        refine ⟨rfl, _, rfl, ?_⟩
        have hr := HM2.out.drew.row (HR.out.1.part 8 m (by have := HR.out; omega))
        rw [HE.out.2.2.1] at hr
        exact hr.news
      go_region_law (refine step_copy_bytes rfl (.tmp 27) (.tmp 29) 29 29 rfl Try.underlying29 (some ⟨gm, 0, none⟩) (some ⟨b, off + 8, none⟩) m m m (cap - 8) (by simp [Act.eval]) (by simp [Act.eval]) gm 0 _ (bs body) 5 (HM2.out.drew.get 1 rfl) body (by rw [HE.out.2.2.2.1]; exact (Nat.min_self m).symm) HP.out HF.out (made_new m body HE.out.2.2.2.1) ?_; intro w5 hw5)
      all_goals
        go_wp2_with fail
        go_meet
        case rel => exact HM2.out.drew.wrote 1 rfl hw5
  case rest =>
  have HM5 : Hid _ := hcut
  have kc : ∀ i, wc.cell? ⟨gu, i, none⟩ = (mgA X0 X1 X2 X4 (.slice (some ⟨gm, 0, none⟩) m m))[i]? := hcut.cell 2 rfl
  have kr : ∀ i, wc.cell? ⟨w.heap.size, i, none⟩ = mg0[i]? := hcut.cell 0 rfl
  have kf : ∀ i, wc.frozen? ⟨w.heap.size, i, none⟩ = false := hcut.free 0 rfl
  clear hcut HM2 k4
  go_wp2_with fail
  refine bodyPost_ret (v := .tuple #[.agg (mgA X0 X1 X2 X4 (.slice (some ⟨gm, 0, none⟩) m m)), .int .i64 0]) (by simp [results, Try.results56, go_sem, kr]) rfl ⟨gm, rfl, ?_, HM5.out.ge 1 rfl, ?_⟩
  · have hne := HM5.out.ne 0 1 rfl rfl (by decide)
    have hb' : IsBytes body := by rw [← HE.out.2.2.1]; exact bytes_part HR.out.1.bytes _ _
    refine ⟨?_, ?_⟩
    · repeat (refine Row.setCell ?_ hne _)
      exact HM5.out.own 1 rfl hb' (by rw [HE.out.2.2.2.1]; exact HE.out.2.2.2.2.2.2)
    · iterate 5 (rw [Below.heap_setCell _ _ _ _ (fun e => hne e.symm)])
      exact HM5.out.get 1 rfl
  · iterate 5 (refine below_set ?_ (Nat.le_refl _))
    exact HM5.out.below

theorem mg_e20 {l : List Int} (h : l.length < 8) : mgErr l = 20 ∧ mgRes l = Mg.zero := by
  have e : mgErr l = 20 := by unfold mgErr; rw [if_pos h]
  exact ⟨e, if_neg (by rw [e]; decide)⟩
theorem mg_e0 {l : List Int} (h : ¬ l.length < 8) : mgErr l = 0 ∧ mgRes l = mgMg l := by
  have e : mgErr l = 0 := by unfold mgErr; rw [if_neg h]
  exact ⟨e, if_pos e⟩

/-- A value that is the message q, its body of the call's own. -/
def MgO (w : World) (B : Nat) (v : Value) (q : Mg) : Prop :=
  ∃ bo cb, v = .agg (mgA q.typ q.code q.sum q.rest (.slice bo q.body.length cb)) ∧ w.ownsRow B 5 1 (.slice bo q.body.length cb) q.body.length (q.body.map (Value.int .u8)) ∧ IsBytes q.body ∧ q.body.length ≤ 140737488351232
theorem own_nil {w : World} {B : Nat} {a : Option Addr} {n c : Nat} {xs : List Value} (h : w.ownsRow B 5 1 (.slice a n c) n xs) : (a = none → c = 0) ∧ (∀ x, a = some x → B ≤ x.block) ∧ n ≤ c := by
  obtain ⟨h1, h2⟩ := h
  rcases h2 with ⟨e, h3⟩ | ⟨g, cap, cur, e, hg, r⟩
  · cases e; exact ⟨fun _ => rfl, fun x hx => (by cases hx), by omega⟩
  · cases e; exact ⟨fun h => (by cases h), fun x hx => (by cases hx; exact hg), r.2.1⟩
theorem MgO.v {w : World} {B : Nat} {v : Value} {q : Mg} (h : MgO w B v q) : MgV w B v q := by
  obtain ⟨bo, cb, e, ho, hb, hl⟩ := h
  obtain ⟨n1, n2, -⟩ := own_nil ho
  obtain ⟨ao, cap, e2, hr⟩ := own_row rfl ho hb hl
  cases e2
  exact ⟨bo, cb, e, hr, n1, n2⟩
theorem MgO.below {w w' : World} {C : Nat} {v : Value} {q : Mg} (h : MgO w C v q) {B : Nat} (hb : Below B w w') (hB : w.heap.size ≤ B) : MgO w' C v q := by
  obtain ⟨bo, cb, e, ho, h2⟩ := h
  exact ⟨bo, cb, e, own_after ho hb hB, h2⟩
theorem MgO.mono {w : World} {C D : Nat} {v : Value} {q : Mg} (h : MgO w C v q) (hD : D ≤ C) : MgO w D v q := by
  obtain ⟨bo, cb, e, ho, h2⟩ := h
  exact ⟨bo, cb, e, own_base ho hD, h2⟩
theorem mgo_zero (w : World) (B : Nat) : MgO w B (.agg mg0) Mg.zero := ⟨none, 0, rfl, World.ownsRow_nil _ _ _ _, bytes_nil, by decide⟩

/-- What icmp.Parse answers, whatever it is handed: its body of its own. -/
theorem mparse_own {w : World} {a : Option Addr} {n c : Nat} {l : List Int} (hr : Row w a l) (hn : l.length = n) (hc : n ≤ c) :
    Calls Try.prog 56 #[.slice a n c] w fun r w' => ∃ v, r = .returned (.tuple #[v, .int .i64 (mgErr l)]) ∧ MgO w' w.heap.size v (mgRes l) ∧ Below w.heap.size w w' := by
  subst hn
  by_cases h1 : l.length < 8
  · rw [(mg_e20 h1).1, (mg_e20 h1).2]
    refine (mparse_short a _ c w h1).mono ?_
    rintro r w' ⟨rfl, hb⟩
    exact ⟨_, rfl, mgo_zero _ _, hb⟩
  rcases hr.cells with e0 | ⟨b, off, rfl, -⟩
  · rw [e0] at h1; simp at h1
  rw [(mg_e0 h1).1, (mg_e0 h1).2]
  have hl : ((l.drop 8).take (l.length - 8)).length = l.length - 8 := by simp
  have hlen := hr.len
  have hby := bytes_part hr.bytes 8 (l.length - 8)
  refine (mparse_ok hr rfl hc (l.length - 8) (by omega) _ _ _ _ rfl rfl rfl rfl _ rfl).mono ?_
  rintro r w' ⟨g, rfl, ⟨hrow, hheap⟩, hg, hb⟩
  refine ⟨_, rfl, ⟨some ⟨g, 0, none⟩, l.length - 8, by simp only [mgMg]; rw [hl], ?_, hby, by simp only [mgMg]; omega⟩, hb⟩
  simp only [mgMg]
  rw [hl]
  refine ⟨by simp, Or.inr ⟨g, l.length - 8, bs ((l.drop 8).take (l.length - 8)), rfl, hg, hheap, Nat.le_refl _, by unfold maxLen; omega, ?_, ?_⟩⟩
  · rw [bs_size, hl]; omega
  · exact List.take_of_length_le (by simp)
/-- What icmp.Parse answers, whatever it is handed. -/
theorem mparse_any {w : World} {a : Option Addr} {n c : Nat} {l : List Int} (hr : Row w a l) (hn : l.length = n) (hc : n ≤ c) :
    Calls Try.prog 56 #[.slice a n c] w fun r w' => ∃ v, r = .returned (.tuple #[v, .int .i64 (mgErr l)]) ∧ MgV w' w.heap.size v (mgRes l) ∧ Below w.heap.size w w' := by
  refine (mparse_own hr hn hc).mono ?_
  rintro r w' ⟨v, rfl, hv, hb⟩
  exact ⟨v, rfl, hv.v, hb⟩
end Go.Proofs.Ytjalpbkfpjfigab

namespace Go.Proofs.Ytjalpbkfpjfigab
open Go.RowKit
open Sm
set_option linter.unusedVariables false

set_option maxHeartbeats 2000000 in
theorem rubytes_ok {w : World} {a : Option Addr} {body : List Int} (hr : Row w a body) (m cb n : Nat) (hm : body.length = m) (h1 : m ≤ 65527) (hn : n = 8 + m) (hnil : a = none → cb = 0) (s d c : Int) (hs : 0 ≤ s ∧ s ≤ 65535) (hd : 0 ≤ d ∧ d ≤ 65535) (hc : 0 ≤ c ∧ c ≤ 65535) :
    Calls Try.prog 32 #[.agg (udA s d c (.slice a m cb))] w fun e w' => ∃ u, e = .returned (.tuple #[u, .int .i64 0]) ∧
      w'.ownsRow w.heap.size 5 1 u n ((ud8 n s d c ++ body).map (Value.int .u8)) ∧ Below w.heap.size w w' := by
  have HR : Hid (Row w a body ∧ body.length = m ∧ n = 8 + m ∧ m ≤ 65527 ∧ (a = none → cb = 0)) := ⟨hr, hm, hn, h1, hnil⟩
  obtain ⟨s0, s1⟩ := hs
  obtain ⟨d0, d1⟩ := hd
  obtain ⟨c0, c1⟩ := hc
  have hmi : (m : Int) ≤ 65527 := by omega
  have HN : Hid (8 + (m : Int) = n) := by show 8 + (m : Int) = n; omega
  have hnw : IntKind.u16.wrap (8 + (m : Int)) = 8 + (m : Int) := wrap16_small _ (by omega) (by omega)
  have hnv : IntKind.i64.wrap (8 + (m : Int)) = 8 + (m : Int) := wrap64_small _ (by omega) (by omega)
  clear hr hm hn h1 hnil
  go_enter Try.func32, Try.ntmps32
  go_upto_region 3 with fail
  refine wp_letter (fun W => Inv udT w W (udA s d c (.slice a m cb)) (.slice none 0 0) 0 []) (inv_nil ((Mem.nil w).push w.heap.size _ rfl)) ?_
  intro w1 hI1
  have HI1 : Hid _ := hI1
  have D0 : w1.cell? ⟨w.heap.size, 0, none⟩ = some (.int .u16 s) := hI1.cell 0
  have D1 : w1.cell? ⟨w.heap.size, 1, none⟩ = some (.int .u16 d) := hI1.cell 1
  clear hI1
  go_cut [4] from 5 (fun s4 wx => Inv udT w wx (udA s d c (.slice a m cb)) s4 4 [s / 256, s % 256, d / 256, d % 256])
  case first =>
    go_region_held3 (fun w' => w'.cell? ⟨w.heap.size, 0, none⟩ = some (.int .u16 s) ∧ w'.cell? ⟨w.heap.size, 1, none⟩ = some (.int .u16 d))
      (first | go_keep | exact ⟨hI5.cell 0, hI5.cell 1⟩ | exact ⟨hI6.cell 0, hI6.cell 1⟩)
      (first
        | (go_at_call 24; with_reducible refine (put16_inv HI1.out.drew (by omega) s s0 s1).mono ?_; rintro e w5 ⟨v5, rfl, hI5⟩)
        | (go_at_call 24; with_reducible refine (put16_inv hI5 (by omega) d d0 d1).mono ?_; rintro e w6 ⟨v6, rfl, hI6⟩))
    all_goals
      go_wp2_with fail
      go_meet
      case rel => exact hI6
  case rest =>
  have HI2 : Hid _ := hcut
  have D2 : wc.cell? ⟨w.heap.size, 2, none⟩ = some (.int .u16 c) := hcut.cell 2
  have D3 : wc.cell? ⟨w.heap.size, 3, none⟩ = some (.slice a m cb) := hcut.cell 3
  clear hcut D0 D1 HI1
  go_upto_region 4 with fail
  go_cut [4] from 5 (fun s4 wx => Inv udT w wx (udA s d c (.slice a m cb)) s4 8 (ud8 n s d c))
  case first =>
    go_region_held3 (fun w' => w'.cell? ⟨w.heap.size, 2, none⟩ = some (.int .u16 c) ∧ w'.cell? ⟨w.heap.size, 3, none⟩ = some (.slice a m cb))
      (first | go_keep | exact ⟨hI5.cell 2, hI5.cell 3⟩ | exact ⟨hI6.cell 2, hI6.cell 3⟩)
      (first
        | (go_at_call 24; with_reducible refine (put16_inv HI2.out.drew (by omega) (8 + (m : Int)) (by omega) (by omega)).mono ?_; rintro e w5 ⟨v5, rfl, hI5⟩)
        | (go_at_call 24; with_reducible refine (put16_inv hI5 (by omega) c c0 c1).mono ?_; rintro e w6 ⟨v6, rfl, hI6⟩))
    all_goals
      go_wp2_with fail
      go_meet
      case rel => rw [HN.out] at hI6; exact hI6
  case rest =>
  have HI3 : Hid _ := hcut
  have E3 : wc.cell? ⟨w.heap.size, 3, none⟩ = some (.slice a m cb) := hcut.cell 3
  clear hcut HI2 D2 D3
  go_wp2_with (at_builtin; refine wpList_append_more _ rfl (.tmp 25) (.tmp 27) rfl (w.heap.size + 1) _ 8 _ rfl HI3.out.own a cb m body rfl HR.out.2.1 HR.out.2.2.2.2 (HI3.out.mem.row HR.out.1) (by omega) HI3.out.size ?_; intro v8 w8 hown8 hbel8)
  go_ret2
  rw [← HR.out.2.2.1, ← List.map_append] at hown8
  exact ⟨_, rfl, own_base hown8 (Nat.le_succ _), HI3.out.mem.below.trans (hbel8.mono (Nat.le_succ _))⟩

set_option maxHeartbeats 400000 in
theorem rubytes_big (w : World) (a : Option Addr) (m cb : Nat) (h1 : 65527 < m) (s d c : Int) :
    Calls Try.prog 32 #[.agg (udA s d c (.slice a m cb))] w fun e w' => e = .returned (.tuple #[.slice none 0 0, .int .i64 23]) ∧ Below w.heap.size w w' := by
  have h' : (65527 : Int) < m := by omega
  go_enter Try.func32, Try.ntmps32
  go_wp2
  go_ret2
  exact ⟨rfl, (Below.refl _ _).alloc (Nat.le_refl _) _⟩

/-- What lychref1.UdpBytes answers, whatever it is handed. -/
theorem rubytes_any {w : World} {B : Nat} {v : Value} {u : Dg} (hu : u.Ok) (hv : UdV w B v u) :
    Calls Try.prog 32 #[v] w fun r w' => ∃ x, r = .returned (.tuple #[x, .int .i64 (udbErr u)]) ∧ w'.ownsRow w.heap.size 5 1 x (udOut u).length ((udOut u).map (Value.int .u8)) ∧ Below w.heap.size w w' := by
  obtain ⟨bo, cb, rfl, hr, hnil, -⟩ := hv
  by_cases h : 65527 < u.body.length
  · have e : udbErr u = 23 := by unfold udbErr; rw [if_pos h]
    have e2 : udOut u = [] := by unfold udOut; rw [e]; rfl
    rw [e, e2]
    refine (rubytes_big w bo _ cb h _ _ _).mono ?_
    rintro r w' ⟨rfl, hb⟩
    exact ⟨_, rfl, World.ownsRow_nil _ _ _ _, hb⟩
  · have e : udbErr u = 0 := by unfold udbErr; rw [if_neg h]
    have e2 : udOut u = udb u := if_pos e
    rw [e, e2, udb_len]
    exact rubytes_ok hr _ cb (8 + u.body.length) rfl (by omega) rfl hnil u.src u.dst u.sum hu.src hu.dst hu.sum

end Go.Proofs.Ytjalpbkfpjfigab

namespace Go.Proofs.Ytjalpbkfpjfigab
open Go.RowKit
open Sm
set_option linter.unusedVariables false

set_option maxHeartbeats 1000000 in
theorem tput_ok {W : World} {g j : Nat} (z0 z1 : Int) (k0 : W.cell? ⟨g, j, none⟩ = some (.int .u8 z0)) (k1 : W.cell? ⟨g, j + 1, none⟩ = some (.int .u8 z1)) (kf : ∀ i, W.frozen? ⟨g, i, none⟩ = false) (c : Nat) (x : Int) (r0 : 0 ≤ x) (r1 : x ≤ 65535) :
    Calls Try.prog 80 #[.slice (some ⟨g, j, none⟩) 2 c, .int .u16 x] W fun e w' => e = .returned (.tuple #[]) ∧ w' = (W.setCell ⟨g, j, none⟩ (.int .u8 (x / 256))).setCell ⟨g, j + 1, none⟩ (.int .u8 (x % 256)) := by
  have u1 : IntKind.u8.wrap (x / 256) = x / 256 := wrap8_small _ (by omega) (by omega)
  have u2 : IntKind.u8.wrap x = x % 256 := by simp [IntKind.wrap, IntKind.bits, IntKind.signed]
  go_enter Try.func80, Try.ntmps80
  go_wp2
  go_end0
  exact ⟨rfl, rfl⟩

theorem tput_at {w W : World} {L : List (Nat × Obj)} (hM : Mem w W L) (i : Nat) {g N : Nat} {xs : List (Nat × Int)} (hi : L[i]? = some (g, .cells (bs (blz N xs)) 5 (0, 0))) (j : Nat) (hj : j + 1 < N) (c : Nat) (x : Int) (r0 : 0 ≤ x) (r1 : x ≤ 65535) :
    Calls Try.prog 80 #[.slice (some ⟨g, j, none⟩) 2 c, .int .u16 x] W fun e w' => e = .returned (.tuple #[]) ∧ Mem w w' (L.set i (g, .cells (bs (blz N (xs ++ [(j, x / 256), (j + 1, x % 256)]))) 5 (0, 0))) := by
  obtain ⟨z0, k0⟩ := hM.spot i hi j (by omega)
  obtain ⟨z1, k1⟩ := hM.spot i hi (j + 1) (by omega)
  refine (tput_ok z0 z1 k0 k1 (hM.free i hi) c x r0 r1).mono ?_
  rintro e w' ⟨rfl, hw⟩
  exact ⟨rfl, hM.put2 i hi j _ _ hw⟩

set_option maxHeartbeats 1000000 in
theorem tputLong_at {w W : World} {L : List (Nat × Obj)} (hM : Mem w W L) (i : Nat) {g N : Nat} {xs : List (Nat × Int)} (hi : L[i]? = some (g, .cells (bs (blz N xs)) 5 (0, 0))) (j : Nat) (hj : j + 3 < N) (x : Int) (r0 : 0 ≤ x) (r1 : x ≤ 4294967295) :
    Calls Try.prog 81 #[.slice (some ⟨g, j, none⟩) 4 4, .int .u32 x] W fun e w' => e = .returned (.tuple #[]) ∧ Mem w w' (L.set i (g, .cells (bs (blz N (xs ++ [(j, x / 16777216), (j + 1, x / 65536 % 256), (j + 2, x / 256 % 256), (j + 3, x % 256)]))) 5 (0, 0))) := by
  have u1 : IntKind.u16.wrap (x / 65536) = x / 65536 := wrap16_small _ (by omega) (by omega)
  have u2 : IntKind.u16.wrap x = x % 65536 := by simp [IntKind.wrap, IntKind.bits, IntKind.signed]
  have hil := (List.getElem?_eq_some_iff.mp hi).1
  have p1 := tput_at hM i hi j (by omega) 2 (x / 65536) (by omega) (by omega)
  have HN : Hid (j + 3 < N) := hj
  have HI : Hid (i < L.length) := hil
  clear hj hil hM hi
  go_enter Try.func81, Try.ntmps81
  go_wp2_with fail
  refine p1.mono ?_
  rintro e w1 ⟨rfl, hM1⟩
  have p2 := tput_at hM1 i (List.getElem?_set_self HI.out) (j + 2) (by have := HN.out; omega) 2 (x % 65536) (by omega) (by omega)
  rw [List.set_set, List.append_assoc] at p2
  clear hM1 p1
  go_wp2_with fail
  refine p2.mono ?_
  rintro e w2 ⟨rfl, hM2⟩
  go_wp2
  go_end0
  refine ⟨rfl, ?_⟩
  rw [show x / 65536 / 256 = x / 16777216 by omega, show x % 65536 / 256 = x / 256 % 256 by omega, show x % 65536 % 256 = x % 256 by omega] at hM2
  exact hM2
end Go.Proofs.Ytjalpbkfpjfigab

