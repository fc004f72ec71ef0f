/-
  What the document's own lychref1.TcpBytes answers, whatever it is handed.
  What icmp.Bytes answers: the message's bytes in a row of the call's own, or the error.
  What the document's own lychref1.IcmpBytes answers, whatever it is handed.
-/
import Derived.Test.YtjalpbkfpjfigaaGreatM10
import Derived.Test.YtjalpbkfpjfigaaGreatM08
import Derived.Test.YtjalpbkfpjfigaaGreatM09
namespace Go.Proofs.YtjalpbkfpjfigaaGreat
open Go.RowKit
open Sm
set_option linter.unusedVariables false

set_option maxRecDepth 20000 in
set_option maxHeartbeats 4000000 in
theorem rtbytes_ok {w : World} {ao bo : Option Addr} {opts body : List Int} (hro : Row w ao opts) (hrb : Row w bo body) (o co m cb n hd : Nat) (ho : opts.length = o) (hm : body.length = m) (h4 : o % 4 = 0) (h40 : o ≤ 40) (hn : n = 20 + o + m) (hhd : hd = 20 + o) (h1 : n ≤ 65515) (hno : ao = none → co = 0) (hnb : bo = none → cb = 0) (s d sq ak fl wi c ur : Int)
    (hs : 0 ≤ s ∧ s ≤ 65535) (hd' : 0 ≤ d ∧ d ≤ 65535) (hsq : 0 ≤ sq ∧ sq ≤ 4294967295) (hak : 0 ≤ ak ∧ ak ≤ 4294967295) (hfl : 0 ≤ fl ∧ fl ≤ 255) (hwi : 0 ≤ wi ∧ wi ≤ 65535) (hc : 0 ≤ c ∧ c ≤ 65535) (hur : 0 ≤ ur ∧ ur ≤ 65535) :
    Calls Tryz.prog 36 #[.agg (tcA s d sq ak fl wi c ur (.slice ao o co) (.slice bo m cb))] w fun e w' => ∃ u, e = .returned (.tuple #[u, .int .i64 0]) ∧
      w'.ownsRow w.heap.size 5 1 u n ((tc20 hd s d sq ak fl wi c ur ++ opts ++ body).map (Value.int .u8)) ∧ Below w.heap.size w w' := by
  have HR : Hid (Row w ao opts ∧ Row w bo body ∧ opts.length = o ∧ body.length = m ∧ n = 20 + o + m ∧ hd = 20 + o ∧ n ≤ 65515 ∧ o ≤ 40 ∧ (ao = none → co = 0) ∧ (bo = none → cb = 0)) := ⟨hro, hrb, ho, hm, hn, hhd, h1, h40, hno, hnb⟩
  have H : Hid ((0 ≤ s ∧ s ≤ 65535) ∧ (0 ≤ d ∧ d ≤ 65535) ∧ (0 ≤ sq ∧ sq ≤ 4294967295) ∧ (0 ≤ ak ∧ ak ≤ 4294967295) ∧ (0 ≤ fl ∧ fl ≤ 255) ∧ (0 ≤ wi ∧ wi ≤ 65535) ∧ (0 ≤ c ∧ c ≤ 65535) ∧ 0 ≤ ur ∧ ur ≤ 65535) := ⟨hs, hd', hsq, hak, hfl, hwi, hc, hur⟩
  have o4 : (o : Int) % 4 = 0 := by omega
  have o40 : (o : Int) ≤ 40 := by omega
  have eh : 20 + (o : Int) = hd := by omega
  have mb : (m : Int) ≤ 65515 - hd := by omega
  have hdb : (hd : Int) ≤ 60 := by omega
  have q1 : IntKind.u8.wrap ((hd : Int) / 4) = (hd : Int) / 4 := wrap8_small _ (by omega) (by omega)
  have q2 : IntKind.u8.wrap ((hd : Int) / 4 * 16) = (hd : Int) / 4 * 16 := wrap8_small _ (by omega) (by omega)
  have q3 : IntKind.i64.wrap ((hd : Int) / 4) = (hd : Int) / 4 := wrap64_small _ (by omega) (by omega)
  have HB2 : Hid (IsBytes [(hd : Int) / 4 * 16, fl]) := bytes_two (by omega) (by omega) (by omega) (by omega)
  clear hro hrb ho hm h4 h40 hn hhd h1 hs hd' hsq hak hfl hwi hc hur hno hnb
  go_enter Tryz.func36, Tryz.ntmps36
  go_upto_region 6 with fail
  refine wp_letter (fun W => Inv tcT w W (tcA s d sq ak fl wi c ur (.slice ao o co) (.slice bo m cb)) (.slice none 0 0) 0 []) (inv_nil ((Mem.nil w).push w.heap.size _ rfl)) ?_
  intro w1 hI1
  have HI1 : Hid _ := hI1
  have D0 : w1.cell? ⟨w.heap.size, 0, none⟩ = some (.int .u16 s) := hI1.cell 0
  have D1 : w1.cell? ⟨w.heap.size, 1, none⟩ = some (.int .u16 d) := hI1.cell 1
  have D2 : w1.cell? ⟨w.heap.size, 2, none⟩ = some (.int .u32 sq) := hI1.cell 2
  have D3 : w1.cell? ⟨w.heap.size, 3, none⟩ = some (.int .u32 ak) := hI1.cell 3
  clear hI1
  go_cut [5] from 6 (fun s5 wx => Inv tcT w wx (tcA s d sq ak fl wi c ur (.slice ao o co) (.slice bo m cb)) s5 12 [s / 256, s % 256, d / 256, d % 256, sq / 16777216, sq / 65536 % 256, sq / 256 % 256, sq % 256, ak / 16777216, ak / 65536 % 256, ak / 256 % 256, ak % 256])
  case first =>
    go_region_held3 (fun w' => w'.cell? ⟨w.heap.size, 0, none⟩ = some (.int .u16 s) ∧ w'.cell? ⟨w.heap.size, 1, none⟩ = some (.int .u16 d) ∧ w'.cell? ⟨w.heap.size, 2, none⟩ = some (.int .u32 sq) ∧ w'.cell? ⟨w.heap.size, 3, none⟩ = some (.int .u32 ak))
      (first | go_keep | exact ⟨hI5.cell 0, hI5.cell 1, hI5.cell 2, hI5.cell 3⟩ | exact ⟨hI6.cell 0, hI6.cell 1, hI6.cell 2, hI6.cell 3⟩ | exact ⟨hI7.cell 0, hI7.cell 1, hI7.cell 2, hI7.cell 3⟩ | exact ⟨hI8.cell 0, hI8.cell 1, hI8.cell 2, hI8.cell 3⟩)
      (first
        | (go_at_call 52; with_reducible refine (put16_inv HI1.out.drew (by omega) s H.out.1.1 H.out.1.2).mono ?_; rintro e w5 ⟨v5, rfl, hI5⟩)
        | (go_at_call 52; with_reducible refine (put16_inv hI5 (by omega) d H.out.2.1.1 H.out.2.1.2).mono ?_; rintro e w6 ⟨v6, rfl, hI6⟩)
        | (go_at_call 53; with_reducible refine (put32_inv hI6 (by omega) sq H.out.2.2.1.1 H.out.2.2.1.2).mono ?_; rintro e w7 ⟨v7, rfl, hI7⟩)
        | (go_at_call 53; with_reducible refine (put32_inv hI7 (by omega) ak H.out.2.2.2.1.1 H.out.2.2.2.1.2).mono ?_; rintro e w8 ⟨v8, rfl, hI8⟩))
    all_goals
      go_wp2_with fail
      go_meet
      case rel => exact hI8
  case rest =>
  have HI2 : Hid _ := hcut
  have D4 : wc.cell? ⟨w.heap.size, 4, none⟩ = some (.int .u8 fl) := hcut.cell 4
  have D5 : wc.cell? ⟨w.heap.size, 5, none⟩ = some (.int .u16 wi) := hcut.cell 5
  clear hcut D0 D1 D2 D3 HI1
  go_upto_region 7 with fail
  go_cut [5] from 6 (fun s5 wx => Inv tcT w wx (tcA s d sq ak fl wi c ur (.slice ao o co) (.slice bo m cb)) s5 16 [s / 256, s % 256, d / 256, d % 256, sq / 16777216, sq / 65536 % 256, sq / 256 % 256, sq % 256, ak / 16777216, ak / 65536 % 256, ak / 256 % 256, ak % 256, (hd : Int) / 4 * 16, fl, wi / 256, wi % 256])
  case first =>
    go_region_held3 (fun w' => w'.cell? ⟨w.heap.size, 4, none⟩ = some (.int .u8 fl) ∧ w'.cell? ⟨w.heap.size, 5, none⟩ = some (.int .u16 wi))
      (first | go_keep | exact ⟨hI6.cell 4, hI6.cell 5⟩ | exact ⟨hI7.cell 4, hI7.cell 5⟩ | exact ⟨(HI2.out.grows _).cell 4, (HI2.out.grows _).cell 5⟩)
      (first
        | (refine step_append_bytes rfl (.tmp 39) (.tmp 46) rfl (w.heap.size + 1) _ 12 _ (by simp [Act.eval]) (HI2.out.drew.grows _).own (some ⟨wc.heap.size, 0, none⟩) 2 2 [(hd : Int) / 4 * 16, fl] (by simp [Act.eval]) rfl (fun e => by cases e) (row_lit wc.drew _ HB2.out (by simp) 5) (by omega) (HI2.out.drew.grows _).size ?_; intro v6 w6 hown6 hbel6; have hI6 : Inv tcT w w6 (tcA s d sq ak fl wi c ur (.slice ao o co) (.slice bo m cb)) v6 14 [s / 256, s % 256, d / 256, d % 256, sq / 16777216, sq / 65536 % 256, sq / 256 % 256, sq % 256, ak / 16777216, ak / 65536 % 256, ak / 256 % 256, ak % 256, (hd : Int) / 4 * 16, fl] := (HI2.out.drew.grows _).next hown6 hbel6)
        | (go_at_call 52; with_reducible refine (put16_inv hI6 (by omega) wi H.out.2.2.2.2.2.1.1 H.out.2.2.2.2.2.1.2).mono ?_; rintro e w7 ⟨v7, rfl, hI7⟩))
    all_goals
      go_wp2_with fail
      go_meet
      case rel => exact hI7
  case rest =>
  have HI3 : Hid _ := hcut
  have D6 : wc.cell? ⟨w.heap.size, 6, none⟩ = some (.int .u16 c) := hcut.cell 6
  have D7 : wc.cell? ⟨w.heap.size, 7, none⟩ = some (.int .u16 ur) := hcut.cell 7
  clear hcut D4 D5 HI2
  go_upto_region 8 with fail
  go_cut [5] from 6 (fun s5 wx => Inv tcT w wx (tcA s d sq ak fl wi c ur (.slice ao o co) (.slice bo m cb)) s5 20 (tc20 hd s d sq ak fl wi c ur))
  case first =>
    go_region_held3 (fun w' => w'.cell? ⟨w.heap.size, 6, none⟩ = some (.int .u16 c) ∧ w'.cell? ⟨w.heap.size, 7, none⟩ = some (.int .u16 ur))
      (first | go_keep | exact ⟨hI5.cell 6, hI5.cell 7⟩ | exact ⟨hI6.cell 6, hI6.cell 7⟩)
      (first
        | (go_at_call 52; with_reducible refine (put16_inv HI3.out.drew (by omega) c H.out.2.2.2.2.2.2.1.1 H.out.2.2.2.2.2.2.1.2).mono ?_; rintro e w5 ⟨v5, rfl, hI5⟩)
        | (go_at_call 52; with_reducible refine (put16_inv hI5 (by omega) ur H.out.2.2.2.2.2.2.2.1 H.out.2.2.2.2.2.2.2.2).mono ?_; rintro e w6 ⟨v6, rfl, hI6⟩))
    all_goals
      go_wp2_with fail
      go_meet
      case rel => exact hI6
  case rest =>
  have HI4 : Hid _ := hcut
  have D8 : wc.cell? ⟨w.heap.size, 8, none⟩ = some (.slice ao o co) := hcut.cell 8
  have D9 : wc.cell? ⟨w.heap.size, 9, none⟩ = some (.slice bo m cb) := hcut.cell 9
  clear hcut D6 D7 HI3
  go_upto_region 9 with fail
  go_region_held3 (fun w' => w'.cell? ⟨w.heap.size, 8, none⟩ = some (.slice ao o co) ∧ w'.cell? ⟨w.heap.size, 9, none⟩ = some (.slice bo m cb))
    (first | go_keep | exact ⟨hI6.cell 8, hI6.cell 9⟩ | exact ⟨hI7.cell 8, hI7.cell 9⟩)
    (first
      | (refine step_append_bytes rfl (.tmp 58) (.tmp 60) rfl (w.heap.size + 1) _ 20 _ (by simp [Act.eval]) HI4.out.drew.own ao co o opts (by simp [Act.eval]) HR.out.2.2.1 HR.out.2.2.2.2.2.2.2.2.1 (HI4.out.drew.mem.row HR.out.1) (by have := HR.out; omega) HI4.out.drew.size ?_; intro v6 w6 hown6 hbel6; have hI6 : Inv tcT w w6 (tcA s d sq ak fl wi c ur (.slice ao o co) (.slice bo m cb)) v6 (20 + o) (tc20 hd s d sq ak fl wi c ur ++ opts) := HI4.out.drew.next (by rw [List.map_append]; exact hown6) hbel6)
      | (refine step_append_bytes rfl (.tmp 61) (.tmp 63) rfl (w.heap.size + 1) v6 (20 + o) _ (by simp [Act.eval]) hI6.own bo cb m body (by simp [Act.eval]) HR.out.2.2.2.1 HR.out.2.2.2.2.2.2.2.2.2 (hI6.mem.row HR.out.2.1) (by have := HR.out; omega) hI6.size ?_; intro v7 w7 hown7 hbel7; have hI7 : Inv tcT w w7 (tcA s d sq ak fl wi c ur (.slice ao o co) (.slice bo m cb)) v7 (20 + o + m) (tc20 hd s d sq ak fl wi c ur ++ opts ++ body) := hI6.next (by rw [List.map_append]; exact hown7) hbel7))
  have HI7 : Hid _ := hI7
  clear hI6 hI7 hown6 hown7 hbel6 hbel7
  go_wp2_with fail
  go_ret2
  exact ⟨_, rfl, by rw [HR.out.2.2.2.2.1]; exact own_base HI7.out.own (Nat.le_succ _), HI7.out.mem.below⟩

set_option maxHeartbeats 1000000 in
theorem rtbytes_form (w : World) (o co : Nat) (ao : Option Addr) (v : Value) (h : o % 4 ≠ 0 ∨ 40 < o) (hl : o ≤ 9223372036854775807) (s d sq ak fl wi c ur : Int) :
    Calls Tryz.prog 36 #[.agg (tcA s d sq ak fl wi c ur (.slice ao o co) v)] w fun e w' => e = .returned (.tuple #[.slice none 0 0, .int .i64 21]) ∧ Below w.heap.size w w' := by
  by_cases h4 : o % 4 = 0
  · have o4 : (o : Int) % 4 = 0 := by omega
    have o40 : (40 : Int) < o := by omega
    clear h
    go_enter Tryz.func36, Tryz.ntmps36
    go_wp2
    go_ret2
    exact ⟨rfl, (Below.refl _ _).alloc (Nat.le_refl _) _⟩
  · have o4 : ¬ (o : Int) % 4 = 0 := by omega
    have o4' : ((o : Int) % 4 == 0) = false := by simp; omega
    clear h
    go_enter Tryz.func36, Tryz.ntmps36
    go_wp2
    go_ret2
    exact ⟨rfl, (Below.refl _ _).alloc (Nat.le_refl _) _⟩

set_option maxHeartbeats 1000000 in
theorem rtbytes_big (w : World) (o co m cb : Nat) (ao bo : Option Addr) (h4 : o % 4 = 0) (h40 : o ≤ 40) (h : 65515 < 20 + o + m) (s d sq ak fl wi c ur : Int) :
    Calls Tryz.prog 36 #[.agg (tcA s d sq ak fl wi c ur (.slice ao o co) (.slice bo m cb))] w fun e w' => e = .returned (.tuple #[.slice none 0 0, .int .i64 23]) ∧ Below w.heap.size w w' := by
  have o4 : (o : Int) % 4 = 0 := by omega
  have o40 : (o : Int) ≤ 40 := by omega
  obtain ⟨hd, hh⟩ : ∃ hd : Nat, hd = 20 + o := ⟨_, rfl⟩
  have eh : 20 + (o : Int) = hd := by omega
  have mb : 65515 - (hd : Int) < m := by omega
  have hdb : (hd : Int) ≤ 60 := by omega
  clear h4 h40 h hh
  go_enter Tryz.func36, Tryz.ntmps36
  go_wp2
  go_ret2
  exact ⟨rfl, (Below.refl _ _).alloc (Nat.le_refl _) _⟩

/-- What lychref1.TcpBytes answers, whatever it is handed. -/
theorem rtbytes_any {w : World} {B : Nat} {v : Value} {q : Sg} (hq : q.Ok) (hv : TcV w B v q) :
    Calls Tryz.prog 36 #[v] w fun r w' => ∃ x, r = .returned (.tuple #[x, .int .i64 (tcbErr q)]) ∧ w'.ownsRow w.heap.size 5 1 x (tcOut q).length ((tcOut q).map (Value.int .u8)) ∧ Below w.heap.size w w' := by
  obtain ⟨ao, co, bo, cb, rfl, hro, hrb, hno, hnb, -, -⟩ := hv
  have l1 := hro.len
  by_cases h1 : q.opts.length % 4 ≠ 0 ∨ 40 < q.opts.length
  · have e : tcbErr q = 21 := by unfold tcbErr; rw [if_pos h1]
    have e2 : tcOut q = [] := by unfold tcOut; rw [e]; rfl
    rw [e, e2]
    refine (rtbytes_form w _ co ao _ h1 (by omega) _ _ _ _ _ _ _ _).mono ?_
    rintro r w' ⟨rfl, hb⟩
    exact ⟨_, rfl, World.ownsRow_nil _ _ _ _, hb⟩
  by_cases h2 : 65515 < 20 + q.opts.length + q.body.length
  · have e : tcbErr q = 23 := by unfold tcbErr; rw [if_neg h1, if_pos h2]
    have e2 : tcOut q = [] := by unfold tcOut; rw [e]; rfl
    rw [e, e2]
    refine (rtbytes_big w _ co _ cb ao bo (by omega) (by omega) h2 _ _ _ _ _ _ _ _).mono ?_
    rintro r w' ⟨rfl, hb⟩
    exact ⟨_, rfl, World.ownsRow_nil _ _ _ _, hb⟩
  · have e : tcbErr q = 0 := by unfold tcbErr; rw [if_neg h1, if_neg h2]
    have e2 : tcOut q = tcb q := if_pos e
    rw [e, e2, tcb_len]
    exact rtbytes_ok hro hrb _ co _ cb (tlen q) (20 + q.opts.length) rfl rfl (by omega) (by omega) rfl rfl (by unfold tlen; omega) hno hnb q.src q.dst q.seq q.ack q.flags q.win q.sum q.urg hq.src hq.dst hq.seq hq.ack hq.flags hq.win hq.sum hq.urg
end Go.Proofs.YtjalpbkfpjfigaaGreat

namespace Go.Proofs.YtjalpbkfpjfigaaGreat
open Go.RowKit
open Sm
set_option linter.unusedVariables false

theorem blz_mg8 (n m : Nat) (h : n = 8 + m) (t k c r : Int) : blz n [(0, t), (1, k), (2, c / 256), (3, c % 256), (4, r / 16777216), (5, r / 65536 % 256), (6, r / 256 % 256), (7, r % 256)] = mg8 t k c r ++ List.replicate m 0 := by
  have e : List.replicate n (0 : Int) = List.replicate 8 0 ++ List.replicate m 0 := by rw [h, List.replicate_append_replicate]
  unfold blz
  rw [e]
  generalize List.replicate m (0 : Int) = R
  simp only [List.foldl_cons, List.foldl_nil, List.replicate, List.cons_append, List.nil_append, List.set_cons_zero, List.set_cons_succ, mg8]

set_option maxRecDepth 20000 in
set_option maxHeartbeats 2000000 in
theorem mbytes_ok {w : World} {a : Option Addr} {body : List Int} (hr : Row w a body) (m cb n : Nat) (hm : body.length = m) (h1 : m ≤ 65507) (hn : n = 8 + m) (t k c r : Int) (ht : 0 ≤ t ∧ t ≤ 255) (hk : 0 ≤ k ∧ k ≤ 255) (hc : 0 ≤ c ∧ c ≤ 65535) (hrr : 0 ≤ r ∧ r ≤ 4294967295) :
    Calls Tryz.prog 89 #[.agg (mgA t k c r (.slice a m cb))] w fun e w' => e = .returned (.tuple #[.slice (some ⟨w.heap.size + 1, 0, none⟩) n n, .int .i64 0]) ∧
      w'.ownsRow w.heap.size 5 1 (.slice (some ⟨w.heap.size + 1, 0, none⟩) n n) n ((mg8 t k c r ++ body).map (Value.int .u8)) ∧ Below w.heap.size w w' := by
  have HR : Hid (Row w a body ∧ body.length = m ∧ n = 8 + m ∧ m ≤ 65507 ∧ (0 ≤ t ∧ t ≤ 255) ∧ (0 ≤ k ∧ k ≤ 255) ∧ (0 ≤ c ∧ c ≤ 65535) ∧ 0 ≤ r ∧ r ≤ 4294967295) := ⟨hr, hm, hn, h1, ht, hk, hc, hrr⟩
  have hmi : (m : Int) ≤ 65507 := by omega
  have hni : 8 + (m : Int) = n := by omega
  have hnb : (n : Int) ≤ 65515 := by omega
  have hn0 : (0 : Int) < n := by omega
  have hn0' : 0 < n := by omega
  have hn1 : (1 : Int) < n := by omega
  have hn4 : (4 : Int) ≤ n := by omega
  have hn8 : (8 : Int) ≤ n := by omega
  have hn44 : (4 : Int) ≤ ((n - 4 : Nat) : Int) := by omega
  have n2 : ¬ n = 2 := by omega
  have n4 : ¬ n = 4 := by omega
  have hnm : n - 8 = m := by omega
  have hmk := make_bytes n (by omega)
  clear hr hm ht hk hc hrr hn h1
  go_enter Tryz.func89, Tryz.ntmps89
  go_upto_region 4 with fail
  refine wp_letter (fun W => Mem w W [(w.heap.size, .cells (mgA t k c r (.slice a m cb)) mgT), (w.heap.size + 1, .cells (bs (blz n [])) 5)]) (by rw [show bs (blz n []) = madeCells #[Value.int .u8 0] n from (bs_made n).symm]; exact ((Mem.nil w).push w.heap.size _ rfl).push (w.heap.size + 1) _ (by simp)) ?_
  intro w1 hM1
  have HM1 : Hid _ := hM1
  have k0 : w1.cell? ⟨w.heap.size, 0, none⟩ = some (.int .u8 t) := hM1.cell 0 rfl 0
  obtain ⟨z0, y0⟩ := hM1.spot 1 rfl 0 (by omega)
  have kf : ∀ i, w1.frozen? ⟨w.heap.size + 1, i, none⟩ = false := hM1.free 1 rfl
  clear hM1
  go_upto_region 5 with fail
  refine wp_letter (fun W => Mem w W [(w.heap.size, .cells (mgA t k c r (.slice a m cb)) mgT), (w.heap.size + 1, .cells (bs (blz n [(0, t)])) 5)]) (HM1.out.put 1 rfl 0 t) ?_
  intro w2 hM2
  have HM2 : Hid _ := hM2
  clear HM1 k0 y0 kf
  have k1 : w2.cell? ⟨w.heap.size, 1, none⟩ = some (.int .u8 k) := hM2.cell 0 rfl 1
  obtain ⟨z1, y1⟩ := hM2.spot 1 rfl 1 (by omega)
  have kf : ∀ i, w2.frozen? ⟨w.heap.size + 1, i, none⟩ = false := hM2.free 1 rfl
  clear hM2
  go_upto_region 6 with fail
  refine wp_letter (fun W => Mem w W [(w.heap.size, .cells (mgA t k c r (.slice a m cb)) mgT), (w.heap.size + 1, .cells (bs (blz n [(0, t), (1, k)])) 5)]) (HM2.out.put 1 rfl 1 k) ?_
  intro w3 hM3
  have HM3 : Hid _ := hM3
  clear HM2 k1 y1 kf
  have k2 : w3.cell? ⟨w.heap.size, 2, none⟩ = some (.int .u16 c) := hM3.cell 0 rfl 2
  have p1 := mput_at hM3.drew 1 rfl 2 (by have := HR.out; omega) (n - 2) c HR.out.2.2.2.2.2.2.1.1 HR.out.2.2.2.2.2.2.1.2
  clear hM3
  go_cut [] from 5 (fun wx => Mem w wx [(w.heap.size, .cells (mgA t k c r (.slice a m cb)) mgT), (w.heap.size + 1, .cells (bs (blz n [(0, t), (1, k), (2, c / 256), (3, c % 256)])) 5)])
  case first =>
    go_region_held3 (fun w' => w'.cell? ⟨w.heap.size, 2, none⟩ = some (.int .u16 c)) (first | go_keep | exact hM5.cell 0 rfl 2)
      (first | (go_at_call 115; refine p1.mono ?_; rintro e w5 ⟨rfl, hM5⟩))
    all_goals
      go_wp2_with fail
      go_meet
      case rel => exact hM5
  case rest =>
  have HM4 : Hid _ := hcut
  have k3 : wc.cell? ⟨w.heap.size, 3, none⟩ = some (.int .u32 r) := hcut.cell 0 rfl 3
  have p2 := mputLong_at hcut.drew 1 rfl 4 (by have := HR.out; omega) (n - 4) hn44 r HR.out.2.2.2.2.2.2.2.1 HR.out.2.2.2.2.2.2.2.2
  clear hcut HM3 k2 p1
  go_upto_region 7 with fail
  go_cut [] from 5 (fun wx => Mem w wx [(w.heap.size, .cells (mgA t k c r (.slice a m cb)) mgT), (w.heap.size + 1, .cells (bs (mg8 t k c r ++ List.replicate m 0)) 5)])
  case first =>
    go_region_held3 (fun w' => w'.cell? ⟨w.heap.size, 3, none⟩ = some (.int .u32 r)) (first | go_keep | exact hM5.cell 0 rfl 3)
      (first | (go_at_call 116; refine p2.mono ?_; rintro e w5 ⟨rfl, hM5⟩))
    all_goals
      go_wp2_with fail
      go_meet
      case rel => rw [← blz_mg8 n m HR.out.2.2.1]; exact hM5
  case rest =>
  have HM5 : Hid _ := hcut
  have k4 : wc.cell? ⟨w.heap.size, 4, none⟩ = some (.slice a m cb) := hcut.cell 0 rfl 4
  clear hcut HM4 k3 p2
  go_upto_region 8 with fail
  go_cut [0, 4] from 5 (fun s0 s4 wx => s4 = .slice (some ⟨w.heap.size + 1, 0, none⟩) n n ∧ Mem w wx [(w.heap.size, .cells (mgA t k c r (.slice a m cb)) mgT), (w.heap.size + 1, .cells (bs (mg8 t k c r ++ body)) 5)])
  case first =>
    have HRb := HM5.out.drew.row HR.out.1
    have HE : Hid _ := bs_tail (mg8 t k c r) body 8 m rfl HR.out.2.1
    have HF : Hid (8 + body.length ≤ (bs (mg8 t k c r ++ List.replicate m 0)).size) := by
      show _ ≤ _
      rw [bs_size, List.length_append, List.length_replicate, HR.out.2.1]; exact Nat.le_refl _
    by_cases hm0 : m = 0
    · have hn0 : n = 8 := by have := HR.out; omega
      have hbn : body = [] := List.eq_nil_of_length_eq_zero (by rw [HR.out.2.1]; exact hm0)
      go_region_law (refine step_copy_bytes rfl (.tmp 33) (.tmp 35) 22 22 rfl Tryz.underlying22 (some ⟨w.heap.size + 1, 0, none⟩) a 0 0 0 cb (by simp [Act.eval]) (by simp [Act.eval]) (w.heap.size + 1) 8 _ (bs (mg8 t k c r ++ body)) 5 (HM5.out.drew.get 1 rfl) body (by rw [hbn]; rfl) (fun hp => by rw [hbn] at hp; simp at hp) HF.out HE.out ?_; intro w5 hw5)
      all_goals
        go_wp2_with fail
        go_meet
        case rel => exact ⟨by rw [hn0], HM5.out.drew.wrote 1 rfl hw5⟩
    · have hn0 : (8 : Int) < n := by omega
      have hn1 : ¬ n = 8 := by omega
      have HP : Hid (0 < body.length → some (⟨w.heap.size + 1, 8, none⟩ : Addr) = some ⟨w.heap.size + 1, 8, none⟩ ∧ ∃ ad, a = some ad ∧ ∀ j v, (body.map (Value.int .u8))[j]? = some v → wc.drew.cell? (ad.add j) = some v) := by
        intro hp
        have hc := HRb.cells
        rcases hc with e | ⟨b, off, rfl, hc⟩
        · subst e; simp at hp
        · exact ⟨rfl, _, rfl, HRb.news⟩
      clear HRb
      go_region_law (refine step_copy_bytes rfl (.tmp 33) (.tmp 35) 22 22 rfl Tryz.underlying22 (some ⟨w.heap.size + 1, 8, none⟩) a m m m cb (by simp [Act.eval]) (by simp [Act.eval]) (w.heap.size + 1) 8 _ (bs (mg8 t k c r ++ body)) 5 (HM5.out.drew.get 1 rfl) body (by rw [HR.out.2.1]; exact (Nat.min_self m).symm) HP.out HF.out HE.out ?_; intro w5 hw5)
      all_goals
        go_wp2_with fail
        go_meet
        case rel => exact ⟨rfl, HM5.out.drew.wrote 1 rfl hw5⟩
  case rest =>
  obtain ⟨rfl, hM6⟩ := hcut
  have HM6 : Hid _ := hM6
  clear hM6 HM5
  go_wp2_with fail
  go_ret2
  exact ⟨rfl, mem_owns HM6.out 1 rfl n (by rw [List.length_append, HR.out.2.1, HR.out.2.2.1]; rfl) (by omega), HM6.out.below⟩

set_option maxHeartbeats 400000 in
theorem mbytes_big (w : World) (a : Option Addr) (m cb : Nat) (h1 : 65507 < m) (t k c r : Int) :
    Calls Tryz.prog 89 #[.agg (mgA t k c r (.slice a m cb))] w fun e w' => e = .returned (.tuple #[.slice none 0 0, .int .i64 23]) ∧ Below w.heap.size w w' := by
  have h' : (65507 : Int) < m := by omega
  go_enter Tryz.func89, Tryz.ntmps89
  go_wp2
  go_ret2
  exact ⟨rfl, (Below.refl _ _).alloc (Nat.le_refl _) _⟩

/-- What icmp.Bytes answers, whatever it is handed. -/
theorem mbytes_any {w : World} {B : Nat} {v : Value} {q : Mg} (hq : q.Ok) (hv : MgV w B v q) :
    Calls Tryz.prog 89 #[v] w fun r w' => ∃ x, r = .returned (.tuple #[x, .int .i64 (mgbErr q)]) ∧ w'.ownsRow w.heap.size 5 1 x (mgOut q).length ((mgOut q).map (Value.int .u8)) ∧ Below w.heap.size w w' := by
  obtain ⟨bo, cb, rfl, hr, -, -⟩ := hv
  by_cases h : 65507 < q.body.length
  · have e : mgbErr q = 23 := by unfold mgbErr; rw [if_pos h]
    have e2 : mgOut q = [] := by unfold mgOut; rw [e]; rfl
    rw [e, e2]
    refine (mbytes_big w bo _ cb h _ _ _ _).mono ?_
    rintro r w' ⟨rfl, hb⟩
    exact ⟨_, rfl, World.ownsRow_nil _ _ _ _, hb⟩
  · have e : mgbErr q = 0 := by unfold mgbErr; rw [if_neg h]
    have e2 : mgOut q = mgb q := if_pos e
    rw [e, e2, mgb_len]
    refine (mbytes_ok hr _ cb (mlen q) rfl (by omega) rfl q.typ q.code q.sum q.rest hq.typ hq.code hq.sum hq.rest).mono ?_
    rintro r w' ⟨rfl, ho, hb⟩
    exact ⟨_, rfl, ho, hb⟩
end Go.Proofs.YtjalpbkfpjfigaaGreat

namespace Go.Proofs.YtjalpbkfpjfigaaGreat
open Go.RowKit
open Sm
set_option linter.unusedVariables false

/-- Two bytes that were just laid, as the row that grows. -/
theorem inv_two {T : TypeId} {w W : World} {pA : Array Value} {v : Value} {n : Nat} {L : List Int} (h : Inv T w W pA v n L) (x y : Int) {g : Nat} (hg : g = W.heap.size) :
    Inv T w (W.alloc (.cells #[.int .u8 x, .int .u8 y] 5)) pA (.slice (some ⟨g, 0, none⟩) 2 2) 2 [x, y] := by
  subst hg
  refine h.next ?_ ((Below.refl _ _).alloc h.size _)
  have hM := (Mem.nil W).push W.heap.size (.cells (bs [x, y]) 5) rfl
  exact own_base (mem_owns hM 0 rfl 2 rfl (by omega)) h.size

set_option maxRecDepth 20000 in
set_option maxHeartbeats 4000000 in
theorem rmbytes_ok {w : World} {a : Option Addr} {body : List Int} (hr : Row w a body) (m cb n : Nat) (hm : body.length = m) (h1 : m ≤ 65507) (hn : n = 8 + m) (hnil : a = none → cb = 0) (t k c r : Int) (ht : 0 ≤ t ∧ t ≤ 255) (hk : 0 ≤ k ∧ k ≤ 255) (hc : 0 ≤ c ∧ c ≤ 65535) (hrr : 0 ≤ r ∧ r ≤ 4294967295) :
    Calls Tryz.prog 26 #[.agg (mgA t k c r (.slice a m cb))] w fun e w' => ∃ u, e = .returned (.tuple #[u, .int .i64 0]) ∧
      w'.ownsRow w.heap.size 5 1 u n ((mg8 t k c r ++ body).map (Value.int .u8)) ∧ Below w.heap.size w w' := by
  have HR : Hid (Row w a body ∧ body.length = m ∧ n = 8 + m ∧ m ≤ 65507 ∧ (a = none → cb = 0)) := ⟨hr, hm, hn, h1, hnil⟩
  have H : Hid ((0 ≤ c ∧ c ≤ 65535) ∧ 0 ≤ r ∧ r ≤ 4294967295) := ⟨hc, hrr⟩
  have hmi : (m : Int) ≤ 65507 := by omega
  clear hr hm hn h1 hnil ht hk hc hrr
  go_enter Tryz.func26, Tryz.ntmps26
  go_upto_region 3 with fail
  refine wp_letter (fun W => Inv mgT w W (mgA t k c r (.slice a m cb)) (.slice none 0 0) 0 []) (inv_nil ((Mem.nil w).push w.heap.size _ rfl)) ?_
  intro w1 hI1
  have HI1 : Hid _ := hI1
  have D0 : w1.cell? ⟨w.heap.size, 0, none⟩ = some (.int .u8 t) := hI1.cell 0
  have D1 : w1.cell? ⟨w.heap.size, 1, none⟩ = some (.int .u8 k) := hI1.cell 1
  have D2 : w1.cell? ⟨w.heap.size, 2, none⟩ = some (.int .u16 c) := hI1.cell 2
  have D3 : w1.cell? ⟨w.heap.size, 3, none⟩ = some (.int .u32 r) := hI1.cell 3
  have D4 : w1.cell? ⟨w.heap.size, 4, none⟩ = some (.slice a m cb) := hI1.cell 4
  clear hI1
  go_region_held3 (fun w' => w'.cell? ⟨w.heap.size, 0, none⟩ = some (.int .u8 t) ∧ w'.cell? ⟨w.heap.size, 1, none⟩ = some (.int .u8 k) ∧ w'.cell? ⟨w.heap.size, 2, none⟩ = some (.int .u16 c) ∧ w'.cell? ⟨w.heap.size, 3, none⟩ = some (.int .u32 r) ∧ w'.cell? ⟨w.heap.size, 4, none⟩ = some (.slice a m cb))
    (first | go_keep | exact ⟨hI5.cell 0, hI5.cell 1, hI5.cell 2, hI5.cell 3, hI5.cell 4⟩ | exact ⟨hI6.cell 0, hI6.cell 1, hI6.cell 2, hI6.cell 3, hI6.cell 4⟩ | exact ⟨hI7.cell 0, hI7.cell 1, hI7.cell 2, hI7.cell 3, hI7.cell 4⟩ | exact ⟨(HI1.out.grows _).cell 0, (HI1.out.grows _).cell 1, (HI1.out.grows _).cell 2, (HI1.out.grows _).cell 3, (HI1.out.grows _).cell 4⟩)
    (first
      | (go_at_call 52; with_reducible refine (put16_inv (inv_two HI1.out t k (g := w1.heap.size) rfl).drew (by omega) c H.out.1.1 H.out.1.2).mono ?_; rintro e w5 ⟨v5, rfl, hI5⟩)
      | (go_at_call 53; with_reducible refine (put32_inv hI5 (by omega) r H.out.2.1 H.out.2.2).mono ?_; rintro e w6 ⟨v6, rfl, hI6⟩)
      | (refine step_append_bytes rfl (.tmp 18) (.tmp 20) rfl (w.heap.size + 1) v6 8 _ (by simp [Act.eval]) hI6.own a cb m body (by simp [Act.eval]) HR.out.2.1 HR.out.2.2.2.2 (hI6.mem.row HR.out.1) (by have := HR.out; omega) hI6.size ?_; intro v7 w7 hown7 hbel7; have hI7 : Inv mgT w w7 (mgA t k c r (.slice a m cb)) v7 (8 + m) (mg8 t k c r ++ body) := hI6.next (by rw [List.map_append]; exact hown7) hbel7))
  all_goals
    have HI7 : Hid _ := hI7
    clear hI5 hI6 hI7 hown7 hbel7
    go_wp2_with fail
    go_ret2
    exact ⟨_, rfl, by rw [HR.out.2.2.1]; exact own_base HI7.out.own (Nat.le_succ _), HI7.out.mem.below⟩

set_option maxHeartbeats 400000 in
theorem rmbytes_big (w : World) (a : Option Addr) (m cb : Nat) (h1 : 65507 < m) (t k c r : Int) :
    Calls Tryz.prog 26 #[.agg (mgA t k c r (.slice a m cb))] w fun e w' => e = .returned (.tuple #[.slice none 0 0, .int .i64 23]) ∧ Below w.heap.size w w' := by
  have h' : (65507 : Int) < m := by omega
  go_enter Tryz.func26, Tryz.ntmps26
  go_wp2
  go_ret2
  exact ⟨rfl, (Below.refl _ _).alloc (Nat.le_refl _) _⟩

/-- What lychref1.IcmpBytes answers, whatever it is handed. -/
theorem rmbytes_any {w : World} {B : Nat} {v : Value} {q : Mg} (hq : q.Ok) (hv : MgV w B v q) :
    Calls Tryz.prog 26 #[v] w fun r w' => ∃ x, r = .returned (.tuple #[x, .int .i64 (mgbErr q)]) ∧ w'.ownsRow w.heap.size 5 1 x (mgOut q).length ((mgOut q).map (Value.int .u8)) ∧ Below w.heap.size w w' := by
  obtain ⟨bo, cb, rfl, hr, hnil, -⟩ := hv
  by_cases h : 65507 < q.body.length
  · have e : mgbErr q = 23 := by unfold mgbErr; rw [if_pos h]
    have e2 : mgOut q = [] := by unfold mgOut; rw [e]; rfl
    rw [e, e2]
    refine (rmbytes_big w bo _ cb h _ _ _ _).mono ?_
    rintro r w' ⟨rfl, hb⟩
    exact ⟨_, rfl, World.ownsRow_nil _ _ _ _, hb⟩
  · have e : mgbErr q = 0 := by unfold mgbErr; rw [if_neg h]
    have e2 : mgOut q = mgb q := if_pos e
    rw [e, e2, mgb_len]
    exact rmbytes_ok hr _ cb (mlen q) rfl (by omega) rfl hnil q.typ q.code q.sum q.rest hq.typ hq.code hq.sum hq.rest
end Go.Proofs.YtjalpbkfpjfigaaGreat

