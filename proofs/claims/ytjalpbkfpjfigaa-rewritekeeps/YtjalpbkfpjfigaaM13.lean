/-
  What the document's own lychref1.TcpBytes answers, whatever it is handed.
  The statements' seat: what lychseat.Addr, inside, outside, proto and port answer.
-/
import Derived.Test.YtjalpbkfpjfigaaM10
import Derived.Test.YtjalpbkfpjfigaaM08
namespace Go.Proofs.Ytjalpbkfpjfigaa
open Go.RowKit
open Sm
set_option linter.unusedVariables false

set_option maxRecDepth 20000 in
set_option maxHeartbeats 4000000 in
theorem rtbytes_ok {w : World} {ao bo : Option Addr} {opts body : List Int} (hro : Row w ao opts) (hrb : Row w bo body) (o co m cb n hd : Nat) (ho : opts.length = o) (hm : body.length = m) (h4 : o % 4 = 0) (h40 : o ≤ 40) (hn : n = 20 + o + m) (hhd : hd = 20 + o) (h1 : n ≤ 65515) (hno : ao = none → co = 0) (hnb : bo = none → cb = 0) (s d sq ak fl wi c ur : Int)
    (hs : 0 ≤ s ∧ s ≤ 65535) (hd' : 0 ≤ d ∧ d ≤ 65535) (hsq : 0 ≤ sq ∧ sq ≤ 4294967295) (hak : 0 ≤ ak ∧ ak ≤ 4294967295) (hfl : 0 ≤ fl ∧ fl ≤ 255) (hwi : 0 ≤ wi ∧ wi ≤ 65535) (hc : 0 ≤ c ∧ c ≤ 65535) (hur : 0 ≤ ur ∧ ur ≤ 65535) :
    Calls Try.prog 48 #[.agg (tcA s d sq ak fl wi c ur (.slice ao o co) (.slice bo m cb))] w fun e w' => ∃ u, e = .returned (.tuple #[u, .int .i64 0]) ∧
      w'.ownsRow w.heap.size 5 1 u n ((tc20 hd s d sq ak fl wi c ur ++ opts ++ body).map (Value.int .u8)) ∧ Below w.heap.size w w' := by
  have HR : Hid (Row w ao opts ∧ Row w bo body ∧ opts.length = o ∧ body.length = m ∧ n = 20 + o + m ∧ hd = 20 + o ∧ n ≤ 65515 ∧ o ≤ 40 ∧ (ao = none → co = 0) ∧ (bo = none → cb = 0)) := ⟨hro, hrb, ho, hm, hn, hhd, h1, h40, hno, hnb⟩
  have H : Hid ((0 ≤ s ∧ s ≤ 65535) ∧ (0 ≤ d ∧ d ≤ 65535) ∧ (0 ≤ sq ∧ sq ≤ 4294967295) ∧ (0 ≤ ak ∧ ak ≤ 4294967295) ∧ (0 ≤ fl ∧ fl ≤ 255) ∧ (0 ≤ wi ∧ wi ≤ 65535) ∧ (0 ≤ c ∧ c ≤ 65535) ∧ 0 ≤ ur ∧ ur ≤ 65535) := ⟨hs, hd', hsq, hak, hfl, hwi, hc, hur⟩
  have o4 : (o : Int) % 4 = 0 := by omega
  have o40 : (o : Int) ≤ 40 := by omega
  have eh : 20 + (o : Int) = hd := by omega
  have mb : (m : Int) ≤ 65515 - hd := by omega
  have hdb : (hd : Int) ≤ 60 := by omega
  have q1 : IntKind.u8.wrap ((hd : Int) / 4) = (hd : Int) / 4 := wrap8_small _ (by omega) (by omega)
  have q2 : IntKind.u8.wrap ((hd : Int) / 4 * 16) = (hd : Int) / 4 * 16 := wrap8_small _ (by omega) (by omega)
  have q3 : IntKind.i64.wrap ((hd : Int) / 4) = (hd : Int) / 4 := wrap64_small _ (by omega) (by omega)
  have HB2 : Hid (IsBytes [(hd : Int) / 4 * 16, fl]) := bytes_two (by omega) (by omega) (by omega) (by omega)
  clear hro hrb ho hm h4 h40 hn hhd h1 hs hd' hsq hak hfl hwi hc hur hno hnb
  go_enter Try.func48, Try.ntmps48
  go_upto_region 6 with fail
  refine wp_letter (fun W => Inv tcT w W (tcA s d sq ak fl wi c ur (.slice ao o co) (.slice bo m cb)) (.slice none 0 0) 0 []) (inv_nil ((Mem.nil w).push w.heap.size _ rfl)) ?_
  intro w1 hI1
  have HI1 : Hid _ := hI1
  have D0 : w1.cell? ⟨w.heap.size, 0, none⟩ = some (.int .u16 s) := hI1.cell 0
  have D1 : w1.cell? ⟨w.heap.size, 1, none⟩ = some (.int .u16 d) := hI1.cell 1
  have D2 : w1.cell? ⟨w.heap.size, 2, none⟩ = some (.int .u32 sq) := hI1.cell 2
  have D3 : w1.cell? ⟨w.heap.size, 3, none⟩ = some (.int .u32 ak) := hI1.cell 3
  clear hI1
  go_cut [5] from 6 (fun s5 wx => Inv tcT w wx (tcA s d sq ak fl wi c ur (.slice ao o co) (.slice bo m cb)) s5 12 [s / 256, s % 256, d / 256, d % 256, sq / 16777216, sq / 65536 % 256, sq / 256 % 256, sq % 256, ak / 16777216, ak / 65536 % 256, ak / 256 % 256, ak % 256])
  case first =>
    go_region_held3 (fun w' => w'.cell? ⟨w.heap.size, 0, none⟩ = some (.int .u16 s) ∧ w'.cell? ⟨w.heap.size, 1, none⟩ = some (.int .u16 d) ∧ w'.cell? ⟨w.heap.size, 2, none⟩ = some (.int .u32 sq) ∧ w'.cell? ⟨w.heap.size, 3, none⟩ = some (.int .u32 ak))
      (first | go_keep | exact ⟨hI5.cell 0, hI5.cell 1, hI5.cell 2, hI5.cell 3⟩ | exact ⟨hI6.cell 0, hI6.cell 1, hI6.cell 2, hI6.cell 3⟩ | exact ⟨hI7.cell 0, hI7.cell 1, hI7.cell 2, hI7.cell 3⟩ | exact ⟨hI8.cell 0, hI8.cell 1, hI8.cell 2, hI8.cell 3⟩)
      (first
        | (go_at_call 42; with_reducible refine (put16_inv HI1.out.drew (by omega) s H.out.1.1 H.out.1.2).mono ?_; rintro e w5 ⟨v5, rfl, hI5⟩)
        | (go_at_call 42; with_reducible refine (put16_inv hI5 (by omega) d H.out.2.1.1 H.out.2.1.2).mono ?_; rintro e w6 ⟨v6, rfl, hI6⟩)
        | (go_at_call 43; with_reducible refine (put32_inv hI6 (by omega) sq H.out.2.2.1.1 H.out.2.2.1.2).mono ?_; rintro e w7 ⟨v7, rfl, hI7⟩)
        | (go_at_call 43; with_reducible refine (put32_inv hI7 (by omega) ak H.out.2.2.2.1.1 H.out.2.2.2.1.2).mono ?_; rintro e w8 ⟨v8, rfl, hI8⟩))
    all_goals
      go_wp2_with fail
      go_meet
      case rel => exact hI8
  case rest =>
  have HI2 : Hid _ := hcut
  have D4 : wc.cell? ⟨w.heap.size, 4, none⟩ = some (.int .u8 fl) := hcut.cell 4
  have D5 : wc.cell? ⟨w.heap.size, 5, none⟩ = some (.int .u16 wi) := hcut.cell 5
  clear hcut D0 D1 D2 D3 HI1
  go_upto_region 7 with fail
  go_cut [5] from 6 (fun s5 wx => Inv tcT w wx (tcA s d sq ak fl wi c ur (.slice ao o co) (.slice bo m cb)) s5 16 [s / 256, s % 256, d / 256, d % 256, sq / 16777216, sq / 65536 % 256, sq / 256 % 256, sq % 256, ak / 16777216, ak / 65536 % 256, ak / 256 % 256, ak % 256, (hd : Int) / 4 * 16, fl, wi / 256, wi % 256])
  case first =>
    go_region_held3 (fun w' => w'.cell? ⟨w.heap.size, 4, none⟩ = some (.int .u8 fl) ∧ w'.cell? ⟨w.heap.size, 5, none⟩ = some (.int .u16 wi))
      (first | go_keep | exact ⟨hI6.cell 4, hI6.cell 5⟩ | exact ⟨hI7.cell 4, hI7.cell 5⟩ | exact ⟨(HI2.out.grows _).cell 4, (HI2.out.grows _).cell 5⟩)
      (first
        | (refine step_append_bytes rfl (.tmp 39) (.tmp 46) rfl (w.heap.size + 1) _ 12 _ (by simp [Act.eval]) (HI2.out.drew.grows _).own (some ⟨wc.heap.size, 0, none⟩) 2 2 [(hd : Int) / 4 * 16, fl] (by simp [Act.eval]) rfl (fun e => by cases e) (row_lit wc.drew _ HB2.out (by simp) 5) (by omega) (HI2.out.drew.grows _).size ?_; intro v6 w6 hown6 hbel6; have hI6 : Inv tcT w w6 (tcA s d sq ak fl wi c ur (.slice ao o co) (.slice bo m cb)) v6 14 [s / 256, s % 256, d / 256, d % 256, sq / 16777216, sq / 65536 % 256, sq / 256 % 256, sq % 256, ak / 16777216, ak / 65536 % 256, ak / 256 % 256, ak % 256, (hd : Int) / 4 * 16, fl] := (HI2.out.drew.grows _).next hown6 hbel6)
        | (go_at_call 42; with_reducible refine (put16_inv hI6 (by omega) wi H.out.2.2.2.2.2.1.1 H.out.2.2.2.2.2.1.2).mono ?_; rintro e w7 ⟨v7, rfl, hI7⟩))
    all_goals
      go_wp2_with fail
      go_meet
      case rel => exact hI7
  case rest =>
  have HI3 : Hid _ := hcut
  have D6 : wc.cell? ⟨w.heap.size, 6, none⟩ = some (.int .u16 c) := hcut.cell 6
  have D7 : wc.cell? ⟨w.heap.size, 7, none⟩ = some (.int .u16 ur) := hcut.cell 7
  clear hcut D4 D5 HI2
  go_upto_region 8 with fail
  go_cut [5] from 6 (fun s5 wx => Inv tcT w wx (tcA s d sq ak fl wi c ur (.slice ao o co) (.slice bo m cb)) s5 20 (tc20 hd s d sq ak fl wi c ur))
  case first =>
    go_region_held3 (fun w' => w'.cell? ⟨w.heap.size, 6, none⟩ = some (.int .u16 c) ∧ w'.cell? ⟨w.heap.size, 7, none⟩ = some (.int .u16 ur))
      (first | go_keep | exact ⟨hI5.cell 6, hI5.cell 7⟩ | exact ⟨hI6.cell 6, hI6.cell 7⟩)
      (first
        | (go_at_call 42; with_reducible refine (put16_inv HI3.out.drew (by omega) c H.out.2.2.2.2.2.2.1.1 H.out.2.2.2.2.2.2.1.2).mono ?_; rintro e w5 ⟨v5, rfl, hI5⟩)
        | (go_at_call 42; with_reducible refine (put16_inv hI5 (by omega) ur H.out.2.2.2.2.2.2.2.1 H.out.2.2.2.2.2.2.2.2).mono ?_; rintro e w6 ⟨v6, rfl, hI6⟩))
    all_goals
      go_wp2_with fail
      go_meet
      case rel => exact hI6
  case rest =>
  have HI4 : Hid _ := hcut
  have D8 : wc.cell? ⟨w.heap.size, 8, none⟩ = some (.slice ao o co) := hcut.cell 8
  have D9 : wc.cell? ⟨w.heap.size, 9, none⟩ = some (.slice bo m cb) := hcut.cell 9
  clear hcut D6 D7 HI3
  go_upto_region 9 with fail
  go_region_held3 (fun w' => w'.cell? ⟨w.heap.size, 8, none⟩ = some (.slice ao o co) ∧ w'.cell? ⟨w.heap.size, 9, none⟩ = some (.slice bo m cb))
    (first | go_keep | exact ⟨hI6.cell 8, hI6.cell 9⟩ | exact ⟨hI7.cell 8, hI7.cell 9⟩)
    (first
      | (refine step_append_bytes rfl (.tmp 58) (.tmp 60) rfl (w.heap.size + 1) _ 20 _ (by simp [Act.eval]) HI4.out.drew.own ao co o opts (by simp [Act.eval]) HR.out.2.2.1 HR.out.2.2.2.2.2.2.2.2.1 (HI4.out.drew.mem.row HR.out.1) (by have := HR.out; omega) HI4.out.drew.size ?_; intro v6 w6 hown6 hbel6; have hI6 : Inv tcT w w6 (tcA s d sq ak fl wi c ur (.slice ao o co) (.slice bo m cb)) v6 (20 + o) (tc20 hd s d sq ak fl wi c ur ++ opts) := HI4.out.drew.next (by rw [List.map_append]; exact hown6) hbel6)
      | (refine step_append_bytes rfl (.tmp 61) (.tmp 63) rfl (w.heap.size + 1) v6 (20 + o) _ (by simp [Act.eval]) hI6.own bo cb m body (by simp [Act.eval]) HR.out.2.2.2.1 HR.out.2.2.2.2.2.2.2.2.2 (hI6.mem.row HR.out.2.1) (by have := HR.out; omega) hI6.size ?_; intro v7 w7 hown7 hbel7; have hI7 : Inv tcT w w7 (tcA s d sq ak fl wi c ur (.slice ao o co) (.slice bo m cb)) v7 (20 + o + m) (tc20 hd s d sq ak fl wi c ur ++ opts ++ body) := hI6.next (by rw [List.map_append]; exact hown7) hbel7))
  have HI7 : Hid _ := hI7
  clear hI6 hI7 hown6 hown7 hbel6 hbel7
  go_wp2_with fail
  go_ret2
  exact ⟨_, rfl, by rw [HR.out.2.2.2.2.1]; exact own_base HI7.out.own (Nat.le_succ _), HI7.out.mem.below⟩

set_option maxHeartbeats 1000000 in
theorem rtbytes_form (w : World) (o co : Nat) (ao : Option Addr) (v : Value) (h : o % 4 ≠ 0 ∨ 40 < o) (hl : o ≤ 9223372036854775807) (s d sq ak fl wi c ur : Int) :
    Calls Try.prog 48 #[.agg (tcA s d sq ak fl wi c ur (.slice ao o co) v)] w fun e w' => e = .returned (.tuple #[.slice none 0 0, .int .i64 21]) ∧ Below w.heap.size w w' := by
  by_cases h4 : o % 4 = 0
  · have o4 : (o : Int) % 4 = 0 := by omega
    have o40 : (40 : Int) < o := by omega
    clear h
    go_enter Try.func48, Try.ntmps48
    go_wp2
    go_ret2
    exact ⟨rfl, (Below.refl _ _).alloc (Nat.le_refl _) _⟩
  · have o4 : ¬ (o : Int) % 4 = 0 := by omega
    have o4' : ((o : Int) % 4 == 0) = false := by simp; omega
    clear h
    go_enter Try.func48, Try.ntmps48
    go_wp2
    go_ret2
    exact ⟨rfl, (Below.refl _ _).alloc (Nat.le_refl _) _⟩

set_option maxHeartbeats 1000000 in
theorem rtbytes_big (w : World) (o co m cb : Nat) (ao bo : Option Addr) (h4 : o % 4 = 0) (h40 : o ≤ 40) (h : 65515 < 20 + o + m) (s d sq ak fl wi c ur : Int) :
    Calls Try.prog 48 #[.agg (tcA s d sq ak fl wi c ur (.slice ao o co) (.slice bo m cb))] w fun e w' => e = .returned (.tuple #[.slice none 0 0, .int .i64 23]) ∧ Below w.heap.size w w' := by
  have o4 : (o : Int) % 4 = 0 := by omega
  have o40 : (o : Int) ≤ 40 := by omega
  obtain ⟨hd, hh⟩ : ∃ hd : Nat, hd = 20 + o := ⟨_, rfl⟩
  have eh : 20 + (o : Int) = hd := by omega
  have mb : 65515 - (hd : Int) < m := by omega
  have hdb : (hd : Int) ≤ 60 := by omega
  clear h4 h40 h hh
  go_enter Try.func48, Try.ntmps48
  go_wp2
  go_ret2
  exact ⟨rfl, (Below.refl _ _).alloc (Nat.le_refl _) _⟩

/-- What lychref1.TcpBytes answers, whatever it is handed. -/
theorem rtbytes_any {w : World} {B : Nat} {v : Value} {q : Sg} (hq : q.Ok) (hv : TcV w B v q) :
    Calls Try.prog 48 #[v] w fun r w' => ∃ x, r = .returned (.tuple #[x, .int .i64 (tcbErr q)]) ∧ w'.ownsRow w.heap.size 5 1 x (tcOut q).length ((tcOut q).map (Value.int .u8)) ∧ Below w.heap.size w w' := by
  obtain ⟨ao, co, bo, cb, rfl, hro, hrb, hno, hnb, -, -⟩ := hv
  have l1 := hro.len
  by_cases h1 : q.opts.length % 4 ≠ 0 ∨ 40 < q.opts.length
  · have e : tcbErr q = 21 := by unfold tcbErr; rw [if_pos h1]
    have e2 : tcOut q = [] := by unfold tcOut; rw [e]; rfl
    rw [e, e2]
    refine (rtbytes_form w _ co ao _ h1 (by omega) _ _ _ _ _ _ _ _).mono ?_
    rintro r w' ⟨rfl, hb⟩
    exact ⟨_, rfl, World.ownsRow_nil _ _ _ _, hb⟩
  by_cases h2 : 65515 < 20 + q.opts.length + q.body.length
  · have e : tcbErr q = 23 := by unfold tcbErr; rw [if_neg h1, if_pos h2]
    have e2 : tcOut q = [] := by unfold tcOut; rw [e]; rfl
    rw [e, e2]
    refine (rtbytes_big w _ co _ cb ao bo (by omega) (by omega) h2 _ _ _ _ _ _ _ _).mono ?_
    rintro r w' ⟨rfl, hb⟩
    exact ⟨_, rfl, World.ownsRow_nil _ _ _ _, hb⟩
  · have e : tcbErr q = 0 := by unfold tcbErr; rw [if_neg h1, if_neg h2]
    have e2 : tcOut q = tcb q := if_pos e
    rw [e, e2, tcb_len]
    exact rtbytes_ok hro hrb _ co _ cb (tlen q) (20 + q.opts.length) rfl rfl (by omega) (by omega) rfl rfl (by unfold tlen; omega) hno hnb q.src q.dst q.seq q.ack q.flags q.win q.sum q.urg hq.src hq.dst hq.seq hq.ack hq.flags hq.win hq.sum hq.urg
end Go.Proofs.Ytjalpbkfpjfigaa

namespace Go.Proofs.Ytjalpbkfpjfigaa
open Go.RowKit
open Sm
set_option linter.unusedVariables false
set_option maxRecDepth 20000

namespace Sm
def addr (a b c d : Int) : Int := a * 16777216 + b * 65536 + c * 256 + d
def insd (k : Int) : Int := if k % 6 = 5 then addr 10 0 0 9 else addr 10 0 0 (1 + k % 3)
def xor1 (n : Int) : Int := bits .xor .u8 n 1
def outsd (k n : Int) : Int :=
  if k % 9 = 0 ∨ k % 9 = 1 then addr 8 8 8 8 else if k % 9 = 2 then addr 8 8 4 4 else if k % 9 = 3 then addr 192 168 0 5 else if k % 9 = 4 then addr 192 168 0 6
  else if k % 9 = 5 ∨ k % 9 = 6 then addr 5 5 n 1 else if k % 9 = 7 then addr 5 6 n 9 else addr 5 5 (xor1 n) 1
def prt (k : Int) : Int := if k % 4 = 1 then 6 else if k % 4 = 2 then 1 else 17
def ports (k : Int) : Int := if k % 5 = 0 then 1000 + k / 16 else if k % 5 = 1 then 53 else 1020 + k / 8
theorem xor1_all : ∀ n : Fin 256, 0 ≤ bits .xor .u8 (n.val : Int) 1 ∧ bits .xor .u8 (n.val : Int) 1 ≤ 255 := by decide +kernel
theorem xor1_range {n : Int} (h0 : 0 ≤ n) (h1 : n ≤ 255) : 0 ≤ xor1 n ∧ xor1 n ≤ 255 := by
  have := xor1_all ⟨n.toNat, by omega⟩
  simp only at this
  rw [show ((n.toNat : Nat) : Int) = n by omega] at this
  exact this
theorem addr_range {a b c d : Int} (ha : 0 ≤ a ∧ a ≤ 255) (hb : 0 ≤ b ∧ b ≤ 255) (hc : 0 ≤ c ∧ c ≤ 255) (hd : 0 ≤ d ∧ d ≤ 255) : 0 ≤ addr a b c d ∧ addr a b c d ≤ 4294967295 := by unfold addr; omega
theorem insd_range {k : Int} (h0 : 0 ≤ k) : 0 ≤ insd k ∧ insd k ≤ 4294967295 := by
  unfold insd
  split
  · exact ⟨by decide, by decide⟩
  · exact addr_range (by omega) (by omega) (by omega) (by omega)
theorem outsd_range {k n : Int} (h0 : 0 ≤ n) (h1 : n ≤ 255) : 0 ≤ outsd k n ∧ outsd k n ≤ 4294967295 := by
  have := xor1_range h0 h1
  unfold outsd
  repeat' split
  all_goals exact addr_range (by omega) (by omega) (by omega) (by omega)
theorem ports_range {k : Int} (h0 : 0 ≤ k) (h1 : k ≤ 255) : 0 ≤ ports k ∧ ports k ≤ 65535 := by
  unfold ports
  repeat' split
  all_goals omega
theorem prt_kind (k : Int) : prt k = 17 ∨ prt k = 6 ∨ prt k = 1 := by
  unfold prt
  split
  · exact Or.inr (Or.inl rfl)
  · split
    · exact Or.inr (Or.inr rfl)
    · exact Or.inl rfl
end Sm

set_option maxHeartbeats 1000000 in
theorem addr_any (w : World) (a b c d : Int) (ha : 0 ≤ a ∧ a ≤ 255) (hb : 0 ≤ b ∧ b ≤ 255) (hc : 0 ≤ c ∧ c ≤ 255) (hd : 0 ≤ d ∧ d ≤ 255) :
    Calls Try.prog 45 #[.int .u8 a, .int .u8 b, .int .u8 c, .int .u8 d] w fun e w' => e = .returned (.int .u32 (addr a b c d)) ∧ w = w' := by
  have o1 : bits .or .u32 (a * 16777216) (b * 65536) = a * 16777216 + b * 65536 :=
    bits_join .u32 32 (by decide) wraps_u32 24 (a * 16777216) (b * 65536) (by omega) (by omega) (by omega) (by omega) (by omega) (by omega)
  have o2 : bits .or .u32 (a * 16777216 + b * 65536) (c * 256) = a * 16777216 + b * 65536 + c * 256 :=
    bits_join .u32 32 (by decide) wraps_u32 16 (a * 16777216 + b * 65536) (c * 256) (by omega) (by omega) (by omega) (by omega) (by omega) (by omega)
  have o3 : bits .or .u32 (a * 16777216 + b * 65536 + c * 256) d = a * 16777216 + b * 65536 + c * 256 + d :=
    bits_join .u32 32 (by decide) wraps_u32 8 (a * 16777216 + b * 65536 + c * 256) d (by omega) (by omega) (by omega) (by omega) (by omega) (by omega)
  have v1 := wrap32_small a ha.1 (by omega)
  have v2 := wrap32_small b hb.1 (by omega)
  have v3 := wrap32_small c hc.1 (by omega)
  have v4 := wrap32_small d hd.1 (by omega)
  have u1 := wrap32_small (a * 16777216) (by omega) (by omega)
  have u2 := wrap32_small (b * 65536) (by omega) (by omega)
  have u3 := wrap32_small (c * 256) (by omega) (by omega)
  clear ha hb hc hd
  go_enter Try.func45, Try.ntmps45
  go_wp2
  go_ret
  exact ⟨rfl, rfl⟩

set_option maxHeartbeats 1000000 in
theorem inside_any (w : World) (k : Int) (h0 : 0 ≤ k) (h1 : k ≤ 255) :
    Calls Try.prog 20 #[.int .u8 k] w fun e w' => e = .returned (.int .u32 (insd k)) ∧ w = w' := by
  by_cases h5 : k % 6 = 5
  · have HI : Hid (insd k = addr 10 0 0 9) := by show _ = _; unfold insd; rw [if_pos h5]
    have hA := addr_any w 10 0 0 9 (by decide) (by decide) (by decide) (by decide)
    generalize insd k = R at *
    generalize addr 10 0 0 9 = A at *
    go_enter Try.func20, Try.ntmps20
    go_wp2_with fail
    refine hA.mono ?_
    rintro e w' ⟨rfl, rfl⟩
    go_wp2_with fail
    go_ret
    exact ⟨by rw [HI.out] <;> rfl, rfl⟩
  · have HI : Hid (insd k = addr 10 0 0 (1 + k % 3)) := by show _ = _; unfold insd; rw [if_neg h5]
    have hA := addr_any w 10 0 0 (1 + k % 3) (by decide) (by decide) (by decide) (by omega)
    have hw : IntKind.u8.wrap (1 + k % 3) = 1 + k % 3 := wrap8_small _ (by omega) (by omega)
    generalize insd k = R at *
    generalize addr 10 0 0 (1 + k % 3) = A at *
    go_enter Try.func20, Try.ntmps20
    go_wp2_with fail
    refine hA.mono ?_
    rintro e w' ⟨rfl, rfl⟩
    go_wp2_with fail
    go_ret
    exact ⟨by rw [HI.out] <;> rfl, rfl⟩

set_option maxHeartbeats 2000000 in
theorem outside_any (w : World) (k n : Int) (h0 : 0 ≤ k) (h1 : k ≤ 255) (n0 : 0 ≤ n) (n1 : n ≤ 255) :
    Calls Try.prog 21 #[.int .u8 k, .int .u8 n] w fun e w' => e = .returned (.int .u32 (outsd k n)) ∧ w = w' := by
  have hx := xor1_range n0 n1
  have HD : Hid (outsd k n = if k % 9 = 0 ∨ k % 9 = 1 then addr 8 8 8 8 else if k % 9 = 2 then addr 8 8 4 4 else if k % 9 = 3 then addr 192 168 0 5 else if k % 9 = 4 then addr 192 168 0 6
    else if k % 9 = 5 ∨ k % 9 = 6 then addr 5 5 n 1 else if k % 9 = 7 then addr 5 6 n 9 else addr 5 5 (xor1 n) 1) := rfl
  have A0 := addr_any w 8 8 8 8 (by decide) (by decide) (by decide) (by decide)
  have A2 := addr_any w 8 8 4 4 (by decide) (by decide) (by decide) (by decide)
  have A3 := addr_any w 192 168 0 5 (by decide) (by decide) (by decide) (by decide)
  have A4 := addr_any w 192 168 0 6 (by decide) (by decide) (by decide) (by decide)
  have A5 := addr_any w 5 5 n 1 (by decide) (by decide) ⟨n0, n1⟩ (by decide)
  have A7 := addr_any w 5 6 n 9 (by decide) (by decide) ⟨n0, n1⟩ (by decide)
  have A8 := addr_any w 5 5 (xor1 n) 1 (by decide) (by decide) hx (by decide)
  have hxe : bits .xor .u8 n 1 = xor1 n := rfl
  generalize xor1 n = X at *
  generalize outsd k n = R at *
  generalize addr 8 8 8 8 = a0 at *
  generalize addr 8 8 4 4 = a2 at *
  generalize addr 192 168 0 5 = a3 at *
  generalize addr 192 168 0 6 = a4 at *
  generalize addr 5 5 n 1 = a5 at *
  generalize addr 5 6 n 9 = a7 at *
  generalize addr 5 5 X 1 = a8 at *
  have hk : k % 9 = 0 ∨ k % 9 = 1 ∨ k % 9 = 2 ∨ k % 9 = 3 ∨ k % 9 = 4 ∨ k % 9 = 5 ∨ k % 9 = 6 ∨ k % 9 = 7 ∨ k % 9 = 8 := by omega
  rcases hk with e | e | e | e | e | e | e | e | e <;> rw [e] at HD <;> simp at HD
  all_goals
    go_enter Try.func21, Try.ntmps21
    go_wp2_with fail
    first
      | with_reducible refine A0.mono ?_
      | with_reducible refine A2.mono ?_
      | with_reducible refine A3.mono ?_
      | with_reducible refine A4.mono ?_
      | with_reducible refine A5.mono ?_
      | with_reducible refine A7.mono ?_
      | with_reducible refine A8.mono ?_
    rintro e w' ⟨rfl, rfl⟩
    go_wp2_with fail
    go_ret
    exact ⟨by rw [HD.out] <;> rfl, rfl⟩

set_option maxHeartbeats 1000000 in
theorem port_any (w : World) (k : Int) (h0 : 0 ≤ k) (h1 : k ≤ 255) :
    Calls Try.prog 23 #[.int .u8 k] w fun e w' => e = .returned (.int .u16 (ports k)) ∧ w = w' := by
  have HD : Hid (ports k = if k % 5 = 0 then 1000 + k / 16 else if k % 5 = 1 then 53 else 1020 + k / 8) := rfl
  have v1 := wrap16_small (k / 16) (by omega) (by omega)
  have v2 := wrap16_small (k / 8) (by omega) (by omega)
  have v3 := wrap16_small (1000 + k / 16) (by omega) (by omega)
  have v4 := wrap16_small (1020 + k / 8) (by omega) (by omega)
  generalize ports k = R at *
  by_cases e0 : k % 5 = 0
  · rw [if_pos e0] at HD
    go_enter Try.func23, Try.ntmps23
    go_wp2
    go_ret
    exact ⟨by rw [HD.out] <;> rfl, rfl⟩
  · rw [if_neg e0] at HD
    by_cases e1 : k % 5 = 1
    · rw [if_pos e1] at HD
      go_enter Try.func23, Try.ntmps23
      go_wp2
      go_ret
      exact ⟨by rw [HD.out] <;> rfl, rfl⟩
    · rw [if_neg e1] at HD
      go_enter Try.func23, Try.ntmps23
      go_wp2
      go_ret
      exact ⟨by rw [HD.out] <;> rfl, rfl⟩

set_option maxHeartbeats 1000000 in
theorem proto_any (w : World) (k : Int) (h0 : 0 ≤ k) (h1 : k ≤ 255) :
    Calls Try.prog 22 #[.int .u8 k] w fun e w' => e = .returned (.int .u8 (prt k)) ∧ Below w.heap.size w w' := by
  have HD : Hid (prt k = if k % 4 = 1 then 6 else if k % 4 = 2 then 1 else 17) := rfl
  have HB : Hid (∀ o, Below w.heap.size w (w.alloc o)) := fun o => (Below.refl _ _).alloc (Nat.le_refl _) o
  generalize prt k = R at *
  have hk : k % 4 = 0 ∨ k % 4 = 1 ∨ k % 4 = 2 ∨ k % 4 = 3 := by omega
  rcases hk with e | e | e | e <;> rw [e] at HD <;> simp at HD
  all_goals
    go_enter Try.func22, Try.ntmps22
    go_wp2
    go_ret
    exact ⟨by rw [HD.out] <;> rfl, HB.out _⟩
end Go.Proofs.Ytjalpbkfpjfigaa

