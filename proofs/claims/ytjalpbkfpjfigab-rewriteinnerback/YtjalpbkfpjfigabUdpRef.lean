/-
  What the document's own lychref1.Udp and lychref1.UdpBytes answer, and lychhelp.Udp over two datagrams that are the same.
-/
import Derived.Test.YtjalpbkfpjfigabUdpParse
namespace Go.Proofs.Ytjalpbkfpjfigab
open Go.RowKit
open Sm
set_option linter.unusedVariables false

set_option maxHeartbeats 2000000 in
theorem rubytes_ok {w : World} {a : Option Addr} {body : List Int} (hr : Row w a body) (m cb n : Nat) (hm : body.length = m) (h1 : m ≤ 65527) (hn : n = 8 + m) (hnil : a = none → cb = 0) (s d c : Int) (hs : 0 ≤ s ∧ s ≤ 65535) (hd : 0 ≤ d ∧ d ≤ 65535) (hc : 0 ≤ c ∧ c ≤ 65535) :
    Calls Try.prog 32 #[.agg (udA s d c (.slice a m cb))] w fun e w' => ∃ u, e = .returned (.tuple #[u, .int .i64 0]) ∧
      w'.ownsRow w.heap.size 5 1 u n ((ud8 n s d c ++ body).map (Value.int .u8)) ∧ Below w.heap.size w w' := by
  have HR : Hid (Row w a body ∧ body.length = m ∧ n = 8 + m ∧ m ≤ 65527 ∧ (a = none → cb = 0)) := ⟨hr, hm, hn, h1, hnil⟩
  obtain ⟨s0, s1⟩ := hs
  obtain ⟨d0, d1⟩ := hd
  obtain ⟨c0, c1⟩ := hc
  have hmi : (m : Int) ≤ 65527 := by omega
  have HN : Hid (8 + (m : Int) = n) := by show 8 + (m : Int) = n; omega
  have hnw : IntKind.u16.wrap (8 + (m : Int)) = 8 + (m : Int) := wrap16_small _ (by omega) (by omega)
  have hnv : IntKind.i64.wrap (8 + (m : Int)) = 8 + (m : Int) := wrap64_small _ (by omega) (by omega)
  clear hr hm hn h1 hnil
  go_enter Try.func32, Try.ntmps32
  go_upto_region 3 with fail
  refine wp_letter (fun W => Inv udT w W (udA s d c (.slice a m cb)) (.slice none 0 0) 0 []) (inv_nil ((Mem.nil w).push w.heap.size _ rfl)) ?_
  intro w1 hI1
  have HI1 : Hid _ := hI1
  have D0 : w1.cell? ⟨w.heap.size, 0, none⟩ = some (.int .u16 s) := hI1.cell 0
  have D1 : w1.cell? ⟨w.heap.size, 1, none⟩ = some (.int .u16 d) := hI1.cell 1
  clear hI1
  go_cut [4] from 5 (fun s4 wx => Inv udT w wx (udA s d c (.slice a m cb)) s4 4 [s / 256, s % 256, d / 256, d % 256])
  case first =>
    go_region_held3 (fun w' => w'.cell? ⟨w.heap.size, 0, none⟩ = some (.int .u16 s) ∧ w'.cell? ⟨w.heap.size, 1, none⟩ = some (.int .u16 d))
      (first | go_keep | exact ⟨hI5.cell 0, hI5.cell 1⟩ | exact ⟨hI6.cell 0, hI6.cell 1⟩)
      (first
        | (go_at_call 24; with_reducible refine (put16_inv HI1.out.drew (by omega) s s0 s1).mono ?_; rintro e w5 ⟨v5, rfl, hI5⟩)
        | (go_at_call 24; with_reducible refine (put16_inv hI5 (by omega) d d0 d1).mono ?_; rintro e w6 ⟨v6, rfl, hI6⟩))
    all_goals
      go_wp2_with fail
      go_meet
      case rel => exact hI6
  case rest =>
  have HI2 : Hid _ := hcut
  have D2 : wc.cell? ⟨w.heap.size, 2, none⟩ = some (.int .u16 c) := hcut.cell 2
  have D3 : wc.cell? ⟨w.heap.size, 3, none⟩ = some (.slice a m cb) := hcut.cell 3
  clear hcut D0 D1 HI1
  go_upto_region 4 with fail
  go_cut [4] from 5 (fun s4 wx => Inv udT w wx (udA s d c (.slice a m cb)) s4 8 (ud8 n s d c))
  case first =>
    go_region_held3 (fun w' => w'.cell? ⟨w.heap.size, 2, none⟩ = some (.int .u16 c) ∧ w'.cell? ⟨w.heap.size, 3, none⟩ = some (.slice a m cb))
      (first | go_keep | exact ⟨hI5.cell 2, hI5.cell 3⟩ | exact ⟨hI6.cell 2, hI6.cell 3⟩)
      (first
        | (go_at_call 24; with_reducible refine (put16_inv HI2.out.drew (by omega) (8 + (m : Int)) (by omega) (by omega)).mono ?_; rintro e w5 ⟨v5, rfl, hI5⟩)
        | (go_at_call 24; with_reducible refine (put16_inv hI5 (by omega) c c0 c1).mono ?_; rintro e w6 ⟨v6, rfl, hI6⟩))
    all_goals
      go_wp2_with fail
      go_meet
      case rel => rw [HN.out] at hI6; exact hI6
  case rest =>
  have HI3 : Hid _ := hcut
  have E3 : wc.cell? ⟨w.heap.size, 3, none⟩ = some (.slice a m cb) := hcut.cell 3
  clear hcut HI2 D2 D3
  go_wp2_with (at_builtin; refine wpList_append_more _ rfl (.tmp 25) (.tmp 27) rfl (w.heap.size + 1) _ 8 _ rfl HI3.out.own a cb m body rfl HR.out.2.1 HR.out.2.2.2.2 (HI3.out.mem.row HR.out.1) (by omega) HI3.out.size ?_; intro v8 w8 hown8 hbel8)
  go_ret2
  rw [← HR.out.2.2.1, ← List.map_append] at hown8
  exact ⟨_, rfl, own_base hown8 (Nat.le_succ _), HI3.out.mem.below.trans (hbel8.mono (Nat.le_succ _))⟩

set_option maxHeartbeats 400000 in
theorem rubytes_big (w : World) (a : Option Addr) (m cb : Nat) (h1 : 65527 < m) (s d c : Int) :
    Calls Try.prog 32 #[.agg (udA s d c (.slice a m cb))] w fun e w' => e = .returned (.tuple #[.slice none 0 0, .int .i64 23]) ∧ Below w.heap.size w w' := by
  have h' : (65527 : Int) < m := by omega
  go_enter Try.func32, Try.ntmps32
  go_wp2
  go_ret2
  exact ⟨rfl, (Below.refl _ _).alloc (Nat.le_refl _) _⟩

/-- What lychref1.UdpBytes answers, whatever it is handed. -/
theorem rubytes_any {w : World} {B : Nat} {v : Value} {u : Dg} (hu : u.Ok) (hv : UdV w B v u) :
    Calls Try.prog 32 #[v] w fun r w' => ∃ x, r = .returned (.tuple #[x, .int .i64 (udbErr u)]) ∧ w'.ownsRow w.heap.size 5 1 x (udOut u).length ((udOut u).map (Value.int .u8)) ∧ Below w.heap.size w w' := by
  obtain ⟨bo, cb, rfl, hr, hnil, -⟩ := hv
  by_cases h : 65527 < u.body.length
  · have e : udbErr u = 23 := by unfold udbErr; rw [if_pos h]
    have e2 : udOut u = [] := by unfold udOut; rw [e]; rfl
    rw [e, e2]
    refine (rubytes_big w bo _ cb h _ _ _).mono ?_
    rintro r w' ⟨rfl, hb⟩
    exact ⟨_, rfl, World.ownsRow_nil _ _ _ _, hb⟩
  · have e : udbErr u = 0 := by unfold udbErr; rw [if_neg h]
    have e2 : udOut u = udb u := if_pos e
    rw [e, e2, udb_len]
    exact rubytes_ok hr _ cb (8 + u.body.length) rfl (by omega) rfl hnil u.src u.dst u.sum hu.src hu.dst hu.sum

end Go.Proofs.Ytjalpbkfpjfigab
