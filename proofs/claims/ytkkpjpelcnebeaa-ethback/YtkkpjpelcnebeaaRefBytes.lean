/-
  What the document's own lychref1.EthBytes answers.
-/
import Derived.Test.YtkkpjpelcnebeaaParse
import Derived.Test.YtkkpjpelcnebeaaPuts
namespace Go.Proofs.Ytkkpjpelcnebeaa
open Go.RowKit
open Sm
set_option linter.unusedVariables false

theorem six_of {x0 x1 x2 x3 x4 x5 : Int} {c : Array Value} {off : Nat} (h0 : c[off]? = some (.int .u8 x0)) (h1 : c[off + 1]? = some (.int .u8 x1)) (h2 : c[off + 2]? = some (.int .u8 x2)) (h3 : c[off + 3]? = some (.int .u8 x3)) (h4 : c[off + 4]? = some (.int .u8 x4)) (h5 : c[off + 5]? = some (.int .u8 x5)) :
    ∀ j, j < [x0, x1, x2, x3, x4, x5].length → c[off + j]? = some (.int .u8 ([x0, x1, x2, x3, x4, x5].getD j 0)) := by
  intro j hj
  match j, hj with
  | 0, _ => exact h0
  | 1, _ => exact h1
  | 2, _ => exact h2
  | 3, _ => exact h3
  | 4, _ => exact h4
  | 5, _ => exact h5

theorem row_keep {w w' : World} {a : Option Addr} {l : List Int} {k : Nat} (h : Row w a l) (hb : Below (k + 1) w w') (ha : ∀ x, a = some x → l ≠ [] → x.block < k) : Row w' a l := by
  by_cases e : l = []
  · subst e; exact ⟨h.bytes, h.len, Or.inl rfl⟩
  · exact h.under hb (fun x hx => Nat.lt_succ_of_lt (ha x hx e))

set_option maxHeartbeats 1000000 in
theorem rbytes_ok {w : World} {a : Option Addr} {body : List Int} (hr : Row w a body) (m c : Nat) (hm : body.length = m) (h1 : m ≤ 1586) (hc : a = none → c = 0) (x0 x1 x2 x3 x4 x5 x6 x7 x8 x9 x10 x11 t : Int) (r0 : 0 ≤ t) (r1 : t ≤ 65535)
    (hx : IsBytes [x0, x1, x2, x3, x4, x5]) (hy : IsBytes [x6, x7, x8, x9, x10, x11]) :
    Calls Try.prog 12 #[.agg (ethA x0 x1 x2 x3 x4 x5 x6 x7 x8 x9 x10 x11 t (.slice a m c))] w fun e w' => ∃ v, e = .returned (.tuple #[v, .int .i64 0]) ∧
      w'.ownsRow (w.heap.size + 1) 5 1 v (6 + 6 + 2 + m) ((x0 :: x1 :: x2 :: x3 :: x4 :: x5 :: x6 :: x7 :: x8 :: x9 :: x10 :: x11 :: t / 256 :: t % 256 :: body).map (Value.int .u8)) ∧ Below w.heap.size w w' := by
  have HX : Hid (IsBytes [x0, x1, x2, x3, x4, x5]) := hx
  have HY : Hid (IsBytes [x6, x7, x8, x9, x10, x11]) := hy
  have HR : Hid (Row w a body) := hr
  have HM : Hid (body.length = m) := hm
  have HC : Hid (a = none → c = 0) := hc
  clear hx hy hr hm hc
  have hmi : (m : Int) ≤ 1586 := by omega
  go_enter Try.func12, Try.ntmps12
  go_upto_region 3 with fail
  refine wp_letter (fun W => Mem w W [(w.heap.size, .cells (ethA x0 x1 x2 x3 x4 x5 x6 x7 x8 x9 x10 x11 t (.slice a m c)) 28)]) ((Mem.nil w).push w.heap.size _ rfl) ?_
  intro w1 hM1
  have HM1 : Hid _ := hM1
  have HS1 : Hid (w.heap.size + 1 ≤ w1.heap.size) := hM1.lt (p := (w.heap.size, _)) (List.mem_cons_self ..)
  clear hM1
  have HD : Hid (Row w1.drew (some ⟨w.heap.size, 0, none⟩) [x0, x1, x2, x3, x4, x5]) := HM1.out.drew.bytes 0 rfl 0 _ HX.out (by simp) (six_of rfl rfl rfl rfl rfl rfl)
  have HE : Hid (Row w1.drew (some ⟨w.heap.size, 6, none⟩) [x6, x7, x8, x9, x10, x11]) := HM1.out.drew.bytes 0 rfl 6 _ HY.out (by simp) (six_of rfl rfl rfl rfl rfl rfl)
  go_cut [4] from 5 (fun s4 wx => wx.ownsRow (w.heap.size + 1) 5 1 s4 (6 + 6) ([x0, x1, x2, x3, x4, x5, x6, x7, x8, x9, x10, x11].map (Value.int .u8)) ∧ Below (w.heap.size + 1) w1 wx)
  case first =>
    go_region_law (first
      | (refine step_append_bytes rfl _ (.tmp 10) rfl (w.heap.size + 1) (.slice none 0 0) 0 [] rfl (World.ownsRow_nil _ _ _ _) (some ⟨w.heap.size, 0, none⟩) 6 6 [x0, x1, x2, x3, x4, x5] (by simp [Act.eval, Act.put]) rfl (fun e => by cases e) HD.out (by omega) HS1.out ?_; intro v2 w2 hown2 hbel2)
      | (refine step_append_bytes rfl (.tmp 11) (.tmp 13) rfl (w.heap.size + 1) v2 6 _ (by simp [Act.eval]) hown2 (some ⟨w.heap.size, 6, none⟩) 6 6 [x6, x7, x8, x9, x10, x11] (by simp [Act.eval]) rfl (fun e => by cases e) (HE.out.under hbel2 (fun x hx => by cases hx; exact Nat.lt_succ_self _)) (by omega) (Nat.le_trans HS1.out hbel2.size) ?_; intro v3 w3 hown3 hbel3))
    all_goals
      go_wp2_with fail
      go_meet
      case rel => exact ⟨hown3, (((Below.refl _ w1).drew).trans hbel2).trans hbel3⟩
  case rest =>
    obtain ⟨hown, hbel⟩ := hcut
    have hM2 := HM1.out.over hbel (Nat.le_succ _) (fun p hp => by simp at hp; subst hp; exact Nat.lt_succ_self _)
    have D12 : wc.cell? ⟨w.heap.size, 12, none⟩ = some (.int .u16 t) := hM2.cell 0 rfl 12
    have D13 : wc.cell? ⟨w.heap.size, 13, none⟩ = some (.slice a m c) := hM2.cell 0 rfl 13
    have HO : Hid _ := hown
    have HS2 : Hid (w.heap.size + 1 ≤ wc.heap.size) := Nat.le_trans HS1.out hbel.size
    have HM2 : Hid _ := hM2
    have hput := put16_any (w := wc.drew) (own_after hown ((Below.refl _ _).drew) (Nat.le_refl _)) HS2.out (by omega) t r0 r1
    have HQ : Hid (Row wc.drew a body) := hM2.drew.row HR.out
    have HA : Hid (∀ x, a = some x → body ≠ [] → x.block < w.heap.size) := by
      intro x hx hne
      rcases HR.out.cells with e | ⟨b, off, rfl, hc⟩
      · exact absurd e hne
      · cases hx
        exact cell_lt (hc 0 (by cases body with | nil => exact absurd rfl hne | cons _ _ => simp))
    clear hown hbel HM1 HS1 HD HE hM2
    go_upto_region 4 with fail
    go_region_held3 (fun w' => w'.cell? ⟨w.heap.size, 12, none⟩ = some (.int .u16 t) ∧ w'.cell? ⟨w.heap.size, 13, none⟩ = some (.slice a m c))
      (first
        | go_keep
        | exact ⟨(hbel5.cell (p := ⟨w.heap.size, 12, none⟩) (Nat.lt_succ_self _)).trans D12, (hbel5.cell (p := ⟨w.heap.size, 13, none⟩) (Nat.lt_succ_self _)).trans D13⟩
        | exact ⟨(hbel6.cell (p := ⟨w.heap.size, 12, none⟩) (Nat.lt_succ_self _)).trans ((hbel5.cell (p := ⟨w.heap.size, 12, none⟩) (Nat.lt_succ_self _)).trans D12), (hbel6.cell (p := ⟨w.heap.size, 13, none⟩) (Nat.lt_succ_self _)).trans ((hbel5.cell (p := ⟨w.heap.size, 13, none⟩) (Nat.lt_succ_self _)).trans D13)⟩)
      (first
        | (go_at_call 16; refine hput.mono ?_; rintro e w5 ⟨v5, rfl, hown5, hbel5⟩)
        | (refine step_append_bytes rfl (.tmp 18) (.tmp 20) rfl (w.heap.size + 1) v5 14 _ (by simp [Act.eval]) hown5 a c m body (by simp [Act.eval]) HM.out HC.out (row_keep HQ.out hbel5 HA.out) (by omega) (Nat.le_trans HS2.out hbel5.size) ?_; intro v6 w6 hown6 hbel6))
    go_wp2_with fail
    go_ret2
    exact ⟨v6, rfl, hown6, (HM2.out.below.drew.trans (hbel5.mono (Nat.le_succ _))).trans (hbel6.mono (Nat.le_succ _))⟩

set_option maxHeartbeats 400000 in
theorem rbytes_big (w : World) (a : Option Addr) (m c : Nat) (h1 : 1586 < m) (x0 x1 x2 x3 x4 x5 x6 x7 x8 x9 x10 x11 t : Int) :
    Calls Try.prog 12 #[.agg (ethA x0 x1 x2 x3 x4 x5 x6 x7 x8 x9 x10 x11 t (.slice a m c))] w fun e w' => e = .returned (.tuple #[.slice none 0 0, .int .i64 23]) ∧ Below w.heap.size w w' := by
  have h' : (1586 : Int) < m := by omega
  go_enter Try.func12, Try.ntmps12
  go_wp2
  go_ret2
  exact ⟨rfl, (Below.refl _ _).alloc (Nat.le_refl _) _⟩
end Go.Proofs.Ytkkpjpelcnebeaa
