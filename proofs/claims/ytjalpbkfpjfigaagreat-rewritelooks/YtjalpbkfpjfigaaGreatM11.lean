/-
  What the document's own lychref1.Udp and lychref1.UdpBytes answer, and lychhelp.Udp over two datagrams that are the same.
  What package ip's split answers: a packet's header and body as pieces of its bytes, or a failure.
  What tcp.Parse answers where it refuses.
-/
import Derived.Test.YtjalpbkfpjfigaaGreatM09
import Derived.Test.YtjalpbkfpjfigaaGreatM10
import Derived.Test.YtjalpbkfpjfigaaGreatM03
namespace Go.Proofs.YtjalpbkfpjfigaaGreat
open Go.RowKit
open Sm
set_option linter.unusedVariables false

theorem get16_at {w : World} {b off : Nat} {l : List Int} (h : Row w (some ⟨b, off, none⟩) l) (i : Nat) (n cap : Nat) (hn : l.length = n) (hi : i + 1 < n) (X : Int) (hX : w16 l i = X) :
    Calls Tryz.prog 41 #[.slice (some ⟨b, off, none⟩) n cap, .int .i64 i] w fun e w' => e = .returned (.int .u16 X) ∧ ∃ q, w' = w.drewN q := by
  subst hX hn
  have b0 := h.bytes i
  have b1 := h.bytes (i + 1)
  have hl := h.len
  exact get16_row i _ _ (h.cellAt i (by omega)) (h.cellAt (i + 1) (by omega)) b0.1 b0.2 b1.1 b1.2 _ cap hi hl

set_option maxHeartbeats 400000 in
theorem rudp_short (a : Option Addr) (n cap : Nat) (w : World) (h : n < 8) :
    Calls Tryz.prog 31 #[.slice a n cap] w fun e w' => e = .returned (.tuple #[.agg ud0, .int .i64 20]) ∧ Below w.heap.size w w' := by
  have h' : (n : Int) < 8 := by omega
  go_enter Tryz.func31, Tryz.ntmps31
  go_wp2
  refine bodyPost_ret (v := .tuple #[.agg ud0, .int .i64 20]) (by simp [results, Tryz.results31, go_sem]) rfl ⟨rfl, ?_⟩
  exact (Below.refl _ _).alloc (Nat.le_refl _) _

set_option maxHeartbeats 400000 in
theorem rudp_no {w : World} {b off n cap : Nat} {l : List Int} (h : Row w (some ⟨b, off, none⟩) l) (hn : l.length = n) (h8 : 8 ≤ n) (K : Nat) (hK : w16 l 4 = K) (E : Int) (hE : (K < 8 ∧ E = 21) ∨ (8 ≤ K ∧ n < K ∧ E = 20)) :
    Calls Tryz.prog 31 #[.slice (some ⟨b, off, none⟩) n cap] w fun e w' => e = .returned (.tuple #[.agg ud0, .int .i64 E]) ∧ Below w.heap.size w w' := by
  have h8' : (8 : Int) ≤ n := by omega
  have hKb := w16_range h.bytes 4
  have hKi : (K : Int) ≤ 65535 := by omega
  have hw := get16_at (w := w.alloc (.cells ud0 udT)) (row_alloc h) 4 n cap hn (by omega) K hK
  have hnl := h.len
  have hnl' : (n : Int) ≤ 140737488351232 := by omega
  clear h hn hKb hnl
  rcases hE with ⟨h1, rfl⟩ | ⟨h1, h2, rfl⟩
  · have h1' : (K : Int) < 8 := by omega
    go_enter Tryz.func31, Tryz.ntmps31
    go_wp2_with fail
    refine hw.mono ?_
    rintro e w' ⟨rfl, q, rfl⟩
    go_wp2_with fail
    refine bodyPost_ret (v := .tuple #[.agg ud0, .int .i64 21]) (by simp [results, Tryz.results31, go_sem]) rfl ⟨rfl, ?_⟩
    repeat (refine below_set ?_ (Nat.le_refl _))
    exact below_drewN ((Below.refl _ _).alloc (Nat.le_refl _) _) _
  · have h1' : (8 : Int) ≤ K := by omega
    have h2' : (n : Int) < K := by omega
    go_enter Tryz.func31, Tryz.ntmps31
    go_wp2_with fail
    refine hw.mono ?_
    rintro e w' ⟨rfl, q, rfl⟩
    go_wp2_with fail
    refine bodyPost_ret (v := .tuple #[.agg ud0, .int .i64 20]) (by simp [results, Tryz.results31, go_sem]) rfl ⟨rfl, ?_⟩
    repeat (refine below_set ?_ (Nat.le_refl _))
    exact below_drewN ((Below.refl _ _).alloc (Nat.le_refl _) _) _

set_option maxHeartbeats 1000000 in
theorem rudp_ok {w : World} {b off n cap : Nat} {l : List Int} (h : Row w (some ⟨b, off, none⟩) l) (hn : l.length = n) (hc : n ≤ cap) (K m : Nat) (hK : w16 l 4 = K) (h8 : K = 8 + m) (hKn : K ≤ n) (X0 X2 X6 : Int) (e0 : w16 l 0 = X0) (e2 : w16 l 2 = X2) (e6 : w16 l 6 = X6) (body : List Int) (hbd : (l.drop 8).take m = body) :
    Calls Tryz.prog 31 #[.slice (some ⟨b, off, none⟩) n cap] w fun e w' => ∃ ao c, e = .returned (.tuple #[.agg (udA X0 X2 X6 (.slice ao m c)), .int .i64 0]) ∧ Row w' ao body ∧ (ao = none → c = 0) ∧ (∀ x, ao = some x → w.heap.size ≤ x.block) ∧ Below w.heap.size w w' := by
  have h8' : (8 : Int) ≤ n := by omega
  have hKb := w16_range h.bytes 4
  have hKi : (K : Int) ≤ 65535 := by omega
  have hK8 : (8 : Int) ≤ K := by omega
  have hKn' : (K : Int) ≤ n := by omega
  have hw : ∀ W L, Mem w W L → ∀ (i : Nat) X, i + 1 < n → w16 l i = X → Calls Tryz.prog 41 #[.slice (some ⟨b, off, none⟩) n cap, .int .i64 i] W fun e w' => e = .returned (.int .u16 X) ∧ ∃ q, w' = W.drewN q := fun W L hM i X hi hX => get16_at (hM.row h) i n cap hn hi X hX
  have hcu : ∀ W L, Mem w W L → Calls Tryz.prog 66 #[.slice (some ⟨b, off, none⟩) n cap, .int .i64 8, .int .i64 K] W _ := fun W L hM => by
    have := cut_row (hM.row h) n cap 8 m hn hc (by omega) (by omega)
    rw [hbd, ← h8] at this
    exact this
  have hnl := h.len
  have hnl' : (n : Int) ≤ 140737488351232 := by omega
  have hbl : body.length = m := by rw [← hbd]; simp; omega
  have hbb : IsBytes body := by rw [← hbd]; exact bytes_part h.bytes _ _
  have HE : Hid (w16 l 0 = X0 ∧ w16 l 2 = X2 ∧ w16 l 6 = X6 ∧ w16 l 4 = K ∧ body.length = m ∧ IsBytes body ∧ m ≤ 70000 ∧ 8 ≤ n) := ⟨e0, e2, e6, hK, hbl, hbb, by omega, by omega⟩
  have HM1 : Hid (Mem w (w.alloc (.cells ud0 udT)) [(w.heap.size, .cells ud0 udT)]) := (Mem.nil w).push w.heap.size (.cells ud0 udT) rfl
  have HW : Hid _ := hw
  have HC : Hid _ := hcu
  clear h hn hc hKb hnl e0 e2 e6 hbd hbl hbb h8 hKn hK hw hcu
  go_enter Tryz.func31, Tryz.ntmps31
  go_wp2_with fail
  refine (HW.out _ _ HM1.out 4 K (by have := HE.out; omega) HE.out.2.2.2.1).mono ?_
  rintro e w' ⟨rfl, q1, rfl⟩
  have HM2 : Hid _ := HM1.out.drewN q1
  clear HM1
  generalize (w.alloc (.cells ud0 udT)).drewN q1 = w1 at *
  go_wp2_with fail
  refine (HW.out _ _ HM2.out 0 X0 (by have := HE.out; omega) HE.out.1).mono ?_
  rintro e w' ⟨rfl, q2, rfl⟩
  have HM3 : Hid _ := HM2.out.drewN q2
  clear HM2
  generalize w1.drewN q2 = w2 at *
  go_wp2_with fail
  refine (HW.out _ _ HM3.out 2 X2 (by have := HE.out; omega) HE.out.2.1).mono ?_
  rintro e w' ⟨rfl, q3, rfl⟩
  have HM4 : Hid _ := HM3.out.drewN q3
  clear HM3
  generalize w2.drewN q3 = w3 at *
  go_wp2_with fail
  refine (HW.out _ _ HM4.out 6 X6 (by have := HE.out; omega) HE.out.2.2.1).mono ?_
  rintro e w' ⟨rfl, q4, rfl⟩
  have HM5 : Hid _ := HM4.out.drewN q4
  clear HM4
  generalize w3.drewN q4 = w4 at *
  go_wp2_with fail
  refine (HC.out _ _ HM5.out).mono ?_
  rintro e w5 ⟨v1, rfl, hown, hbel⟩
  obtain ⟨ao, c, rfl, hrow, hnil, hfar, -⟩ := own_read hown HE.out.2.2.2.2.1 HE.out.2.2.2.2.2.1 (by have := HE.out; omega)
  have hM6 := HM5.out.after hbel
  have hlt : w.heap.size < w4.heap.size := HM5.out.lt (p := (w.heap.size, _)) (List.mem_cons_self ..)
  have HF : Hid ((∀ x, ao = some x → w.heap.size ≠ x.block) ∧ (∀ x, ao = some x → w.heap.size ≤ x.block) ∧ (ao = none → c = 0)) := ⟨fun x hx => by have := hfar x hx; omega, fun x hx => by have := hfar x hx; omega, hnil⟩
  have HM6 : Hid _ := hM6
  have kr : ∀ i, w5.cell? ⟨w.heap.size, i, none⟩ = ud0[i]? := hM6.cell 0 rfl
  have kf : ∀ i, w5.frozen? ⟨w.heap.size, i, none⟩ = false := hM6.free 0 rfl
  have HO : Hid (Row w5 ao body) := hrow
  clear hown hrow hnil hfar hM6 hbel hlt HM5
  go_wp2_with fail
  refine bodyPost_ret (v := .tuple #[.agg (udA X0 X2 X6 (.slice ao m c)), .int .i64 0]) (by simp [results, Tryz.results31, go_sem, kr]) rfl ⟨ao, c, rfl, ?_, HF.out.2.2, HF.out.2.1, ?_⟩
  · iterate 4 (refine Row.far ?_ HF.out.1)
    exact HO.out
  · iterate 4 (refine below_set ?_ (Nat.le_refl _))
    exact HM6.out.below

/-- What lychref1.Udp answers, whatever it is handed. -/
theorem rudp_any {w : World} {a : Option Addr} {n c : Nat} {l : List Int} (hr : Row w a l) (hn : l.length = n) (hc : n ≤ c) :
    Calls Tryz.prog 31 #[.slice a n c] w fun r w' => ∃ v, r = .returned (.tuple #[v, .int .i64 (udErr l)]) ∧ UdV w' w.heap.size v (udRes l) ∧ Below w.heap.size w w' := by
  subst hn
  by_cases h1 : l.length < 8
  · have e : udErr l = 20 := by unfold udErr; rw [if_pos h1]
    rw [e, show udRes l = Dg.zero from if_neg (by rw [e]; decide)]
    refine (rudp_short a _ c w h1).mono ?_
    rintro r w' ⟨rfl, hb⟩
    exact ⟨_, rfl, udv_zero _ _, hb⟩
  rcases hr.cells with e0 | ⟨b, off, rfl, -⟩
  · rw [e0] at h1; simp at h1
  have hw := w16_range hr.bytes 4
  have hk : w16 l 4 = (ulen l : Nat) := by unfold ulen; omega
  by_cases h2 : ulen l < 8
  · have e : udErr l = 21 := by unfold udErr; rw [if_neg h1, if_pos h2]
    rw [e, show udRes l = Dg.zero from if_neg (by rw [e]; decide)]
    refine (rudp_no hr rfl (by omega) (ulen l) hk 21 (Or.inl ⟨h2, rfl⟩)).mono ?_
    rintro r w' ⟨rfl, hb⟩
    exact ⟨_, rfl, udv_zero _ _, hb⟩
  by_cases h3 : l.length < ulen l
  · have e : udErr l = 20 := by unfold udErr; rw [if_neg h1, if_neg h2, if_pos h3]
    rw [e, show udRes l = Dg.zero from if_neg (by rw [e]; decide)]
    refine (rudp_no hr rfl (by omega) (ulen l) hk 20 (Or.inr ⟨by omega, h3, rfl⟩)).mono ?_
    rintro r w' ⟨rfl, hb⟩
    exact ⟨_, rfl, udv_zero _ _, hb⟩
  · have e : udErr l = 0 := by unfold udErr; rw [if_neg h1, if_neg h2, if_neg h3]
    rw [e, show udRes l = udDg l from if_pos e]
    have hl : ((l.drop 8).take (ulen l - 8)).length = ulen l - 8 := by simp; omega
    refine (rudp_ok hr rfl hc (ulen l) (ulen l - 8) hk (by omega) (by omega) _ _ _ rfl rfl rfl _ rfl).mono ?_
    rintro r w' ⟨ao, co, rfl, hrow, hn, hg, hb⟩
    exact ⟨_, rfl, ⟨ao, co, by simp only [udDg]; rw [hl], hrow, hn, hg⟩, hb⟩

set_option maxHeartbeats 2000000 in
theorem rubytes_ok {w : World} {a : Option Addr} {body : List Int} (hr : Row w a body) (m cb n : Nat) (hm : body.length = m) (h1 : m ≤ 65527) (hn : n = 8 + m) (hnil : a = none → cb = 0) (s d c : Int) (hs : 0 ≤ s ∧ s ≤ 65535) (hd : 0 ≤ d ∧ d ≤ 65535) (hc : 0 ≤ c ∧ c ≤ 65535) :
    Calls Tryz.prog 33 #[.agg (udA s d c (.slice a m cb))] w fun e w' => ∃ u, e = .returned (.tuple #[u, .int .i64 0]) ∧
      w'.ownsRow w.heap.size 5 1 u n ((ud8 n s d c ++ body).map (Value.int .u8)) ∧ Below w.heap.size w w' := by
  have HR : Hid (Row w a body ∧ body.length = m ∧ n = 8 + m ∧ m ≤ 65527 ∧ (a = none → cb = 0)) := ⟨hr, hm, hn, h1, hnil⟩
  obtain ⟨s0, s1⟩ := hs
  obtain ⟨d0, d1⟩ := hd
  obtain ⟨c0, c1⟩ := hc
  have hmi : (m : Int) ≤ 65527 := by omega
  have HN : Hid (8 + (m : Int) = n) := by show 8 + (m : Int) = n; omega
  have hnw : IntKind.u16.wrap (8 + (m : Int)) = 8 + (m : Int) := wrap16_small _ (by omega) (by omega)
  have hnv : IntKind.i64.wrap (8 + (m : Int)) = 8 + (m : Int) := wrap64_small _ (by omega) (by omega)
  clear hr hm hn h1 hnil
  go_enter Tryz.func33, Tryz.ntmps33
  go_upto_region 3 with fail
  refine wp_letter (fun W => Inv udT w W (udA s d c (.slice a m cb)) (.slice none 0 0) 0 []) (inv_nil ((Mem.nil w).push w.heap.size _ rfl)) ?_
  intro w1 hI1
  have HI1 : Hid _ := hI1
  have D0 : w1.cell? ⟨w.heap.size, 0, none⟩ = some (.int .u16 s) := hI1.cell 0
  have D1 : w1.cell? ⟨w.heap.size, 1, none⟩ = some (.int .u16 d) := hI1.cell 1
  clear hI1
  go_cut [4] from 5 (fun s4 wx => Inv udT w wx (udA s d c (.slice a m cb)) s4 4 [s / 256, s % 256, d / 256, d % 256])
  case first =>
    go_region_held3 (fun w' => w'.cell? ⟨w.heap.size, 0, none⟩ = some (.int .u16 s) ∧ w'.cell? ⟨w.heap.size, 1, none⟩ = some (.int .u16 d))
      (first | go_keep | exact ⟨hI5.cell 0, hI5.cell 1⟩ | exact ⟨hI6.cell 0, hI6.cell 1⟩)
      (first
        | (go_at_call 52; with_reducible refine (put16_inv HI1.out.drew (by omega) s s0 s1).mono ?_; rintro e w5 ⟨v5, rfl, hI5⟩)
        | (go_at_call 52; with_reducible refine (put16_inv hI5 (by omega) d d0 d1).mono ?_; rintro e w6 ⟨v6, rfl, hI6⟩))
    all_goals
      go_wp2_with fail
      go_meet
      case rel => exact hI6
  case rest =>
  have HI2 : Hid _ := hcut
  have D2 : wc.cell? ⟨w.heap.size, 2, none⟩ = some (.int .u16 c) := hcut.cell 2
  have D3 : wc.cell? ⟨w.heap.size, 3, none⟩ = some (.slice a m cb) := hcut.cell 3
  clear hcut D0 D1 HI1
  go_upto_region 4 with fail
  go_cut [4] from 5 (fun s4 wx => Inv udT w wx (udA s d c (.slice a m cb)) s4 8 (ud8 n s d c))
  case first =>
    go_region_held3 (fun w' => w'.cell? ⟨w.heap.size, 2, none⟩ = some (.int .u16 c) ∧ w'.cell? ⟨w.heap.size, 3, none⟩ = some (.slice a m cb))
      (first | go_keep | exact ⟨hI5.cell 2, hI5.cell 3⟩ | exact ⟨hI6.cell 2, hI6.cell 3⟩)
      (first
        | (go_at_call 52; with_reducible refine (put16_inv HI2.out.drew (by omega) (8 + (m : Int)) (by omega) (by omega)).mono ?_; rintro e w5 ⟨v5, rfl, hI5⟩)
        | (go_at_call 52; with_reducible refine (put16_inv hI5 (by omega) c c0 c1).mono ?_; rintro e w6 ⟨v6, rfl, hI6⟩))
    all_goals
      go_wp2_with fail
      go_meet
      case rel => rw [HN.out] at hI6; exact hI6
  case rest =>
  have HI3 : Hid _ := hcut
  have E3 : wc.cell? ⟨w.heap.size, 3, none⟩ = some (.slice a m cb) := hcut.cell 3
  clear hcut HI2 D2 D3
  go_wp2_with (at_builtin; refine wpList_append_more _ rfl (.tmp 25) (.tmp 27) rfl (w.heap.size + 1) _ 8 _ rfl HI3.out.own a cb m body rfl HR.out.2.1 HR.out.2.2.2.2 (HI3.out.mem.row HR.out.1) (by omega) HI3.out.size ?_; intro v8 w8 hown8 hbel8)
  go_ret2
  rw [← HR.out.2.2.1, ← List.map_append] at hown8
  exact ⟨_, rfl, own_base hown8 (Nat.le_succ _), HI3.out.mem.below.trans (hbel8.mono (Nat.le_succ _))⟩

set_option maxHeartbeats 400000 in
theorem rubytes_big (w : World) (a : Option Addr) (m cb : Nat) (h1 : 65527 < m) (s d c : Int) :
    Calls Tryz.prog 33 #[.agg (udA s d c (.slice a m cb))] w fun e w' => e = .returned (.tuple #[.slice none 0 0, .int .i64 23]) ∧ Below w.heap.size w w' := by
  have h' : (65527 : Int) < m := by omega
  go_enter Tryz.func33, Tryz.ntmps33
  go_wp2
  go_ret2
  exact ⟨rfl, (Below.refl _ _).alloc (Nat.le_refl _) _⟩

/-- What lychref1.UdpBytes answers, whatever it is handed. -/
theorem rubytes_any {w : World} {B : Nat} {v : Value} {u : Dg} (hu : u.Ok) (hv : UdV w B v u) :
    Calls Tryz.prog 33 #[v] w fun r w' => ∃ x, r = .returned (.tuple #[x, .int .i64 (udbErr u)]) ∧ w'.ownsRow w.heap.size 5 1 x (udOut u).length ((udOut u).map (Value.int .u8)) ∧ Below w.heap.size w w' := by
  obtain ⟨bo, cb, rfl, hr, hnil, -⟩ := hv
  by_cases h : 65527 < u.body.length
  · have e : udbErr u = 23 := by unfold udbErr; rw [if_pos h]
    have e2 : udOut u = [] := by unfold udOut; rw [e]; rfl
    rw [e, e2]
    refine (rubytes_big w bo _ cb h _ _ _).mono ?_
    rintro r w' ⟨rfl, hb⟩
    exact ⟨_, rfl, World.ownsRow_nil _ _ _ _, hb⟩
  · have e : udbErr u = 0 := by unfold udbErr; rw [if_neg h]
    have e2 : udOut u = udb u := if_pos e
    rw [e, e2, udb_len]
    exact rubytes_ok hr _ cb (8 + u.body.length) rfl (by omega) rfl hnil u.src u.dst u.sum hu.src hu.dst hu.sum

end Go.Proofs.YtjalpbkfpjfigaaGreat

namespace Go.Proofs.YtjalpbkfpjfigaaGreat
open Go.RowKit
open Sm
set_option linter.unusedVariables false
set_option maxRecDepth 20000

theorem wraps_i64 (n : Int) (h0 : 0 ≤ n) (h1 : n < 2 ^ 63) : IntKind.i64.wrap n = n := by rw [IntKind.wrap_i64]; omega
theorem sm_low4 (x : Int) (h0 : 0 ≤ x) (h1 : x ≤ 255) : bits .and .u8 x 15 = x % 16 := bits_mask .u8 8 (by decide) wraps_u8 4 (by decide) x h0 (by omega)
theorem sm_word64 (x y : Int) (h0 : 0 ≤ x) (h1 : x ≤ 255) (h2 : 0 ≤ y) (h3 : y ≤ 255) : bits .or .i64 (x * 256) y = x * 256 + y :=
  bits_join .i64 63 (by decide) wraps_i64 8 (x * 256) y (by omega) (by omega) (by omega) h2 (by omega) (by omega)
theorem rd_mem (w : World) (v : Value) : Mem w (w.alloc (.cells #[v] rdT)) [(w.heap.size, .cells #[v] rdT (0, 0))] := (Mem.nil w).push w.heap.size (.cells #[v] rdT) rfl

set_option maxHeartbeats 1000000 in
theorem split_few {w : World} (a : Option Addr) (n c : Nat) (h : n < 20) :
    Calls Tryz.prog 97 #[.slice a n c] w fun r w' => r = .panicked (failing 20) ∧ Below w.heap.size w w' := by
  go_enter Tryz.func97, Tryz.ntmps97
  go_upto_region 2 with fail
  refine wp_letter (fun W => Mem w W [(w.heap.size, .cells #[.slice a n c] rdT (0, 0))]) (rd_mem ..) ?_
  intro w1 hM1
  have hn := need_no (hM1.cell 0 rfl 0) 20 h
  have HM1 : Hid _ := hM1
  clear hM1
  go_wp2_with fail
  refine hn.mono ?_
  rintro e w' ⟨rfl, rfl⟩
  exact ⟨rfl, rfl, HM1.out.below⟩

/-- What the walks of split know of the first bytes. -/
structure Front (w : World) (b off n : Nat) (x0 x2 x3 : Int) (k wl : Nat) : Prop where
  c0 : w.cell? ⟨b, off, none⟩ = some (.int .u8 x0)
  c2 : w.cell? ⟨b, off + 2, none⟩ = some (.int .u8 x2)
  c3 : w.cell? ⟨b, off + 3, none⟩ = some (.int .u8 x3)
  r0 : 0 ≤ x0 ∧ x0 ≤ 255
  r2 : 0 ≤ x2 ∧ x2 ≤ 255
  r3 : 0 ≤ x3 ∧ x3 ≤ 255
  hk : x0 % 16 = k
  hw : x2 * 256 + x3 = wl
  n0 : 20 ≤ n
  n1 : n ≤ 140737488351232

set_option maxHeartbeats 2000000 in
theorem split_form {w : World} {b off n : Nat} {x0 x2 x3 : Int} {k wl : Nat} (F : Front w b off n x0 x2 x3 k wl) (c : Nat) (h : ¬ (x0 / 16 = 4 ∧ 20 ≤ 4 * k ∧ 4 * k ≤ wl)) :
    Calls Tryz.prog 97 #[.slice (some ⟨b, off, none⟩) n c] w fun r w' => r = .panicked (failing 21) ∧ Below w.heap.size w w' := by
  obtain ⟨c0, c2, c3, ⟨r00, r01⟩, ⟨r20, r21⟩, ⟨r30, r31⟩, hk, hw, n0, n1⟩ := F
  have hand := sm_low4 x0 r00 r01
  rw [hk] at hand
  have hor := sm_word64 x2 x3 r20 r21 r30 r31
  rw [hw] at hor
  have k1 : (k : Int) ≤ 15 := by omega
  have wl1 : (wl : Int) ≤ 65535 := by omega
  have hb := cell_lt c0
  simp only at hb
  have v0 := wrap64_small x2 r20 (by omega)
  have v1 := wrap64_small x3 r30 (by omega)
  have v2 := wrap64_small (x2 * 256) (by omega) (by omega)
  have v3 := wrap64_small (k : Int) (by omega) (by omega)
  have v4 := wrap64_small (4 * (k : Int)) (by omega) (by omega)
  have i0 : (0 : Int) < n := by omega
  have i2 : (2 : Int) < n := by omega
  have i3 : (3 : Int) < n := by omega
  have HN0 : Hid (20 ≤ n) := n0
  have cases3 : x0 / 16 ≠ 4 ∨ (x0 / 16 = 4 ∧ ¬ (20 : Int) ≤ 4 * (k : Int)) ∨ (x0 / 16 = 4 ∧ (20 : Int) ≤ 4 * (k : Int) ∧ ¬ 4 * (k : Int) ≤ wl) := by omega
  clear hk hw h n0 n1
  rcases cases3 with hv | ⟨hv, h20⟩ | ⟨hv, h20, hle⟩
  all_goals
    go_enter Tryz.func97, Tryz.ntmps97
    go_upto_region 2 with fail
    refine wp_letter (fun W => Mem w W [(w.heap.size, .cells (rdr b off n c) rdT (0, 0))]) (rd_mem ..) ?_
    intro w1 hM1
    have hn := need_yes (hM1.cell 0 rfl 0) 20 HN0.out
    have d0 := (hM1.old (i := off) hb).trans c0
    have d2 := (hM1.old (i := off + 2) hb).trans c2
    have d3 := (hM1.old (i := off + 3) hb).trans c3
    have HM1 : Hid _ := hM1
    clear hM1
    go_wp2_with fail
    refine hn.mono ?_
    rintro e w' ⟨rfl, rfl⟩
    go_wp2_with fail
    go_quiet (fail)
    go_wp2_with fail
    first
      | refine (must_no 21 _).mono ?_
      | (rw [decide_eq_false (Int.not_le.mpr hle)]; refine (must_no 21 _).mono ?_)
    rintro e w' ⟨rfl, rfl⟩
    exact ⟨rfl, rfl, (HM1.out.drewN _).below⟩

set_option maxHeartbeats 2000000 in
theorem split_rest {w : World} {b off n : Nat} {x0 x2 x3 : Int} {k wl : Nat} (F : Front w b off n x0 x2 x3 k wl) (c : Nat) (hc : n ≤ c) (hv : x0 / 16 = 4) (h20 : 20 ≤ 4 * k) (hle : 4 * k ≤ wl) :
    Calls Tryz.prog 97 #[.slice (some ⟨b, off, none⟩) n c] w fun r w' => Below w.heap.size w w' ∧
      ((r = .panicked (failing 20) ∧ (n < 4 * k ∨ n < wl)) ∨
       (∃ o2, r = .returned (.tuple #[.slice (some ⟨b, off, none⟩) (4 * k) c, .slice (some ⟨b, o2, none⟩) (wl - 4 * k) (c - 4 * k)]) ∧ 4 * k ≤ n ∧ wl ≤ n ∧ (4 * k < n → o2 = off + 4 * k))) := by
  obtain ⟨c0, c2, c3, ⟨r00, r01⟩, ⟨r20, r21⟩, ⟨r30, r31⟩, hk, hw, n0, n1⟩ := F
  have hand := sm_low4 x0 r00 r01
  rw [hk] at hand
  have hor := sm_word64 x2 x3 r20 r21 r30 r31
  rw [hw] at hor
  have k1 : (k : Int) ≤ 15 := by omega
  have wl1 : (wl : Int) ≤ 65535 := by omega
  have hb := cell_lt c0
  simp only at hb
  have v0 := wrap64_small x2 r20 (by omega)
  have v1 := wrap64_small x3 r30 (by omega)
  have v2 := wrap64_small (x2 * 256) (by omega) (by omega)
  have v3 := wrap64_small (k : Int) (by omega) (by omega)
  have v4 := wrap64_small (4 * (k : Int)) (by omega) (by omega)
  have v5 := wrap64_small ((wl : Int) - 4 * (k : Int)) (by omega) (by omega)
  have i0 : (0 : Int) < n := by omega
  have i2 : (2 : Int) < n := by omega
  have i3 : (3 : Int) < n := by omega
  have HN0 : Hid (20 ≤ n ∧ n ≤ 140737488351232 ∧ n ≤ c ∧ 4 * k ≤ wl) := ⟨n0, n1, hc, hle⟩
  have h20' : (20 : Int) ≤ 4 * (k : Int) := by omega
  have hle' : 4 * (k : Int) ≤ wl := by omega
  have e1 : 4 * (k : Int) = ((4 * k : Nat) : Int) := by omega
  have e2 : (wl : Int) - 4 * (k : Int) = ((wl - 4 * k : Nat) : Int) := by omega
  have HE1 : Hid (4 * (k : Int) = ((4 * k : Nat) : Int)) := e1
  have HE2 : Hid ((wl : Int) - 4 * (k : Int) = ((wl - 4 * k : Nat) : Int)) := e2
  clear hk hw n0 n1 hc h20 hle e1 e2
  go_enter Tryz.func97, Tryz.ntmps97
  go_upto_region 2 with fail
  refine wp_letter (fun W => Mem w W [(w.heap.size, .cells (rdr b off n c) rdT (0, 0))]) (rd_mem ..) ?_
  intro w1 hM1
  have hn := need_yes (hM1.cell 0 rfl 0) 20 HN0.out.1
  have d0 := (hM1.old (i := off) hb).trans c0
  have d2 := (hM1.old (i := off + 2) hb).trans c2
  have d3 := (hM1.old (i := off + 3) hb).trans c3
  have HM1 : Hid _ := hM1
  clear hM1
  go_wp2_with fail
  refine hn.mono ?_
  rintro e w' ⟨rfl, rfl⟩
  go_wp2_with fail
  go_quiet (fail)
  go_wp2_with fail
  refine (must_yes 21 _).mono ?_
  rintro e w' ⟨rfl, rfl⟩
  have HM2 : Hid _ := HM1.out.drewN nq
  generalize w1.drewN nq = w2 at HM2 ⊢
  clear HM1 hn d0 d2 d3
  go_wp2_with fail
  rw [HE1.out]
  by_cases h1 : 4 * k ≤ n
  · refine (take_wrote (HM2.out.get 0 rfl) (4 * k) h1 HN0.out.2.2.1 HN0.out.2.1).mono ?_
    rintro e w3 ⟨rfl, o2, ho2, hw3⟩
    have HM3 : Hid _ := HM2.out.wrote 0 rfl hw3
    have HO2 : Hid _ := ho2
    clear HM2 hw3 ho2
    go_wp2_with fail
    rw [HE2.out]
    by_cases h2 : wl ≤ n
    · refine (take_wrote (HM3.out.get 0 rfl) (wl - 4 * k) (by omega) (by have := HN0.out; omega) (by have := HN0.out; omega)).mono ?_
      rintro e w4 ⟨rfl, o3, ho3, hw4⟩
      have HM4 : Hid _ := HM3.out.wrote 0 rfl hw4
      clear HM3 hw4 ho3
      go_wp2_with fail
      go_ret2
      exact ⟨HM4.out.below, Or.inr ⟨o2, rfl, h1, h2, HO2.out⟩⟩
    · refine (take_no (HM3.out.cell 0 rfl 0) (wl - 4 * k) (by have := HN0.out; omega)).mono ?_
      rintro e w4 ⟨rfl, rfl⟩
      exact ⟨rfl, HM3.out.below, Or.inl ⟨rfl, Or.inr (by omega)⟩⟩
  · refine (take_no (HM2.out.cell 0 rfl 0) (4 * k) (by omega)).mono ?_
    rintro e w4 ⟨rfl, rfl⟩
    exact ⟨rfl, HM2.out.below, Or.inl ⟨rfl, Or.inl (by omega)⟩⟩
end Go.Proofs.YtjalpbkfpjfigaaGreat

namespace Go.Proofs.YtjalpbkfpjfigaaGreat
open Go.RowKit
open Sm
set_option linter.unusedVariables false

set_option maxHeartbeats 400000 in
theorem tparse_short (a : Option Addr) (n cap : Nat) (w : World) (h : n < 20) :
    Calls Tryz.prog 77 #[.slice a n cap] w fun e w' => e = .returned (.tuple #[.agg tc0, .int .i64 20]) ∧ Below w.heap.size w w' := by
  have h' : (n : Int) < 20 := by omega
  go_enter Tryz.func77, Tryz.ntmps77
  go_wp2
  refine bodyPost_ret (v := .tuple #[.agg tc0, .int .i64 20]) (by simp [results, Tryz.results77, go_sem]) rfl ⟨rfl, ?_⟩
  exact (Below.refl _ _).alloc (Nat.le_refl _) _

set_option maxHeartbeats 1000000 in
theorem tparse_no {w : World} {b off n cap : Nat} (x k : Nat) (c12 : w.cell? ⟨b, off + 12, none⟩ = some (.int .u8 x)) (hx : x ≤ 255) (hk : x / 16 = k) (h20 : 20 ≤ n) (hnl : n ≤ 140737488351232) (E : Int) (hE : (k < 5 ∧ E = 21) ∨ (5 ≤ k ∧ n < 4 * k ∧ E = 20)) :
    Calls Tryz.prog 77 #[.slice (some ⟨b, off, none⟩) n cap] w fun e w' => e = .returned (.tuple #[.agg tc0, .int .i64 E]) ∧ Below w.heap.size w w' := by
  have h20' : (20 : Int) ≤ n := by omega
  have h12 : (12 : Int) < n := by omega
  have hb : b < w.heap.size := cell_lt c12
  have hM := (Mem.nil w).push w.heap.size (.cells tc0 tcT) rfl
  have c12' : (w.alloc (.cells tc0 tcT)).cell? ⟨b, off + 12, none⟩ = some (.int .u8 x) := (hM.old hb).trans c12
  have hdv : (x : Int) / 16 = k := by omega
  have w1 : IntKind.i64.wrap (k : Int) = k := wrap64_small _ (by omega) (by omega)
  have w2 : IntKind.i64.wrap (4 * (k : Int)) = 4 * (k : Int) := wrap64_small _ (by omega) (by omega)
  clear hM c12
  rcases hE with ⟨h1, rfl⟩ | ⟨h1, h2, rfl⟩
  · have h1' : 4 * (k : Int) < 20 := by omega
    go_enter Tryz.func77, Tryz.ntmps77
    go_wp2_with fail
    refine bodyPost_ret (v := .tuple #[.agg tc0, .int .i64 21]) (by simp [results, Tryz.results77, go_sem]) rfl ⟨rfl, ?_⟩
    repeat (refine below_set ?_ (Nat.le_refl _))
    exact (Below.refl _ _).alloc (Nat.le_refl _) _
  · have h1' : (20 : Int) ≤ 4 * (k : Int) := by omega
    have h2' : (n : Int) < 4 * (k : Int) := by omega
    go_enter Tryz.func77, Tryz.ntmps77
    go_wp2_with fail
    refine bodyPost_ret (v := .tuple #[.agg tc0, .int .i64 20]) (by simp [results, Tryz.results77, go_sem]) rfl ⟨rfl, ?_⟩
    repeat (refine below_set ?_ (Nat.le_refl _))
    exact (Below.refl _ _).alloc (Nat.le_refl _) _
end Go.Proofs.YtjalpbkfpjfigaaGreat

