/-
  What the document's own lychref1.Udp and lychref1.UdpBytes answer, and lychhelp.Udp over two datagrams that are the same.
  What the document's own lychref1.IcmpBytes answers, whatever it is handed.
  What tcp.putWord and tcp.putLong write.
-/
import Derived.Test.YtjalpbkfpjfigaaM09
import Derived.Test.YtjalpbkfpjfigaaM08
import Derived.Test.YtjalpbkfpjfigaaM10
namespace Go.Proofs.Ytjalpbkfpjfigaa
open Go.RowKit
open Sm
set_option linter.unusedVariables false

theorem get16_at {w : World} {b off : Nat} {l : List Int} (h : Row w (some ⟨b, off, none⟩) l) (i : Nat) (n cap : Nat) (hn : l.length = n) (hi : i + 1 < n) (X : Int) (hX : w16 l i = X) :
    Calls Try.prog 30 #[.slice (some ⟨b, off, none⟩) n cap, .int .i64 i] w fun e w' => e = .returned (.int .u16 X) ∧ ∃ q, w' = w.drewN q := by
  subst hX hn
  have b0 := h.bytes i
  have b1 := h.bytes (i + 1)
  have hl := h.len
  exact get16_row i _ _ (h.cellAt i (by omega)) (h.cellAt (i + 1) (by omega)) b0.1 b0.2 b1.1 b1.2 _ cap hi hl

set_option maxHeartbeats 400000 in
theorem rudp_short (a : Option Addr) (n cap : Nat) (w : World) (h : n < 8) :
    Calls Try.prog 15 #[.slice a n cap] w fun e w' => e = .returned (.tuple #[.agg ud0, .int .i64 20]) ∧ Below w.heap.size w w' := by
  have h' : (n : Int) < 8 := by omega
  go_enter Try.func15, Try.ntmps15
  go_wp2
  refine bodyPost_ret (v := .tuple #[.agg ud0, .int .i64 20]) (by simp [results, Try.results15, go_sem]) rfl ⟨rfl, ?_⟩
  exact (Below.refl _ _).alloc (Nat.le_refl _) _

set_option maxHeartbeats 400000 in
theorem rudp_no {w : World} {b off n cap : Nat} {l : List Int} (h : Row w (some ⟨b, off, none⟩) l) (hn : l.length = n) (h8 : 8 ≤ n) (K : Nat) (hK : w16 l 4 = K) (E : Int) (hE : (K < 8 ∧ E = 21) ∨ (8 ≤ K ∧ n < K ∧ E = 20)) :
    Calls Try.prog 15 #[.slice (some ⟨b, off, none⟩) n cap] w fun e w' => e = .returned (.tuple #[.agg ud0, .int .i64 E]) ∧ Below w.heap.size w w' := by
  have h8' : (8 : Int) ≤ n := by omega
  have hKb := w16_range h.bytes 4
  have hKi : (K : Int) ≤ 65535 := by omega
  have hw := get16_at (w := w.alloc (.cells ud0 udT)) (row_alloc h) 4 n cap hn (by omega) K hK
  have hnl := h.len
  have hnl' : (n : Int) ≤ 140737488351232 := by omega
  clear h hn hKb hnl
  rcases hE with ⟨h1, rfl⟩ | ⟨h1, h2, rfl⟩
  · have h1' : (K : Int) < 8 := by omega
    go_enter Try.func15, Try.ntmps15
    go_wp2_with fail
    refine hw.mono ?_
    rintro e w' ⟨rfl, q, rfl⟩
    go_wp2_with fail
    refine bodyPost_ret (v := .tuple #[.agg ud0, .int .i64 21]) (by simp [results, Try.results15, go_sem]) rfl ⟨rfl, ?_⟩
    repeat (refine below_set ?_ (Nat.le_refl _))
    exact below_drewN ((Below.refl _ _).alloc (Nat.le_refl _) _) _
  · have h1' : (8 : Int) ≤ K := by omega
    have h2' : (n : Int) < K := by omega
    go_enter Try.func15, Try.ntmps15
    go_wp2_with fail
    refine hw.mono ?_
    rintro e w' ⟨rfl, q, rfl⟩
    go_wp2_with fail
    refine bodyPost_ret (v := .tuple #[.agg ud0, .int .i64 20]) (by simp [results, Try.results15, go_sem]) rfl ⟨rfl, ?_⟩
    repeat (refine below_set ?_ (Nat.le_refl _))
    exact below_drewN ((Below.refl _ _).alloc (Nat.le_refl _) _) _

set_option maxHeartbeats 1000000 in
theorem rudp_ok {w : World} {b off n cap : Nat} {l : List Int} (h : Row w (some ⟨b, off, none⟩) l) (hn : l.length = n) (hc : n ≤ cap) (K m : Nat) (hK : w16 l 4 = K) (h8 : K = 8 + m) (hKn : K ≤ n) (X0 X2 X6 : Int) (e0 : w16 l 0 = X0) (e2 : w16 l 2 = X2) (e6 : w16 l 6 = X6) (body : List Int) (hbd : (l.drop 8).take m = body) :
    Calls Try.prog 15 #[.slice (some ⟨b, off, none⟩) n cap] w fun e w' => ∃ ao c, e = .returned (.tuple #[.agg (udA X0 X2 X6 (.slice ao m c)), .int .i64 0]) ∧ Row w' ao body ∧ (ao = none → c = 0) ∧ (∀ x, ao = some x → w.heap.size ≤ x.block) ∧ Below w.heap.size w w' := by
  have h8' : (8 : Int) ≤ n := by omega
  have hKb := w16_range h.bytes 4
  have hKi : (K : Int) ≤ 65535 := by omega
  have hK8 : (8 : Int) ≤ K := by omega
  have hKn' : (K : Int) ≤ n := by omega
  have hw : ∀ W L, Mem w W L → ∀ (i : Nat) X, i + 1 < n → w16 l i = X → Calls Try.prog 30 #[.slice (some ⟨b, off, none⟩) n cap, .int .i64 i] W fun e w' => e = .returned (.int .u16 X) ∧ ∃ q, w' = W.drewN q := fun W L hM i X hi hX => get16_at (hM.row h) i n cap hn hi X hX
  have hcu : ∀ W L, Mem w W L → Calls Try.prog 34 #[.slice (some ⟨b, off, none⟩) n cap, .int .i64 8, .int .i64 K] W _ := fun W L hM => by
    have := cut_row (hM.row h) n cap 8 m hn hc (by omega) (by omega)
    rw [hbd, ← h8] at this
    exact this
  have hnl := h.len
  have hnl' : (n : Int) ≤ 140737488351232 := by omega
  have hbl : body.length = m := by rw [← hbd]; simp; omega
  have hbb : IsBytes body := by rw [← hbd]; exact bytes_part h.bytes _ _
  have HE : Hid (w16 l 0 = X0 ∧ w16 l 2 = X2 ∧ w16 l 6 = X6 ∧ w16 l 4 = K ∧ body.length = m ∧ IsBytes body ∧ m ≤ 70000 ∧ 8 ≤ n) := ⟨e0, e2, e6, hK, hbl, hbb, by omega, by omega⟩
  have HM1 : Hid (Mem w (w.alloc (.cells ud0 udT)) [(w.heap.size, .cells ud0 udT)]) := (Mem.nil w).push w.heap.size (.cells ud0 udT) rfl
  have HW : Hid _ := hw
  have HC : Hid _ := hcu
  clear h hn hc hKb hnl e0 e2 e6 hbd hbl hbb h8 hKn hK hw hcu
  go_enter Try.func15, Try.ntmps15
  go_wp2_with fail
  refine (HW.out _ _ HM1.out 4 K (by have := HE.out; omega) HE.out.2.2.2.1).mono ?_
  rintro e w' ⟨rfl, q1, rfl⟩
  have HM2 : Hid _ := HM1.out.drewN q1
  clear HM1
  generalize (w.alloc (.cells ud0 udT)).drewN q1 = w1 at *
  go_wp2_with fail
  refine (HW.out _ _ HM2.out 0 X0 (by have := HE.out; omega) HE.out.1).mono ?_
  rintro e w' ⟨rfl, q2, rfl⟩
  have HM3 : Hid _ := HM2.out.drewN q2
  clear HM2
  generalize w1.drewN q2 = w2 at *
  go_wp2_with fail
  refine (HW.out _ _ HM3.out 2 X2 (by have := HE.out; omega) HE.out.2.1).mono ?_
  rintro e w' ⟨rfl, q3, rfl⟩
  have HM4 : Hid _ := HM3.out.drewN q3
  clear HM3
  generalize w2.drewN q3 = w3 at *
  go_wp2_with fail
  refine (HW.out _ _ HM4.out 6 X6 (by have := HE.out; omega) HE.out.2.2.1).mono ?_
  rintro e w' ⟨rfl, q4, rfl⟩
  have HM5 : Hid _ := HM4.out.drewN q4
  clear HM4
  generalize w3.drewN q4 = w4 at *
  go_wp2_with fail
  refine (HC.out _ _ HM5.out).mono ?_
  rintro e w5 ⟨v1, rfl, hown, hbel⟩
  obtain ⟨ao, c, rfl, hrow, hnil, hfar, -⟩ := own_read hown HE.out.2.2.2.2.1 HE.out.2.2.2.2.2.1 (by have := HE.out; omega)
  have hM6 := HM5.out.after hbel
  have hlt : w.heap.size < w4.heap.size := HM5.out.lt (p := (w.heap.size, _)) (List.mem_cons_self ..)
  have HF : Hid ((∀ x, ao = some x → w.heap.size ≠ x.block) ∧ (∀ x, ao = some x → w.heap.size ≤ x.block) ∧ (ao = none → c = 0)) := ⟨fun x hx => by have := hfar x hx; omega, fun x hx => by have := hfar x hx; omega, hnil⟩
  have HM6 : Hid _ := hM6
  have kr : ∀ i, w5.cell? ⟨w.heap.size, i, none⟩ = ud0[i]? := hM6.cell 0 rfl
  have kf : ∀ i, w5.frozen? ⟨w.heap.size, i, none⟩ = false := hM6.free 0 rfl
  have HO : Hid (Row w5 ao body) := hrow
  clear hown hrow hnil hfar hM6 hbel hlt HM5
  go_wp2_with fail
  refine bodyPost_ret (v := .tuple #[.agg (udA X0 X2 X6 (.slice ao m c)), .int .i64 0]) (by simp [results, Try.results15, go_sem, kr]) rfl ⟨ao, c, rfl, ?_, HF.out.2.2, HF.out.2.1, ?_⟩
  · iterate 4 (refine Row.far ?_ HF.out.1)
    exact HO.out
  · iterate 4 (refine below_set ?_ (Nat.le_refl _))
    exact HM6.out.below

/-- What lychref1.Udp answers, whatever it is handed. -/
theorem rudp_any {w : World} {a : Option Addr} {n c : Nat} {l : List Int} (hr : Row w a l) (hn : l.length = n) (hc : n ≤ c) :
    Calls Try.prog 15 #[.slice a n c] w fun r w' => ∃ v, r = .returned (.tuple #[v, .int .i64 (udErr l)]) ∧ UdV w' w.heap.size v (udRes l) ∧ Below w.heap.size w w' := by
  subst hn
  by_cases h1 : l.length < 8
  · have e : udErr l = 20 := by unfold udErr; rw [if_pos h1]
    rw [e, show udRes l = Dg.zero from if_neg (by rw [e]; decide)]
    refine (rudp_short a _ c w h1).mono ?_
    rintro r w' ⟨rfl, hb⟩
    exact ⟨_, rfl, udv_zero _ _, hb⟩
  rcases hr.cells with e0 | ⟨b, off, rfl, -⟩
  · rw [e0] at h1; simp at h1
  have hw := w16_range hr.bytes 4
  have hk : w16 l 4 = (ulen l : Nat) := by unfold ulen; omega
  by_cases h2 : ulen l < 8
  · have e : udErr l = 21 := by unfold udErr; rw [if_neg h1, if_pos h2]
    rw [e, show udRes l = Dg.zero from if_neg (by rw [e]; decide)]
    refine (rudp_no hr rfl (by omega) (ulen l) hk 21 (Or.inl ⟨h2, rfl⟩)).mono ?_
    rintro r w' ⟨rfl, hb⟩
    exact ⟨_, rfl, udv_zero _ _, hb⟩
  by_cases h3 : l.length < ulen l
  · have e : udErr l = 20 := by unfold udErr; rw [if_neg h1, if_neg h2, if_pos h3]
    rw [e, show udRes l = Dg.zero from if_neg (by rw [e]; decide)]
    refine (rudp_no hr rfl (by omega) (ulen l) hk 20 (Or.inr ⟨by omega, h3, rfl⟩)).mono ?_
    rintro r w' ⟨rfl, hb⟩
    exact ⟨_, rfl, udv_zero _ _, hb⟩
  · have e : udErr l = 0 := by unfold udErr; rw [if_neg h1, if_neg h2, if_neg h3]
    rw [e, show udRes l = udDg l from if_pos e]
    have hl : ((l.drop 8).take (ulen l - 8)).length = ulen l - 8 := by simp; omega
    refine (rudp_ok hr rfl hc (ulen l) (ulen l - 8) hk (by omega) (by omega) _ _ _ rfl rfl rfl _ rfl).mono ?_
    rintro r w' ⟨ao, co, rfl, hrow, hn, hg, hb⟩
    exact ⟨_, rfl, ⟨ao, co, by simp only [udDg]; rw [hl], hrow, hn, hg⟩, hb⟩

set_option maxHeartbeats 2000000 in
theorem rubytes_ok {w : World} {a : Option Addr} {body : List Int} (hr : Row w a body) (m cb n : Nat) (hm : body.length = m) (h1 : m ≤ 65527) (hn : n = 8 + m) (hnil : a = none → cb = 0) (s d c : Int) (hs : 0 ≤ s ∧ s ≤ 65535) (hd : 0 ≤ d ∧ d ≤ 65535) (hc : 0 ≤ c ∧ c ≤ 65535) :
    Calls Try.prog 35 #[.agg (udA s d c (.slice a m cb))] w fun e w' => ∃ u, e = .returned (.tuple #[u, .int .i64 0]) ∧
      w'.ownsRow w.heap.size 5 1 u n ((ud8 n s d c ++ body).map (Value.int .u8)) ∧ Below w.heap.size w w' := by
  have HR : Hid (Row w a body ∧ body.length = m ∧ n = 8 + m ∧ m ≤ 65527 ∧ (a = none → cb = 0)) := ⟨hr, hm, hn, h1, hnil⟩
  obtain ⟨s0, s1⟩ := hs
  obtain ⟨d0, d1⟩ := hd
  obtain ⟨c0, c1⟩ := hc
  have hmi : (m : Int) ≤ 65527 := by omega
  have HN : Hid (8 + (m : Int) = n) := by show 8 + (m : Int) = n; omega
  have hnw : IntKind.u16.wrap (8 + (m : Int)) = 8 + (m : Int) := wrap16_small _ (by omega) (by omega)
  have hnv : IntKind.i64.wrap (8 + (m : Int)) = 8 + (m : Int) := wrap64_small _ (by omega) (by omega)
  clear hr hm hn h1 hnil
  go_enter Try.func35, Try.ntmps35
  go_upto_region 3 with fail
  refine wp_letter (fun W => Inv udT w W (udA s d c (.slice a m cb)) (.slice none 0 0) 0 []) (inv_nil ((Mem.nil w).push w.heap.size _ rfl)) ?_
  intro w1 hI1
  have HI1 : Hid _ := hI1
  have D0 : w1.cell? ⟨w.heap.size, 0, none⟩ = some (.int .u16 s) := hI1.cell 0
  have D1 : w1.cell? ⟨w.heap.size, 1, none⟩ = some (.int .u16 d) := hI1.cell 1
  clear hI1
  go_cut [4] from 5 (fun s4 wx => Inv udT w wx (udA s d c (.slice a m cb)) s4 4 [s / 256, s % 256, d / 256, d % 256])
  case first =>
    go_region_held3 (fun w' => w'.cell? ⟨w.heap.size, 0, none⟩ = some (.int .u16 s) ∧ w'.cell? ⟨w.heap.size, 1, none⟩ = some (.int .u16 d))
      (first | go_keep | exact ⟨hI5.cell 0, hI5.cell 1⟩ | exact ⟨hI6.cell 0, hI6.cell 1⟩)
      (first
        | (go_at_call 42; with_reducible refine (put16_inv HI1.out.drew (by omega) s s0 s1).mono ?_; rintro e w5 ⟨v5, rfl, hI5⟩)
        | (go_at_call 42; with_reducible refine (put16_inv hI5 (by omega) d d0 d1).mono ?_; rintro e w6 ⟨v6, rfl, hI6⟩))
    all_goals
      go_wp2_with fail
      go_meet
      case rel => exact hI6
  case rest =>
  have HI2 : Hid _ := hcut
  have D2 : wc.cell? ⟨w.heap.size, 2, none⟩ = some (.int .u16 c) := hcut.cell 2
  have D3 : wc.cell? ⟨w.heap.size, 3, none⟩ = some (.slice a m cb) := hcut.cell 3
  clear hcut D0 D1 HI1
  go_upto_region 4 with fail
  go_cut [4] from 5 (fun s4 wx => Inv udT w wx (udA s d c (.slice a m cb)) s4 8 (ud8 n s d c))
  case first =>
    go_region_held3 (fun w' => w'.cell? ⟨w.heap.size, 2, none⟩ = some (.int .u16 c) ∧ w'.cell? ⟨w.heap.size, 3, none⟩ = some (.slice a m cb))
      (first | go_keep | exact ⟨hI5.cell 2, hI5.cell 3⟩ | exact ⟨hI6.cell 2, hI6.cell 3⟩)
      (first
        | (go_at_call 42; with_reducible refine (put16_inv HI2.out.drew (by omega) (8 + (m : Int)) (by omega) (by omega)).mono ?_; rintro e w5 ⟨v5, rfl, hI5⟩)
        | (go_at_call 42; with_reducible refine (put16_inv hI5 (by omega) c c0 c1).mono ?_; rintro e w6 ⟨v6, rfl, hI6⟩))
    all_goals
      go_wp2_with fail
      go_meet
      case rel => rw [HN.out] at hI6; exact hI6
  case rest =>
  have HI3 : Hid _ := hcut
  have E3 : wc.cell? ⟨w.heap.size, 3, none⟩ = some (.slice a m cb) := hcut.cell 3
  clear hcut HI2 D2 D3
  go_wp2_with (at_builtin; refine wpList_append_more _ rfl (.tmp 25) (.tmp 27) rfl (w.heap.size + 1) _ 8 _ rfl HI3.out.own a cb m body rfl HR.out.2.1 HR.out.2.2.2.2 (HI3.out.mem.row HR.out.1) (by omega) HI3.out.size ?_; intro v8 w8 hown8 hbel8)
  go_ret2
  rw [← HR.out.2.2.1, ← List.map_append] at hown8
  exact ⟨_, rfl, own_base hown8 (Nat.le_succ _), HI3.out.mem.below.trans (hbel8.mono (Nat.le_succ _))⟩

set_option maxHeartbeats 400000 in
theorem rubytes_big (w : World) (a : Option Addr) (m cb : Nat) (h1 : 65527 < m) (s d c : Int) :
    Calls Try.prog 35 #[.agg (udA s d c (.slice a m cb))] w fun e w' => e = .returned (.tuple #[.slice none 0 0, .int .i64 23]) ∧ Below w.heap.size w w' := by
  have h' : (65527 : Int) < m := by omega
  go_enter Try.func35, Try.ntmps35
  go_wp2
  go_ret2
  exact ⟨rfl, (Below.refl _ _).alloc (Nat.le_refl _) _⟩

/-- What lychref1.UdpBytes answers, whatever it is handed. -/
theorem rubytes_any {w : World} {B : Nat} {v : Value} {u : Dg} (hu : u.Ok) (hv : UdV w B v u) :
    Calls Try.prog 35 #[v] w fun r w' => ∃ x, r = .returned (.tuple #[x, .int .i64 (udbErr u)]) ∧ w'.ownsRow w.heap.size 5 1 x (udOut u).length ((udOut u).map (Value.int .u8)) ∧ Below w.heap.size w w' := by
  obtain ⟨bo, cb, rfl, hr, hnil, -⟩ := hv
  by_cases h : 65527 < u.body.length
  · have e : udbErr u = 23 := by unfold udbErr; rw [if_pos h]
    have e2 : udOut u = [] := by unfold udOut; rw [e]; rfl
    rw [e, e2]
    refine (rubytes_big w bo _ cb h _ _ _).mono ?_
    rintro r w' ⟨rfl, hb⟩
    exact ⟨_, rfl, World.ownsRow_nil _ _ _ _, hb⟩
  · have e : udbErr u = 0 := by unfold udbErr; rw [if_neg h]
    have e2 : udOut u = udb u := if_pos e
    rw [e, e2, udb_len]
    exact rubytes_ok hr _ cb (8 + u.body.length) rfl (by omega) rfl hnil u.src u.dst u.sum hu.src hu.dst hu.sum

end Go.Proofs.Ytjalpbkfpjfigaa

namespace Go.Proofs.Ytjalpbkfpjfigaa
open Go.RowKit
open Sm
set_option linter.unusedVariables false

/-- Two bytes that were just laid, as the row that grows. -/
theorem inv_two {T : TypeId} {w W : World} {pA : Array Value} {v : Value} {n : Nat} {L : List Int} (h : Inv T w W pA v n L) (x y : Int) {g : Nat} (hg : g = W.heap.size) :
    Inv T w (W.alloc (.cells #[.int .u8 x, .int .u8 y] 5)) pA (.slice (some ⟨g, 0, none⟩) 2 2) 2 [x, y] := by
  subst hg
  refine h.next ?_ ((Below.refl _ _).alloc h.size _)
  have hM := (Mem.nil W).push W.heap.size (.cells (bs [x, y]) 5) rfl
  exact own_base (mem_owns hM 0 rfl 2 rfl (by omega)) h.size

set_option maxRecDepth 20000 in
set_option maxHeartbeats 4000000 in
theorem rmbytes_ok {w : World} {a : Option Addr} {body : List Int} (hr : Row w a body) (m cb n : Nat) (hm : body.length = m) (h1 : m ≤ 65507) (hn : n = 8 + m) (hnil : a = none → cb = 0) (t k c r : Int) (ht : 0 ≤ t ∧ t ≤ 255) (hk : 0 ≤ k ∧ k ≤ 255) (hc : 0 ≤ c ∧ c ≤ 65535) (hrr : 0 ≤ r ∧ r ≤ 4294967295) :
    Calls Try.prog 26 #[.agg (mgA t k c r (.slice a m cb))] w fun e w' => ∃ u, e = .returned (.tuple #[u, .int .i64 0]) ∧
      w'.ownsRow w.heap.size 5 1 u n ((mg8 t k c r ++ body).map (Value.int .u8)) ∧ Below w.heap.size w w' := by
  have HR : Hid (Row w a body ∧ body.length = m ∧ n = 8 + m ∧ m ≤ 65507 ∧ (a = none → cb = 0)) := ⟨hr, hm, hn, h1, hnil⟩
  have H : Hid ((0 ≤ c ∧ c ≤ 65535) ∧ 0 ≤ r ∧ r ≤ 4294967295) := ⟨hc, hrr⟩
  have hmi : (m : Int) ≤ 65507 := by omega
  clear hr hm hn h1 hnil ht hk hc hrr
  go_enter Try.func26, Try.ntmps26
  go_upto_region 3 with fail
  refine wp_letter (fun W => Inv mgT w W (mgA t k c r (.slice a m cb)) (.slice none 0 0) 0 []) (inv_nil ((Mem.nil w).push w.heap.size _ rfl)) ?_
  intro w1 hI1
  have HI1 : Hid _ := hI1
  have D0 : w1.cell? ⟨w.heap.size, 0, none⟩ = some (.int .u8 t) := hI1.cell 0
  have D1 : w1.cell? ⟨w.heap.size, 1, none⟩ = some (.int .u8 k) := hI1.cell 1
  have D2 : w1.cell? ⟨w.heap.size, 2, none⟩ = some (.int .u16 c) := hI1.cell 2
  have D3 : w1.cell? ⟨w.heap.size, 3, none⟩ = some (.int .u32 r) := hI1.cell 3
  have D4 : w1.cell? ⟨w.heap.size, 4, none⟩ = some (.slice a m cb) := hI1.cell 4
  clear hI1
  go_region_held3 (fun w' => w'.cell? ⟨w.heap.size, 0, none⟩ = some (.int .u8 t) ∧ w'.cell? ⟨w.heap.size, 1, none⟩ = some (.int .u8 k) ∧ w'.cell? ⟨w.heap.size, 2, none⟩ = some (.int .u16 c) ∧ w'.cell? ⟨w.heap.size, 3, none⟩ = some (.int .u32 r) ∧ w'.cell? ⟨w.heap.size, 4, none⟩ = some (.slice a m cb))
    (first | go_keep | exact ⟨hI5.cell 0, hI5.cell 1, hI5.cell 2, hI5.cell 3, hI5.cell 4⟩ | exact ⟨hI6.cell 0, hI6.cell 1, hI6.cell 2, hI6.cell 3, hI6.cell 4⟩ | exact ⟨hI7.cell 0, hI7.cell 1, hI7.cell 2, hI7.cell 3, hI7.cell 4⟩ | exact ⟨(HI1.out.grows _).cell 0, (HI1.out.grows _).cell 1, (HI1.out.grows _).cell 2, (HI1.out.grows _).cell 3, (HI1.out.grows _).cell 4⟩)
    (first
      | (go_at_call 42; with_reducible refine (put16_inv (inv_two HI1.out t k (g := w1.heap.size) rfl).drew (by omega) c H.out.1.1 H.out.1.2).mono ?_; rintro e w5 ⟨v5, rfl, hI5⟩)
      | (go_at_call 43; with_reducible refine (put32_inv hI5 (by omega) r H.out.2.1 H.out.2.2).mono ?_; rintro e w6 ⟨v6, rfl, hI6⟩)
      | (refine step_append_bytes rfl (.tmp 18) (.tmp 20) rfl (w.heap.size + 1) v6 8 _ (by simp [Act.eval]) hI6.own a cb m body (by simp [Act.eval]) HR.out.2.1 HR.out.2.2.2.2 (hI6.mem.row HR.out.1) (by have := HR.out; omega) hI6.size ?_; intro v7 w7 hown7 hbel7; have hI7 : Inv mgT w w7 (mgA t k c r (.slice a m cb)) v7 (8 + m) (mg8 t k c r ++ body) := hI6.next (by rw [List.map_append]; exact hown7) hbel7))
  all_goals
    have HI7 : Hid _ := hI7
    clear hI5 hI6 hI7 hown7 hbel7
    go_wp2_with fail
    go_ret2
    exact ⟨_, rfl, by rw [HR.out.2.2.1]; exact own_base HI7.out.own (Nat.le_succ _), HI7.out.mem.below⟩

set_option maxHeartbeats 400000 in
theorem rmbytes_big (w : World) (a : Option Addr) (m cb : Nat) (h1 : 65507 < m) (t k c r : Int) :
    Calls Try.prog 26 #[.agg (mgA t k c r (.slice a m cb))] w fun e w' => e = .returned (.tuple #[.slice none 0 0, .int .i64 23]) ∧ Below w.heap.size w w' := by
  have h' : (65507 : Int) < m := by omega
  go_enter Try.func26, Try.ntmps26
  go_wp2
  go_ret2
  exact ⟨rfl, (Below.refl _ _).alloc (Nat.le_refl _) _⟩

/-- What lychref1.IcmpBytes answers, whatever it is handed. -/
theorem rmbytes_any {w : World} {B : Nat} {v : Value} {q : Mg} (hq : q.Ok) (hv : MgV w B v q) :
    Calls Try.prog 26 #[v] w fun r w' => ∃ x, r = .returned (.tuple #[x, .int .i64 (mgbErr q)]) ∧ w'.ownsRow w.heap.size 5 1 x (mgOut q).length ((mgOut q).map (Value.int .u8)) ∧ Below w.heap.size w w' := by
  obtain ⟨bo, cb, rfl, hr, hnil, -⟩ := hv
  by_cases h : 65507 < q.body.length
  · have e : mgbErr q = 23 := by unfold mgbErr; rw [if_pos h]
    have e2 : mgOut q = [] := by unfold mgOut; rw [e]; rfl
    rw [e, e2]
    refine (rmbytes_big w bo _ cb h _ _ _ _).mono ?_
    rintro r w' ⟨rfl, hb⟩
    exact ⟨_, rfl, World.ownsRow_nil _ _ _ _, hb⟩
  · have e : mgbErr q = 0 := by unfold mgbErr; rw [if_neg h]
    have e2 : mgOut q = mgb q := if_pos e
    rw [e, e2, mgb_len]
    exact rmbytes_ok hr _ cb (mlen q) rfl (by omega) rfl hnil q.typ q.code q.sum q.rest hq.typ hq.code hq.sum hq.rest
end Go.Proofs.Ytjalpbkfpjfigaa

namespace Go.Proofs.Ytjalpbkfpjfigaa
open Go.RowKit
open Sm
set_option linter.unusedVariables false

set_option maxHeartbeats 1000000 in
theorem tput_ok {W : World} {g j : Nat} (z0 z1 : Int) (k0 : W.cell? ⟨g, j, none⟩ = some (.int .u8 z0)) (k1 : W.cell? ⟨g, j + 1, none⟩ = some (.int .u8 z1)) (kf : ∀ i, W.frozen? ⟨g, i, none⟩ = false) (c : Nat) (x : Int) (r0 : 0 ≤ x) (r1 : x ≤ 65535) :
    Calls Try.prog 78 #[.slice (some ⟨g, j, none⟩) 2 c, .int .u16 x] W fun e w' => e = .returned (.tuple #[]) ∧ w' = (W.setCell ⟨g, j, none⟩ (.int .u8 (x / 256))).setCell ⟨g, j + 1, none⟩ (.int .u8 (x % 256)) := by
  have u1 : IntKind.u8.wrap (x / 256) = x / 256 := wrap8_small _ (by omega) (by omega)
  have u2 : IntKind.u8.wrap x = x % 256 := by simp [IntKind.wrap, IntKind.bits, IntKind.signed]
  go_enter Try.func78, Try.ntmps78
  go_wp2
  go_end0
  exact ⟨rfl, rfl⟩

theorem tput_at {w W : World} {L : List (Nat × Obj)} (hM : Mem w W L) (i : Nat) {g N : Nat} {xs : List (Nat × Int)} (hi : L[i]? = some (g, .cells (bs (blz N xs)) 5 (0, 0))) (j : Nat) (hj : j + 1 < N) (c : Nat) (x : Int) (r0 : 0 ≤ x) (r1 : x ≤ 65535) :
    Calls Try.prog 78 #[.slice (some ⟨g, j, none⟩) 2 c, .int .u16 x] W fun e w' => e = .returned (.tuple #[]) ∧ Mem w w' (L.set i (g, .cells (bs (blz N (xs ++ [(j, x / 256), (j + 1, x % 256)]))) 5 (0, 0))) := by
  obtain ⟨z0, k0⟩ := hM.spot i hi j (by omega)
  obtain ⟨z1, k1⟩ := hM.spot i hi (j + 1) (by omega)
  refine (tput_ok z0 z1 k0 k1 (hM.free i hi) c x r0 r1).mono ?_
  rintro e w' ⟨rfl, hw⟩
  exact ⟨rfl, hM.put2 i hi j _ _ hw⟩

set_option maxHeartbeats 1000000 in
theorem tputLong_at {w W : World} {L : List (Nat × Obj)} (hM : Mem w W L) (i : Nat) {g N : Nat} {xs : List (Nat × Int)} (hi : L[i]? = some (g, .cells (bs (blz N xs)) 5 (0, 0))) (j : Nat) (hj : j + 3 < N) (x : Int) (r0 : 0 ≤ x) (r1 : x ≤ 4294967295) :
    Calls Try.prog 79 #[.slice (some ⟨g, j, none⟩) 4 4, .int .u32 x] W fun e w' => e = .returned (.tuple #[]) ∧ Mem w w' (L.set i (g, .cells (bs (blz N (xs ++ [(j, x / 16777216), (j + 1, x / 65536 % 256), (j + 2, x / 256 % 256), (j + 3, x % 256)]))) 5 (0, 0))) := by
  have u1 : IntKind.u16.wrap (x / 65536) = x / 65536 := wrap16_small _ (by omega) (by omega)
  have u2 : IntKind.u16.wrap x = x % 65536 := by simp [IntKind.wrap, IntKind.bits, IntKind.signed]
  have hil := (List.getElem?_eq_some_iff.mp hi).1
  have p1 := tput_at hM i hi j (by omega) 2 (x / 65536) (by omega) (by omega)
  have HN : Hid (j + 3 < N) := hj
  have HI : Hid (i < L.length) := hil
  clear hj hil hM hi
  go_enter Try.func79, Try.ntmps79
  go_wp2_with fail
  refine p1.mono ?_
  rintro e w1 ⟨rfl, hM1⟩
  have p2 := tput_at hM1 i (List.getElem?_set_self HI.out) (j + 2) (by have := HN.out; omega) 2 (x % 65536) (by omega) (by omega)
  rw [List.set_set, List.append_assoc] at p2
  clear hM1 p1
  go_wp2_with fail
  refine p2.mono ?_
  rintro e w2 ⟨rfl, hM2⟩
  go_wp2
  go_end0
  refine ⟨rfl, ?_⟩
  rw [show x / 65536 / 256 = x / 16777216 by omega, show x % 65536 / 256 = x / 256 % 256 by omega, show x % 65536 % 256 = x % 256 by omega] at hM2
  exact hM2
end Go.Proofs.Ytjalpbkfpjfigaa

