/-
  What the document's own lychref1.Tcp answers, and lychhelp.Tcp over two segments that are the same.
  What udp.Bytes answers: the datagram's bytes in a row of the call's own, or the error.
  What tcp.putWord and tcp.putLong write.
-/
import Derived.Test.YtjalpbkfpjfigaaGreatM10
import Derived.Test.YtjalpbkfpjfigaaGreatM08
import Derived.Test.YtjalpbkfpjfigaaGreatM09
namespace Go.Proofs.YtjalpbkfpjfigaaGreat
open Go.RowKit
open Sm
set_option linter.unusedVariables false

set_option maxHeartbeats 400000 in
theorem rtcp_short (a : Option Addr) (n cap : Nat) (w : World) (h : n < 20) :
    Calls Tryz.prog 34 #[.slice a n cap] w fun e w' => e = .returned (.tuple #[.agg tc0, .int .i64 20]) ∧ Below w.heap.size w w' := by
  have h' : (n : Int) < 20 := by omega
  go_enter Tryz.func34, Tryz.ntmps34
  go_wp2
  refine bodyPost_ret (v := .tuple #[.agg tc0, .int .i64 20]) (by simp [results, Tryz.results34, go_sem]) rfl ⟨rfl, ?_⟩
  exact (Below.refl _ _).alloc (Nat.le_refl _) _

set_option maxHeartbeats 1000000 in
theorem rtcp_no {w : World} {b off n cap : Nat} (x k : Nat) (c12 : w.cell? ⟨b, off + 12, none⟩ = some (.int .u8 x)) (hx : x ≤ 255) (hk : x / 16 = k) (h20 : 20 ≤ n) (hnl : n ≤ 140737488351232) (E : Int) (hE : (k < 5 ∧ E = 21) ∨ (5 ≤ k ∧ n < 4 * k ∧ E = 20)) :
    Calls Tryz.prog 34 #[.slice (some ⟨b, off, none⟩) n cap] w fun e w' => e = .returned (.tuple #[.agg tc0, .int .i64 E]) ∧ Below w.heap.size w w' := by
  have h20' : (20 : Int) ≤ n := by omega
  have h12 : (12 : Int) < n := by omega
  have hb : b < w.heap.size := cell_lt c12
  have hM := (Mem.nil w).push w.heap.size (.cells tc0 tcT) rfl
  have c12' : (w.alloc (.cells tc0 tcT)).cell? ⟨b, off + 12, none⟩ = some (.int .u8 x) := (hM.old hb).trans c12
  have hdv : (x : Int) / 16 = k := by omega
  have w1 : IntKind.i64.wrap (k : Int) = k := wrap64_small _ (by omega) (by omega)
  have w2 : IntKind.i64.wrap ((k : Int) * 4) = (k : Int) * 4 := wrap64_small _ (by omega) (by omega)
  clear hM c12
  rcases hE with ⟨h1, rfl⟩ | ⟨h1, h2, rfl⟩
  · have h1' : (k : Int) * 4 < 20 := by omega
    go_enter Tryz.func34, Tryz.ntmps34
    go_wp2_with fail
    refine bodyPost_ret (v := .tuple #[.agg tc0, .int .i64 21]) (by simp [results, Tryz.results34, go_sem]) rfl ⟨rfl, ?_⟩
    repeat (refine below_set ?_ (Nat.le_refl _))
    exact (Below.refl _ _).alloc (Nat.le_refl _) _
  · have h1' : (20 : Int) ≤ (k : Int) * 4 := by omega
    have h2' : (n : Int) < (k : Int) * 4 := by omega
    go_enter Tryz.func34, Tryz.ntmps34
    go_wp2_with fail
    refine bodyPost_ret (v := .tuple #[.agg tc0, .int .i64 20]) (by simp [results, Tryz.results34, go_sem]) rfl ⟨rfl, ?_⟩
    repeat (refine below_set ?_ (Nat.le_refl _))
    exact (Below.refl _ _).alloc (Nat.le_refl _) _

set_option maxRecDepth 20000 in
set_option maxHeartbeats 4000000 in
theorem rtcp_ok {w : World} {b off n cap : Nat} {l : List Int} {K o m : Nat} (h : Row w (some ⟨b, off, none⟩) l) (hn : l.length = n) (hc : n ≤ cap) (h7 : n ≤ 70000) (k : Nat) (hk : l.getD 12 0 / 16 = k) (hK : K = 4 * k) (hKo : K = 20 + o) (hKn : n = K + m) (q : Sg)
    (e0 : w16 l 0 = q.src) (e2 : w16 l 2 = q.dst) (e4 : w32 l 4 = q.seq) (e8 : w32 l 8 = q.ack) (e13 : l.getD 13 0 = q.flags) (e14 : w16 l 14 = q.win) (e16 : w16 l 16 = q.sum) (e18 : w16 l 18 = q.urg) (eo : (l.drop 20).take o = q.opts) (eb : (l.drop K).take m = q.body) :
    Calls Tryz.prog 34 #[.slice (some ⟨b, off, none⟩) n cap] w fun r w' => ∃ v, r = .returned (.tuple #[v, .int .i64 0]) ∧ TcV w' w.heap.size v q ∧ Below w.heap.size w w' := by
  obtain ⟨X0, X2, X4, X8, X13, X14, X16, X18, op, bd⟩ := q
  simp only at e0 e2 e4 e8 e13 e14 e16 e18 eo eb
  have hln := h.len
  have hb : b < w.heap.size := cell_lt (h.cellAt 0 (by omega))
  have r12 := h.bytes 12
  obtain ⟨x, hx⟩ : ∃ x : Nat, l.getD 12 0 = x := ⟨(l.getD 12 0).toNat, by omega⟩
  have c12 : w.cell? ⟨b, off + 12, none⟩ = some (.int .u8 x) := by rw [← hx]; exact h.cellAt 12 (by omega)
  have c13 : w.cell? ⟨b, off + 13, none⟩ = some (.int .u8 X13) := by rw [← e13]; exact h.cellAt 13 (by omega)
  have hM := (Mem.nil w).push w.heap.size (.cells tc0 tcT) rfl
  have c12' : (w.alloc (.cells tc0 tcT)).cell? ⟨b, off + 12, none⟩ = some (.int .u8 x) := (hM.old hb).trans c12
  have HM0 : Hid (Mem w (w.alloc (.cells tc0 tcT)) [(w.heap.size, .cells tc0 tcT)]) := hM
  rw [hx] at hk r12
  have hdv : (x : Int) / 16 = k := by omega
  have v1 : IntKind.i64.wrap (k : Int) = k := wrap64_small _ (by omega) (by omega)
  have v2 : IntKind.i64.wrap ((k : Int) * 4) = (k : Int) * 4 := wrap64_small _ (by omega) (by omega)
  have HK : Hid ((k : Int) * 4 = (K : Int)) := by show (k : Int) * 4 = (K : Int); omega
  have G : Hid (∀ W L, Mem w W L → ∀ (i : Nat) X, i + 1 < n → w16 l i = X → Calls Tryz.prog 41 #[.slice (some ⟨b, off, none⟩) n cap, .int .i64 i] W fun e w' => e = .returned (.int .u16 X) ∧ Mem w w' L) := fun W L hM i X hi hX => by
    rw [← hX]; exact get16_mem hM h i n cap hn hi
  have G4 : Hid (∀ W L, Mem w W L → Calls Tryz.prog 70 #[.slice (some ⟨b, off, none⟩) n cap, .int .i64 4] W fun e w' => e = .returned (.int .u32 X4) ∧ Mem w w' L) := fun W L hM => by
    rw [← e4]; exact get32_mem hM h 4 n cap hn (by omega)
  have G8 : Hid (∀ W L, Mem w W L → Calls Tryz.prog 70 #[.slice (some ⟨b, off, none⟩) n cap, .int .i64 8] W fun e w' => e = .returned (.int .u32 X8) ∧ Mem w w' L) := fun W L hM => by
    rw [← e8]; exact get32_mem hM h 8 n cap hn (by omega)
  have G0 : Hid (∀ W L, Mem w W L → Calls Tryz.prog 41 #[.slice (some ⟨b, off, none⟩) n cap, .int .i64 0] W fun e w' => e = .returned (.int .u16 X0) ∧ Mem w w' L) := fun W L hM => G.out W L hM 0 X0 (by omega) e0
  have G2 : Hid (∀ W L, Mem w W L → Calls Tryz.prog 41 #[.slice (some ⟨b, off, none⟩) n cap, .int .i64 2] W fun e w' => e = .returned (.int .u16 X2) ∧ Mem w w' L) := fun W L hM => G.out W L hM 2 X2 (by omega) e2
  have G14 : Hid (∀ W L, Mem w W L → Calls Tryz.prog 41 #[.slice (some ⟨b, off, none⟩) n cap, .int .i64 14] W fun e w' => e = .returned (.int .u16 X14) ∧ Mem w w' L) := fun W L hM => G.out W L hM 14 X14 (by omega) e14
  have G16 : Hid (∀ W L, Mem w W L → Calls Tryz.prog 41 #[.slice (some ⟨b, off, none⟩) n cap, .int .i64 16] W fun e w' => e = .returned (.int .u16 X16) ∧ Mem w w' L) := fun W L hM => G.out W L hM 16 X16 (by omega) e16
  have G18 : Hid (∀ W L, Mem w W L → Calls Tryz.prog 41 #[.slice (some ⟨b, off, none⟩) n cap, .int .i64 18] W fun e w' => e = .returned (.int .u16 X18) ∧ Mem w w' L) := fun W L hM => G.out W L hM 18 X18 (by omega) e18
  have lo : op.length = o := by rw [← eo]; simp; omega
  have lb : bd.length = m := by rw [← eb]; simp; omega
  have T1 : Hid (∀ W L, Mem w W L → Calls Tryz.prog 66 #[.slice (some ⟨b, off, none⟩) n cap, .int .i64 20, .int .i64 (K : Int)] W fun e w' => ∃ ao co, e = .returned (.slice ao o co) ∧ Row w' ao op ∧ (ao = none → co = 0) ∧ (∀ x, ao = some x → W.heap.size ≤ x.block) ∧ Below W.heap.size W w' ∧ Mem w w' L) := fun W L hM => by
    have := cut_mem hM h n cap 20 o hn hc (by omega) (by omega)
    rw [eo, ← hKo] at this
    exact this
  have T2 : Hid (∀ W L, Mem w W L → Calls Tryz.prog 66 #[.slice (some ⟨b, off, none⟩) n cap, .int .i64 (K : Int), .int .i64 (n : Int)] W fun e w' => ∃ ao co, e = .returned (.slice ao m co) ∧ Row w' ao bd ∧ (ao = none → co = 0) ∧ (∀ x, ao = some x → W.heap.size ≤ x.block) ∧ Below W.heap.size W w' ∧ Mem w w' L) := fun W L hM => by
    have := cut_mem hM h n cap K m hn hc (by omega) (by omega)
    rw [eb, ← hKn] at this
    exact this
  have HP : Hid (op.length = o ∧ bd.length = m) := ⟨lo, lb⟩
  have i12 : (12 : Int) < n := by omega
  have i13 : (13 : Int) < n := by omega
  have i20 : (20 : Int) ≤ n := by omega
  have nb1 : (20 : Int) ≤ K := by omega
  have nb2 : (K : Int) ≤ n := by omega
  have hnl : (n : Int) ≤ 70000 := by omega
  have nb : w.heap.size ≠ b := by omega
  have nb' : b ≠ w.heap.size := by omega
  clear G h hn hc h7 hk hK hKo hKn e0 e2 e4 e8 e13 e14 e16 e18 eo eb hln hx c12 r12 hM lo lb
  go_enter Tryz.func34, Tryz.ntmps34
  go_upto_region 3 with fail
  go_cut [4] from 5 (fun s4 wx => s4 = .int .i64 (K : Int) ∧ wx = w.alloc (.cells tc0 tcT))
  case first =>
    go_wp2_with fail
    go_meet
    case rel => exact ⟨by rw [← HK.out], rfl⟩
  case rest =>
  obtain ⟨rfl, rfl⟩ := hcut
  clear c12' hdv v1 v2 HK
  go_upto_region 8 with fail
  refine wp_letter (fun W => Mem w W [(w.heap.size, .cells tc0 tcT)]) HM0.out ?_
  intro w1 hM1
  have HM1 : Hid _ := hM1.drew
  have d13 : w1.cell? ⟨b, off + 13, none⟩ = some (.int .u8 X13) := (hM1.old hb).trans c13
  clear hM1 HM0
  go_region_held3 (fun w' => w'.cell? ⟨b, off + 13, none⟩ = some (.int .u8 X13))
    (first | go_keep | with_reducible exact (Mem.old (by with_reducible assumption) hb).trans c13)
    (first
      | (go_at_call 41; with_reducible refine (G0.out _ _ HM1.out).mono ?_; rintro e w2 ⟨rfl, hM2⟩)
      | (go_at_call 41; with_reducible refine (G2.out w2 _ hM2).mono ?_; rintro e w3 ⟨rfl, hM3⟩)
      | (go_at_call 70; with_reducible refine (G4.out w3 _ hM3).mono ?_; rintro e w4 ⟨rfl, hM4⟩)
      | (go_at_call 70; with_reducible refine (G8.out w4 _ hM4).mono ?_; rintro e w5 ⟨rfl, hM5⟩)
      | (go_at_call 41; with_reducible refine (G14.out w5 _ hM5).mono ?_; rintro e w6 ⟨rfl, hM6⟩)
      | (go_at_call 41; with_reducible refine (G16.out w6 _ hM6).mono ?_; rintro e w7 ⟨rfl, hM7⟩)
      | (go_at_call 41; with_reducible refine (G18.out w7 _ hM7).mono ?_; rintro e w8 ⟨rfl, hM8⟩)
      | (go_at_call 66; with_reducible refine (T1.out w8 _ hM8).mono ?_; rintro e w9 ⟨ao, co, rfl, ro9, nil9, far9, bel9, hM9⟩)
      | (go_at_call 66; with_reducible refine (T2.out w9 _ hM9).mono ?_; rintro e w10 ⟨bo, cb, rfl, rb10, nil10, far10, bel10, hM10⟩; have kr : ∀ i, w10.cell? ⟨w.heap.size, i, none⟩ = tc0[i]? := hM10.cell 0 rfl; have kf : ∀ i, w10.frozen? ⟨w.heap.size, i, none⟩ = false := hM10.free 0 rfl))
  have HO8 : Hid (Row w10 ao op ∧ (ao = none → co = 0) ∧ (∀ x, ao = some x → w.heap.size + 1 ≤ x.block)) := by
    have hl : w.heap.size < w8.heap.size := hM8.lt (p := (w.heap.size, _)) (List.mem_cons_self ..)
    exact ⟨ro9.below bel10 (Nat.le_refl _), nil9, fun x hx => by have := far9 x hx; omega⟩
  have HO9 : Hid (Row w10 bo bd ∧ (bo = none → cb = 0) ∧ (∀ x, bo = some x → w.heap.size + 1 ≤ x.block)) := by
    have hl : w.heap.size < w9.heap.size := hM9.lt (p := (w.heap.size, _)) (List.mem_cons_self ..)
    exact ⟨rb10, nil10, fun x hx => by have := far10 x hx; omega⟩
  have HM10 : Hid (Mem w w10 [(w.heap.size, .cells tc0 tcT)]) := hM10
  clear hM2 hM3 hM4 hM5 hM6 hM7 hM8 hM9 hM10 G0 G2 G4 G8 G14 G16 G18 T1 T2 ro9 nil9 far9 bel9 rb10 nil10 far10 bel10
  go_wp2_with fail
  refine bodyPost_ret (v := .tuple #[.agg (tcA X0 X2 X4 X8 X13 X14 X16 X18 (.slice ao o co) (.slice bo m cb)), .int .i64 0]) (by simp [results, Tryz.results34, go_sem, kr]) rfl ⟨_, rfl, ?_, ?_⟩
  · obtain ⟨p1, p2⟩ := HP.out
    obtain ⟨a1, a2, a3⟩ := HO8.out
    obtain ⟨b1, b2, b3⟩ := HO9.out
    have z1 : ∀ x, ao = some x → w.heap.size ≠ x.block := fun x hx => by have := a3 x hx; omega
    have z2 : ∀ x, bo = some x → w.heap.size ≠ x.block := fun x hx => by have := b3 x hx; omega
    refine ⟨ao, co, bo, cb, ?_, ?_, ?_, a2, b2, fun x hx => by have := a3 x hx; omega, fun x hx => by have := b3 x hx; omega⟩
    · simp only [p1, p2]
    · iterate 10 (refine Row.far ?_ z1)
      exact a1
    · iterate 10 (refine Row.far ?_ z2)
      exact b1
  · iterate 10 (refine below_set ?_ (Nat.le_refl _))
    exact HM10.out.below

end Go.Proofs.YtjalpbkfpjfigaaGreat

namespace Go.Proofs.YtjalpbkfpjfigaaGreat
open Go.RowKit
open Sm
set_option linter.unusedVariables false

set_option maxHeartbeats 1000000 in
theorem uput_ok {W : World} {g j : Nat} (z0 z1 : Int) (k0 : W.cell? ⟨g, j, none⟩ = some (.int .u8 z0)) (k1 : W.cell? ⟨g, j + 1, none⟩ = some (.int .u8 z1)) (kf : ∀ i, W.frozen? ⟨g, i, none⟩ = false) (c : Nat) (x : Int) (r0 : 0 ≤ x) (r1 : x ≤ 65535) :
    Calls Tryz.prog 84 #[.slice (some ⟨g, j, none⟩) 2 c, .int .u16 x] W fun e w' => e = .returned (.tuple #[]) ∧ w' = (W.setCell ⟨g, j, none⟩ (.int .u8 (x / 256))).setCell ⟨g, j + 1, none⟩ (.int .u8 (x % 256)) := by
  have u1 : IntKind.u8.wrap (x / 256) = x / 256 := wrap8_small _ (by omega) (by omega)
  have u2 : IntKind.u8.wrap x = x % 256 := by simp [IntKind.wrap, IntKind.bits, IntKind.signed]
  go_enter Tryz.func84, Tryz.ntmps84
  go_wp2
  go_end0
  exact ⟨rfl, rfl⟩

theorem uput_at {w W : World} {L : List (Nat × Obj)} (hM : Mem w W L) (i : Nat) {g N : Nat} {xs : List (Nat × Int)} (hi : L[i]? = some (g, .cells (bs (blz N xs)) 5 (0, 0))) (j : Nat) (hj : j + 1 < N) (c : Nat) (x : Int) (r0 : 0 ≤ x) (r1 : x ≤ 65535) :
    Calls Tryz.prog 84 #[.slice (some ⟨g, j, none⟩) 2 c, .int .u16 x] W fun e w' => e = .returned (.tuple #[]) ∧ Mem w w' (L.set i (g, .cells (bs (blz N (xs ++ [(j, x / 256), (j + 1, x % 256)]))) 5 (0, 0))) := by
  obtain ⟨z0, k0⟩ := hM.spot i hi j (by omega)
  obtain ⟨z1, k1⟩ := hM.spot i hi (j + 1) (by omega)
  refine (uput_ok z0 z1 k0 k1 (hM.free i hi) c x r0 r1).mono ?_
  rintro e w' ⟨rfl, hw⟩
  exact ⟨rfl, hM.put2 i hi j _ _ hw⟩

theorem blz_ud8 (n m : Nat) (h : n = 8 + m) (s d c : Int) : blz n [(0, s / 256), (1, s % 256), (2, d / 256), (3, d % 256), (4, (n : Int) / 256), (5, (n : Int) % 256), (6, c / 256), (7, c % 256)] = ud8 n s d c ++ List.replicate m 0 := by
  have e : List.replicate n (0 : Int) = List.replicate 8 0 ++ List.replicate m 0 := by rw [h, List.replicate_append_replicate]
  unfold blz
  rw [e]
  generalize List.replicate m (0 : Int) = R
  simp only [List.foldl_cons, List.foldl_nil, List.replicate, List.cons_append, List.nil_append, List.set_cons_zero, List.set_cons_succ, ud8]

set_option maxHeartbeats 2000000 in
theorem ubytes_ok {w : World} {a : Option Addr} {body : List Int} (hr : Row w a body) (m cb n : Nat) (hm : body.length = m) (h1 : m ≤ 65527) (hn : n = 8 + m) (s d c : Int) (hs : 0 ≤ s ∧ s ≤ 65535) (hd : 0 ≤ d ∧ d ≤ 65535) (hc : 0 ≤ c ∧ c ≤ 65535) :
    Calls Tryz.prog 59 #[.agg (udA s d c (.slice a m cb))] w fun e w' => e = .returned (.tuple #[.slice (some ⟨w.heap.size + 1, 0, none⟩) n n, .int .i64 0]) ∧
      w'.ownsRow w.heap.size 5 1 (.slice (some ⟨w.heap.size + 1, 0, none⟩) n n) n ((ud8 n s d c ++ body).map (Value.int .u8)) ∧ Below w.heap.size w w' := by
  have HR : Hid (Row w a body ∧ body.length = m ∧ n = 8 + m ∧ m ≤ 65527 ∧ (0 ≤ s ∧ s ≤ 65535) ∧ (0 ≤ d ∧ d ≤ 65535) ∧ 0 ≤ c ∧ c ≤ 65535) := ⟨hr, hm, hn, h1, hs, hd, hc⟩
  have hmi : (m : Int) ≤ 65527 := by omega
  have hni : 8 + (m : Int) = n := by omega
  have hnb : (n : Int) ≤ 65535 := by omega
  have hn2 : (2 : Int) ≤ n := by omega
  have hn4 : (4 : Int) ≤ n := by omega
  have hn6 : (6 : Int) ≤ n := by omega
  have hn8 : (8 : Int) ≤ n := by omega
  have hnm : n - 8 = m := by omega
  have hmk := make_bytes n (by omega)
  have hnw : IntKind.u16.wrap (n : Int) = n := wrap16_small _ (by omega) (by omega)
  clear hr hm hs hd hc hn h1
  go_enter Tryz.func59, Tryz.ntmps59
  go_upto_region 4 with fail
  refine wp_letter (fun W => Mem w W [(w.heap.size, .cells (udA s d c (.slice a m cb)) udT), (w.heap.size + 1, .cells (bs (blz n [])) 5)]) (by rw [show bs (blz n []) = madeCells #[Value.int .u8 0] n from (bs_made n).symm]; exact ((Mem.nil w).push w.heap.size _ rfl).push (w.heap.size + 1) _ (by simp)) ?_
  intro w1 hM1
  have HM1 : Hid _ := hM1
  have k0 : w1.cell? ⟨w.heap.size, 0, none⟩ = some (.int .u16 s) := hM1.cell 0 rfl 0
  have p1 := uput_at hM1.drew 1 rfl 0 (by have := HR.out; omega) 2 s HR.out.2.2.2.2.1.1 HR.out.2.2.2.2.1.2
  clear hM1
  go_cut [] from 5 (fun wx => Mem w wx [(w.heap.size, .cells (udA s d c (.slice a m cb)) udT), (w.heap.size + 1, .cells (bs (blz n [(0, s / 256), (1, s % 256)])) 5)])
  case first =>
    go_region_held3 (fun w' => w'.cell? ⟨w.heap.size, 0, none⟩ = some (.int .u16 s)) (first | go_keep | exact hM5.cell 0 rfl 0)
      (first | (go_at_call 84; refine p1.mono ?_; rintro e w5 ⟨rfl, hM5⟩))
    all_goals
      go_wp2_with fail
      go_meet
      case rel => exact hM5
  case rest =>
  have HM2 : Hid _ := hcut
  have k1 : wc.cell? ⟨w.heap.size, 1, none⟩ = some (.int .u16 d) := hcut.cell 0 rfl 1
  have p2 := uput_at hcut.drew 1 rfl 2 (by have := HR.out; omega) 2 d HR.out.2.2.2.2.2.1.1 HR.out.2.2.2.2.2.1.2
  clear hcut HM1 k0 p1
  go_upto_region 5 with fail
  go_cut [] from 5 (fun wx => Mem w wx [(w.heap.size, .cells (udA s d c (.slice a m cb)) udT), (w.heap.size + 1, .cells (bs (blz n [(0, s / 256), (1, s % 256), (2, d / 256), (3, d % 256)])) 5)])
  case first =>
    go_region_held3 (fun w' => w'.cell? ⟨w.heap.size, 1, none⟩ = some (.int .u16 d)) (first | go_keep | exact hM5.cell 0 rfl 1)
      (first | (go_at_call 84; refine p2.mono ?_; rintro e w5 ⟨rfl, hM5⟩))
    all_goals
      go_wp2_with fail
      go_meet
      case rel => exact hM5
  case rest =>
  have p3 := uput_at hcut 1 rfl 4 (by have := HR.out; omega) 2 n (by omega) hnb
  clear hcut HM2 k1 p2
  go_wp2_with fail
  refine p3.mono ?_
  rintro e w4 ⟨rfl, hM4⟩
  clear p3
  have HM4 : Hid (Mem w w4 [(w.heap.size, .cells (udA s d c (.slice a m cb)) udT), (w.heap.size + 1, .cells (bs (blz n [(0, s / 256), (1, s % 256), (2, d / 256), (3, d % 256), (4, (n : Int) / 256), (5, (n : Int) % 256)])) 5)]) := hM4
  have k2 : w4.cell? ⟨w.heap.size, 2, none⟩ = some (.int .u16 c) := hM4.cell 0 rfl 2
  have p4 := uput_at HM4.out.drew 1 rfl 6 (by have := HR.out; omega) 2 c HR.out.2.2.2.2.2.2.1 HR.out.2.2.2.2.2.2.2
  clear hM4
  go_upto_region 7 with fail
  go_cut [] from 5 (fun wx => Mem w wx [(w.heap.size, .cells (udA s d c (.slice a m cb)) udT), (w.heap.size + 1, .cells (bs (ud8 n s d c ++ List.replicate m 0)) 5)])
  case first =>
    go_region_held3 (fun w' => w'.cell? ⟨w.heap.size, 2, none⟩ = some (.int .u16 c)) (first | go_keep | exact hM5.cell 0 rfl 2)
      (first | (go_at_call 84; refine p4.mono ?_; rintro e w5 ⟨rfl, hM5⟩))
    all_goals
      go_wp2_with fail
      go_meet
      case rel => rw [← blz_ud8 n m HR.out.2.2.1]; exact hM5
  case rest =>
  have HM5 : Hid _ := hcut
  have k3 : wc.cell? ⟨w.heap.size, 3, none⟩ = some (.slice a m cb) := hcut.cell 0 rfl 3
  clear hcut HM4 k2 p4
  go_upto_region 8 with fail
  go_cut [0, 4] from 5 (fun s0 s4 wx => s4 = .slice (some ⟨w.heap.size + 1, 0, none⟩) n n ∧ Mem w wx [(w.heap.size, .cells (udA s d c (.slice a m cb)) udT), (w.heap.size + 1, .cells (bs (ud8 n s d c ++ body)) 5)])
  case first =>
    have HRb := HM5.out.drew.row HR.out.1
    have HE : Hid _ := bs_tail (ud8 n s d c) body 8 m rfl HR.out.2.1
    have HF : Hid (8 + body.length ≤ (bs (ud8 n s d c ++ List.replicate m 0)).size) := by
      show _ ≤ _
      rw [bs_size, List.length_append, List.length_replicate, HR.out.2.1]; exact Nat.le_refl _
    by_cases hm0 : m = 0
    · have hn0 : n = 8 := by have := HR.out; omega
      have hbn : body = [] := List.eq_nil_of_length_eq_zero (by rw [HR.out.2.1]; exact hm0)
      go_region_law (refine step_copy_bytes rfl (.tmp 36) (.tmp 38) 22 22 rfl Tryz.underlying22 (some ⟨w.heap.size + 1, 0, none⟩) a 0 0 0 cb (by simp [Act.eval]) (by simp [Act.eval]) (w.heap.size + 1) 8 _ (bs (ud8 n s d c ++ body)) 5 (HM5.out.drew.get 1 rfl) body (by rw [hbn]; rfl) (fun hp => by rw [hbn] at hp; simp at hp) HF.out HE.out ?_; intro w5 hw5)
      all_goals
        go_wp2_with fail
        go_meet
        case rel => exact ⟨by rw [hn0], HM5.out.drew.wrote 1 rfl hw5⟩
    · have hn0 : (8 : Int) < n := by omega
      have hn1 : ¬ n = 8 := by omega
      have HP : Hid (0 < body.length → some (⟨w.heap.size + 1, 8, none⟩ : Addr) = some ⟨w.heap.size + 1, 8, none⟩ ∧ ∃ ad, a = some ad ∧ ∀ j v, (body.map (Value.int .u8))[j]? = some v → wc.drew.cell? (ad.add j) = some v) := by
        intro hp
        have hc := HRb.cells
        rcases hc with e | ⟨b, off, rfl, hc⟩
        · subst e; simp at hp
        · exact ⟨rfl, _, rfl, HRb.news⟩
      clear HRb
      go_region_law (refine step_copy_bytes rfl (.tmp 36) (.tmp 38) 22 22 rfl Tryz.underlying22 (some ⟨w.heap.size + 1, 8, none⟩) a m m m cb (by simp [Act.eval]) (by simp [Act.eval]) (w.heap.size + 1) 8 _ (bs (ud8 n s d c ++ body)) 5 (HM5.out.drew.get 1 rfl) body (by rw [HR.out.2.1]; exact (Nat.min_self m).symm) HP.out HF.out HE.out ?_; intro w5 hw5)
      all_goals
        go_wp2_with fail
        go_meet
        case rel => exact ⟨rfl, HM5.out.drew.wrote 1 rfl hw5⟩
  case rest =>
  obtain ⟨rfl, hM6⟩ := hcut
  have HM6 : Hid _ := hM6
  clear hM6 HM5
  go_wp2_with fail
  go_ret2
  exact ⟨rfl, mem_owns HM6.out 1 rfl n (by rw [List.length_append, HR.out.2.1, HR.out.2.2.1]; rfl) (by omega), HM6.out.below⟩

set_option maxHeartbeats 400000 in
theorem ubytes_big (w : World) (a : Option Addr) (m cb : Nat) (h1 : 65527 < m) (s d c : Int) :
    Calls Tryz.prog 59 #[.agg (udA s d c (.slice a m cb))] w fun e w' => e = .returned (.tuple #[.slice none 0 0, .int .i64 23]) ∧ Below w.heap.size w w' := by
  have h' : (65527 : Int) < m := by omega
  go_enter Tryz.func59, Tryz.ntmps59
  go_wp2
  go_ret2
  exact ⟨rfl, (Below.refl _ _).alloc (Nat.le_refl _) _⟩

/-- What udp.Bytes answers, whatever it is handed. -/
theorem ubytes_any {w : World} {B : Nat} {v : Value} {u : Dg} (hu : u.Ok) (hv : UdV w B v u) :
    Calls Tryz.prog 59 #[v] w fun r w' => ∃ x, r = .returned (.tuple #[x, .int .i64 (udbErr u)]) ∧ w'.ownsRow w.heap.size 5 1 x (udOut u).length ((udOut u).map (Value.int .u8)) ∧ Below w.heap.size w w' := by
  obtain ⟨bo, cb, rfl, hr, -, -⟩ := hv
  by_cases h : 65527 < u.body.length
  · have e : udbErr u = 23 := by unfold udbErr; rw [if_pos h]
    have e2 : udOut u = [] := by unfold udOut; rw [e]; rfl
    rw [e, e2]
    refine (ubytes_big w bo _ cb h _ _ _).mono ?_
    rintro r w' ⟨rfl, hb⟩
    exact ⟨_, rfl, World.ownsRow_nil _ _ _ _, hb⟩
  · have e : udbErr u = 0 := by unfold udbErr; rw [if_neg h]
    have e2 : udOut u = udb u := if_pos e
    rw [e, e2, udb_len]
    refine (ubytes_ok hr _ cb (8 + u.body.length) rfl (by omega) rfl u.src u.dst u.sum hu.src hu.dst hu.sum).mono ?_
    rintro r w' ⟨rfl, ho, hb⟩
    exact ⟨_, rfl, ho, hb⟩
end Go.Proofs.YtjalpbkfpjfigaaGreat

namespace Go.Proofs.YtjalpbkfpjfigaaGreat
open Go.RowKit
open Sm
set_option linter.unusedVariables false

set_option maxHeartbeats 1000000 in
theorem tput_ok {W : World} {g j : Nat} (z0 z1 : Int) (k0 : W.cell? ⟨g, j, none⟩ = some (.int .u8 z0)) (k1 : W.cell? ⟨g, j + 1, none⟩ = some (.int .u8 z1)) (kf : ∀ i, W.frozen? ⟨g, i, none⟩ = false) (c : Nat) (x : Int) (r0 : 0 ≤ x) (r1 : x ≤ 65535) :
    Calls Tryz.prog 86 #[.slice (some ⟨g, j, none⟩) 2 c, .int .u16 x] W fun e w' => e = .returned (.tuple #[]) ∧ w' = (W.setCell ⟨g, j, none⟩ (.int .u8 (x / 256))).setCell ⟨g, j + 1, none⟩ (.int .u8 (x % 256)) := by
  have u1 : IntKind.u8.wrap (x / 256) = x / 256 := wrap8_small _ (by omega) (by omega)
  have u2 : IntKind.u8.wrap x = x % 256 := by simp [IntKind.wrap, IntKind.bits, IntKind.signed]
  go_enter Tryz.func86, Tryz.ntmps86
  go_wp2
  go_end0
  exact ⟨rfl, rfl⟩

theorem tput_at {w W : World} {L : List (Nat × Obj)} (hM : Mem w W L) (i : Nat) {g N : Nat} {xs : List (Nat × Int)} (hi : L[i]? = some (g, .cells (bs (blz N xs)) 5 (0, 0))) (j : Nat) (hj : j + 1 < N) (c : Nat) (x : Int) (r0 : 0 ≤ x) (r1 : x ≤ 65535) :
    Calls Tryz.prog 86 #[.slice (some ⟨g, j, none⟩) 2 c, .int .u16 x] W fun e w' => e = .returned (.tuple #[]) ∧ Mem w w' (L.set i (g, .cells (bs (blz N (xs ++ [(j, x / 256), (j + 1, x % 256)]))) 5 (0, 0))) := by
  obtain ⟨z0, k0⟩ := hM.spot i hi j (by omega)
  obtain ⟨z1, k1⟩ := hM.spot i hi (j + 1) (by omega)
  refine (tput_ok z0 z1 k0 k1 (hM.free i hi) c x r0 r1).mono ?_
  rintro e w' ⟨rfl, hw⟩
  exact ⟨rfl, hM.put2 i hi j _ _ hw⟩

set_option maxHeartbeats 1000000 in
theorem tputLong_at {w W : World} {L : List (Nat × Obj)} (hM : Mem w W L) (i : Nat) {g N : Nat} {xs : List (Nat × Int)} (hi : L[i]? = some (g, .cells (bs (blz N xs)) 5 (0, 0))) (j : Nat) (hj : j + 3 < N) (x : Int) (r0 : 0 ≤ x) (r1 : x ≤ 4294967295) :
    Calls Tryz.prog 87 #[.slice (some ⟨g, j, none⟩) 4 4, .int .u32 x] W fun e w' => e = .returned (.tuple #[]) ∧ Mem w w' (L.set i (g, .cells (bs (blz N (xs ++ [(j, x / 16777216), (j + 1, x / 65536 % 256), (j + 2, x / 256 % 256), (j + 3, x % 256)]))) 5 (0, 0))) := by
  have u1 : IntKind.u16.wrap (x / 65536) = x / 65536 := wrap16_small _ (by omega) (by omega)
  have u2 : IntKind.u16.wrap x = x % 65536 := by simp [IntKind.wrap, IntKind.bits, IntKind.signed]
  have hil := (List.getElem?_eq_some_iff.mp hi).1
  have p1 := tput_at hM i hi j (by omega) 2 (x / 65536) (by omega) (by omega)
  have HN : Hid (j + 3 < N) := hj
  have HI : Hid (i < L.length) := hil
  clear hj hil hM hi
  go_enter Tryz.func87, Tryz.ntmps87
  go_wp2_with fail
  refine p1.mono ?_
  rintro e w1 ⟨rfl, hM1⟩
  have p2 := tput_at hM1 i (List.getElem?_set_self HI.out) (j + 2) (by have := HN.out; omega) 2 (x % 65536) (by omega) (by omega)
  rw [List.set_set, List.append_assoc] at p2
  clear hM1 p1
  go_wp2_with fail
  refine p2.mono ?_
  rintro e w2 ⟨rfl, hM2⟩
  go_wp2
  go_end0
  refine ⟨rfl, ?_⟩
  rw [show x / 65536 / 256 = x / 16777216 by omega, show x % 65536 / 256 = x / 256 % 256 by omega, show x % 65536 % 256 = x % 256 by omega] at hM2
  exact hM2
end Go.Proofs.YtjalpbkfpjfigaaGreat

