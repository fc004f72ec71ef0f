/-
  The walk of lychref1.Ip where it reads a packet.
  What ip.Bytes and lychref1.IpBytes answer where a packet is not written; and what ip.Bytes answers, whatever it is handed.
  The document's own Tcp, whatever it is handed; and the statements' known segment: lychlaw5.known answers true.
-/
import Derived.Test.YtjalpbkfpjfigaaGreatM21
import Derived.Test.YtjalpbkfpjfigaaGreatM20
import Derived.Test.YtjalpbkfpjfigaaGreatM14
import Derived.Test.YtjalpbkfpjfigaaGreatM22
namespace Go.Proofs.YtjalpbkfpjfigaaGreat
open Go.RowKit
open Sm
set_option linter.unusedVariables false
set_option maxRecDepth 20000

set_option maxRecDepth 20000 in
set_option maxHeartbeats 4000000 in
theorem rip_ok {w : World} {b off n c : Nat} {l : List Int} (hr : Row w (some ⟨b, off, none⟩) l) (hn : l.length = n) (hc : n ≤ c) (h20 : 20 ≤ n) (h0 : ipErr l = 0) :
    Calls Tryz.prog 44 #[.slice (some ⟨b, off, none⟩) n c] w fun r w' => ∃ v, r = .returned (.tuple #[v, .int .i64 (ipErr l)]) ∧ (IpV w' w.heap.size v (ipRes l) ∧ IpCap v (ipRes l)) ∧ Below w.heap.size w w' := by
  have hln := hr.len
  have r0 := hr.bytes 0
  have hb : b < w.heap.size := cell_lt (hr.cellAt 0 (by omega))
  have c0 : w.cell? ⟨b, off, none⟩ = some (.int .u8 (l.getD 0 0)) := hr.cellAt 0 (by omega)
  have hand := sm_low4 _ r0.1 r0.2
  obtain ⟨k, hk⟩ : ∃ k : Nat, l.getD 0 0 % 16 = k := ⟨(l.getD 0 0 % 16).toNat, by omega⟩
  rw [hk] at hand
  have hm : hdl l = 4 * k := by unfold hdl; omega
  have hw2 := w16_range hr.bytes 2
  obtain ⟨wl, hwl⟩ : ∃ wl : Nat, w16 l 2 = wl := ⟨(w16 l 2).toNat, by omega⟩
  have hwh : whl l = wl := by unfold whl; omega
  have g2 : ∀ W L, Mem w W L → Calls Tryz.prog 41 #[.slice (some ⟨b, off, none⟩) n c, .int .i64 2] W fun e w' => e = .returned (.int .u16 (wl : Int)) ∧ Mem w w' L := fun W L hM => by
    have := get16_mem hM hr 2 n c hn (by omega)
    rw [hwl] at this
    exact this
  obtain ⟨x0, hx0⟩ : ∃ x0, l.getD 0 0 = x0 := ⟨_, rfl⟩
  rw [hx0] at c0 hand r0
  obtain ⟨r00, r01⟩ := r0
  have v3 := wrap64_small (k : Int) (by omega) (by omega)
  have v4 := wrap64_small ((k : Int) * 4) (by omega) (by omega)
  have v5 := wrap64_small (wl : Int) (by omega) (by omega)
  have e4 : (k : Int) * 4 = ((4 * k : Nat) : Int) := by omega
  have HE4 : Hid ((k : Int) * 4 = ((4 * k : Nat) : Int)) := e4
  have k15 : k ≤ 15 := by omega
  have hwm : wl ≤ 65535 := by omega
  obtain ⟨m, hmm⟩ : ∃ m, m = 4 * k := ⟨_, rfl⟩
  have hm60 : m ≤ 60 := by omega
  have HK : Hid (((4 * k : Nat) : Int) = (m : Int)) := by show _ = _; rw [hmm]
  have HM4 : Hid (m = 4 * k) := hmm
  have HR : Hid (Row w (some ⟨b, off, none⟩) l ∧ l.length = n ∧ n ≤ c ∧ hdl l = m ∧ whl l = wl ∧ l.getD 0 0 = x0 ∧ n ≤ 140737488351232) := ⟨hr, hn, hc, by omega, hwh, hx0, by omega⟩
  have HG : Hid (20 ≤ n ∧ x0 / 16 = 4 ∧ 20 ≤ m ∧ m ≤ wl ∧ m ≤ n ∧ wl ≤ n ∧ foldv (tot (l.take m) (cnt m)) = 65535) := by
    obtain ⟨p1, p2, p3, p4, p5, p6, p7⟩ := ip_parts h0
    obtain ⟨q0, q1, q2, q3, q4, q5, q6⟩ := HR.out
    rw [q3] at p3 p4 p5 p7; rw [q4] at p4 p6; rw [q1] at p1 p5 p6; rw [q5] at p2
    exact ⟨p1, p2, p3, p4, p5, p6, p7⟩
  have HG0 : Hid (ipErr l = 0) := h0
  clear h0
  have i0 : (0 : Int) < n := by omega
  have i0n : 0 < n := by omega
  have HN : Hid (20 ≤ n ∧ wl ≤ 65535 ∧ m ≤ 60) := ⟨h20, hwm, hm60⟩
  have h20' : (20 : Int) ≤ n := by omega
  clear hr hn hc h20 hln hk hm hw2 hwl hwh hx0 e4 k15 hwm hmm hm60
  go_enter Tryz.func44, Tryz.ntmps44
  go_upto_region 3 with fail
  go_cut [4, 5] from 7 (fun s4 s5 wx => s4 = .int .i64 (m : Int) ∧ s5 = .int .i64 (wl : Int) ∧ Mem w wx [(w.heap.size, .cells ip0 ipT)])
  case first =>
    have hM1 : Mem w (w.alloc (.cells ip0 ipT)) [(w.heap.size, .cells ip0 ipT)] := (Mem.nil w).push w.heap.size _ rfl
    have d0 := (hM1.old (i := off) hb).trans c0
    have HM1 : Hid _ := hM1.drew
    clear hM1
    go_region_held3 (fun w' => w'.cell? ⟨b, off, none⟩ = some (.int .u8 x0))
      (first | go_keep | exact (hM2.old hb).trans c0)
      (first | (go_at_call 41; refine (g2 _ _ HM1.out).mono ?_; rintro e w2 ⟨rfl, hM2⟩))
    all_goals
      go_wp2_with fail
      go_meet
      case rel => exact ⟨by rw [HE4.out, HK.out], rfl, hM2⟩
  case rest =>
    obtain ⟨rfl, rfl, hM2⟩ := hcut
    have d0 := (hM2.old (i := off) hb).trans c0
    have HM2 : Hid _ := hM2
    have kr : ∀ i, wc.cell? ⟨w.heap.size, i, none⟩ = ip0[i]? := hM2.cell 0 rfl
    have kf : ∀ i, wc.frozen? ⟨w.heap.size, i, none⟩ = false := hM2.free 0 rfl
    have hbz : Below w.heap.size w wc := hM2.below
    clear hM2 hand v3 v4 v5 g2 HE4 HK HM4
    obtain ⟨q20, qf1, qf2, qf3, qf4, qf5, qf6⟩ := HG.out
    have f1 : x0 / 16 = 4 := qf1
    have f2' : (20 : Int) ≤ (m : Int) := by omega
    have f3' : (m : Int) ≤ wl := by omega
    have HF : Hid (x0 / 16 = 4 ∧ 20 ≤ m ∧ m ≤ wl) := ⟨qf1, qf2, qf3⟩
    have hnm : m ≤ n := qf4
    have hnw : wl ≤ n := qf5
    have hadd : Calls Tryz.prog 68 #[.int .u32 0, .slice (some ⟨b, off, none⟩) m c] wc fun e w' => e = .returned (.int .u32 (acc (l.take m) 0 (cnt m))) ∧ Below wc.heap.size wc w' := by
      obtain ⟨q0, q1, q2, q3, q4, q5, -⟩ := HR.out
      have hlt : (l.take m).length = m := by rw [List.length_take]; omega
      have hrh : Row w (some ⟨b, off, none⟩) (l.take m) := by
        have := q0.part 0 m (by omega)
        simpa using this
      have := radd_any (HM2.out.row hrh) (by rw [hlt]; have := HN.out; omega) c 0 (by omega) (by omega)
      rw [hlt] at this
      exact this
    have hsr : 0 ≤ acc (l.take m) 0 (cnt m) ∧ acc (l.take m) 0 (cnt m) ≤ 4294967295 := by
      obtain ⟨q0, q1, q2, q3, q4, q5, -⟩ := HR.out
      exact acc_range (by have := (q0.part 0 m (by omega)).bytes; simpa using this) 0 (by omega) (by omega) _
    have HFo : Hid (foldv (acc (l.take m) 0 (cnt m)) = foldv (tot (l.take m) (cnt m))) := by
      obtain ⟨q0, q1, q2, q3, q4, q5, -⟩ := HR.out
      show _ = _
      rw [foldv_acc (by have := (q0.part 0 m (by omega)).bytes; simpa using this) 0 (by omega) (by omega), Int.zero_add]
    generalize acc (l.take m) 0 (cnt m) = S at *
    obtain ⟨s0, s1⟩ := hsr
    have hfold := fold_any S
    obtain ⟨T, hT⟩ : ∃ T, foldv S = T := ⟨_, rfl⟩
    have HT : Hid (foldv S = T) := hT
    have c1 : (m : Int) ≤ n := by omega
    have c2 : (wl : Int) ≤ n := by omega
    have c3 : (m : Int) ≤ c := by have := HR.out.2.2.1; omega
    have HNM : Hid (m ≤ n ∧ wl ≤ n) := ⟨hnm, hnw⟩
    have HZ : Hid (ipErr l = 0 ∧ ipRes l = ipPk l) := ⟨HG0.out, if_pos HG0.out⟩
    have hsum : T = 65535 := by rw [← HT.out, HFo.out]; exact qf6
    clear hT hnm hnw q20 qf1 qf2 qf3 qf4 qf5 qf6 HG
    subst hsum
    go_wp2_with fail
    refine hadd.mono ?_
    rintro e w3 ⟨rfl, hb3⟩
    have HM3 : Hid (Mem w w3 [(w.heap.size, .cells ip0 ipT)]) := HM2.out.after hb3
    clear hb3 hadd HM2 kr kf d0 hbz
    go_wp2_with fail
    refine (rfold_any S _ s0 s1).mono ?_
    rintro e w' ⟨rfl, rfl⟩
    rw [HT.out]
    obtain ⟨y1, e1⟩ : ∃ y, l.getD 1 0 = y := ⟨_, rfl⟩
    obtain ⟨y8, e8⟩ : ∃ y, l.getD 8 0 = y := ⟨_, rfl⟩
    obtain ⟨y9, e9⟩ : ∃ y, l.getD 9 0 = y := ⟨_, rfl⟩
    obtain ⟨ID, eI⟩ : ∃ y, w16 l 4 = y := ⟨_, rfl⟩
    obtain ⟨FR, eF⟩ : ∃ y, w16 l 6 = y := ⟨_, rfl⟩
    obtain ⟨SS, eS⟩ : ∃ y, w32 l 12 = y := ⟨_, rfl⟩
    obtain ⟨DD, eD⟩ : ∃ y, w32 l 16 = y := ⟨_, rfl⟩
    obtain ⟨op, eo⟩ : ∃ y, (l.drop 20).take (m - 20) = y := ⟨_, rfl⟩
    obtain ⟨bd, eb⟩ : ∃ y, (l.drop m).take (wl - m) = y := ⟨_, rfl⟩
    obtain ⟨q0, q1, q2, q3, q4, q5, q6⟩ := HR.out
    have hNM := HNM.out
    have hN := HN.out
    have HP : Hid (ipPk l = ⟨y1, y8, y9, ID, FR / 8192, FR % 8192, SS, DD, op, bd⟩ ∧ op.length = m - 20 ∧ bd.length = wl - m) := by
      refine ⟨?_, ?_, ?_⟩
      · unfold ipPk; rw [q3, q4, e1, e8, e9, eI, eF, eS, eD, eo, eb]
      · rw [← eo]; simp; omega
      · rw [← eb]; simp; omega
    have a1 : w.cell? ⟨b, off + 1, none⟩ = some (.int .u8 y1) := by rw [← e1]; exact q0.cellAt 1 (by omega)
    have a8 : w.cell? ⟨b, off + 8, none⟩ = some (.int .u8 y8) := by rw [← e8]; exact q0.cellAt 8 (by omega)
    have a9 : w.cell? ⟨b, off + 9, none⟩ = some (.int .u8 y9) := by rw [← e9]; exact q0.cellAt 9 (by omega)
    have fr := w16_range q0.bytes 6
    rw [eF] at fr
    obtain ⟨fr0, fr1⟩ := fr
    have fo1 := sm_low13 FR fr0 fr1
    have fo2 := wrap8_small (FR / 8192) (by omega) (by omega)
    have g6 : ∀ W L, Mem w W L → Calls Tryz.prog 41 #[.slice (some ⟨b, off, none⟩) n c, .int .i64 6] W fun e w' => e = .returned (.int .u16 FR) ∧ Mem w w' L := fun W L hM => by
      have := get16_mem hM q0 6 n c q1 (by omega)
      rw [eF] at this
      exact this
    have g4 : ∀ W L, Mem w W L → Calls Tryz.prog 41 #[.slice (some ⟨b, off, none⟩) n c, .int .i64 4] W fun e w' => e = .returned (.int .u16 ID) ∧ Mem w w' L := fun W L hM => by
      have := get16_mem hM q0 4 n c q1 (by omega)
      rw [eI] at this
      exact this
    have g12 : ∀ W L, Mem w W L → Calls Tryz.prog 70 #[.slice (some ⟨b, off, none⟩) n c, .int .i64 12] W fun e w' => e = .returned (.int .u32 SS) ∧ Mem w w' L := fun W L hM => by
      have := get32_mem hM q0 12 n c q1 (by omega)
      rw [eS] at this
      exact this
    have g16 : ∀ W L, Mem w W L → Calls Tryz.prog 70 #[.slice (some ⟨b, off, none⟩) n c, .int .i64 16] W fun e w' => e = .returned (.int .u32 DD) ∧ Mem w w' L := fun W L hM => by
      have := get32_mem hM q0 16 n c q1 (by omega)
      rw [eD] at this
      exact this
    have t1 : ∀ W L, Mem w W L → Calls Tryz.prog 66 #[.slice (some ⟨b, off, none⟩) n c, .int .i64 20, .int .i64 (m : Int)] W fun e w' => ∃ ao co, e = .returned (.slice ao (m - 20) co) ∧ Row w' ao op ∧ (ao = none → co = 0) ∧ (∀ x, ao = some x → W.heap.size ≤ x.block) ∧ Below W.heap.size W w' ∧ Mem w w' L := fun W L hM => by
      have := cut_mem hM q0 n c 20 (m - 20) q1 q2 (by omega) (by omega)
      rw [eo, show 20 + (m - 20) = m by omega] at this
      exact this
    have t2 : ∀ W L, Mem w W L → Calls Tryz.prog 66 #[.slice (some ⟨b, off, none⟩) n c, .int .i64 (m : Int), .int .i64 (wl : Int)] W fun e w' => ∃ ao co, e = .returned (.slice ao (wl - m) co) ∧ Row w' ao bd ∧ ((ao = none → co = 0) ∧ wl - m ≤ co) ∧ (∀ x, ao = some x → W.heap.size ≤ x.block) ∧ Below W.heap.size W w' ∧ Mem w w' L := fun W L hM => by
      have := cut_cap hM q0 n c m (wl - m) q1 q2 (by omega) (by omega)
      rw [eb, show m + (wl - m) = wl by omega] at this
      exact this
    clear e1 e8 e9 eI eF eS eD eo eb q0 q1 q2 q3 q4 q5 q6 hNM hN HR hfold
    have j1 : (1 : Int) < n := by omega
    have j8 : (8 : Int) < n := by omega
    have j9 : (9 : Int) < n := by omega
    have nb : w.heap.size ≠ b := by omega
    have nb' : b ≠ w.heap.size := by omega
    go_wp2_with fail
    refine (g6 _ _ HM3.out).mono ?_
    rintro e w4 ⟨rfl, hM4⟩
    have HM4 : Hid (Mem w w4.drew [(w.heap.size, .cells ip0 ipT)]) := hM4.drew
    have d1 := (hM4.old (i := off + 1) hb).trans a1
    have d8 := (hM4.old (i := off + 8) hb).trans a8
    have d9 := (hM4.old (i := off + 9) hb).trans a9
    clear hM4 HM3 g6
    go_upto_region 11 with fail
    go_region_held3 (fun w' => w'.cell? ⟨b, off + 1, none⟩ = some (.int .u8 y1) ∧ w'.cell? ⟨b, off + 8, none⟩ = some (.int .u8 y8) ∧ w'.cell? ⟨b, off + 9, none⟩ = some (.int .u8 y9))
      (first
        | go_keep
        | with_reducible exact ⟨(hM5.old hb).trans a1, (hM5.old hb).trans a8, (hM5.old hb).trans a9⟩
        | with_reducible exact ⟨(hM6.old hb).trans a1, (hM6.old hb).trans a8, (hM6.old hb).trans a9⟩
        | with_reducible exact ⟨(hM7.old hb).trans a1, (hM7.old hb).trans a8, (hM7.old hb).trans a9⟩
        | with_reducible exact ⟨(hM8.old hb).trans a1, (hM8.old hb).trans a8, (hM8.old hb).trans a9⟩
        | with_reducible exact ⟨(hM9.old hb).trans a1, (hM9.old hb).trans a8, (hM9.old hb).trans a9⟩)
      (first
        | (go_at_call 41; refine (g4 _ _ HM4.out).mono ?_; rintro e w5 ⟨rfl, hM5⟩)
        | (go_at_call 70; with_reducible refine (g12 w5 _ hM5).mono ?_; rintro e w6 ⟨rfl, hM6⟩)
        | (go_at_call 70; with_reducible refine (g16 w6 _ hM6).mono ?_; rintro e w7 ⟨rfl, hM7⟩)
        | (go_at_call 66; with_reducible refine (t1 w7 _ hM7).mono ?_; rintro e w8 ⟨ao, co, rfl, ro8, nil8, far8, bel8, hM8⟩)
        | (go_at_call 66; with_reducible refine (t2 w8 _ hM8).mono ?_; rintro e w9 ⟨bo, cb, rfl, rb9, nil9, far9, bel9, hM9⟩; have kr : ∀ i, w9.cell? ⟨w.heap.size, i, none⟩ = ip0[i]? := hM9.cell 0 rfl; have kf : ∀ i, w9.frozen? ⟨w.heap.size, i, none⟩ = false := hM9.free 0 rfl))
    have HO8 : Hid (Row w9 ao op ∧ (ao = none → co = 0) ∧ (∀ x, ao = some x → w.heap.size + 1 ≤ x.block)) := by
      have hl : w.heap.size < w7.heap.size := hM7.lt (p := (w.heap.size, _)) (List.mem_cons_self ..)
      exact ⟨ro8.below bel9 (Nat.le_refl _), nil8, fun x hx => by have := far8 x hx; omega⟩
    have HO9 : Hid (Row w9 bo bd ∧ ((bo = none → cb = 0) ∧ wl - m ≤ cb) ∧ (∀ x, bo = some x → w.heap.size + 1 ≤ x.block)) := by
      have hl : w.heap.size < w8.heap.size := hM8.lt (p := (w.heap.size, _)) (List.mem_cons_self ..)
      exact ⟨rb9, nil9, fun x hx => by have := far9 x hx; omega⟩
    have HM9 : Hid _ := hM9
    clear hM5 hM6 hM7 hM8 hM9 ro8 nil8 far8 bel8 rb9 nil9 far9 bel9 g4 g12 g16 t1 t2
    go_wp2_with fail
    refine bodyPost_ret (v := .tuple #[.agg (ipA y1 y8 y9 ID (FR / 8192) (FR % 8192) SS DD (.slice ao (m - 20) co) (.slice bo (wl - m) cb)), .int .i64 0]) (by simp [results, Tryz.results44, go_sem, kr]) rfl ⟨_, by rw [HZ.out.1], ?_, ?_⟩
    · rw [HZ.out.2, HP.out.1]
      obtain ⟨o1, o2, o3⟩ := HO8.out
      obtain ⟨p1, p2, p3⟩ := HO9.out
      have z1 : ∀ x, ao = some x → w.heap.size ≠ x.block := fun x hx => by have := o3 x hx; omega
      have z2 : ∀ x, bo = some x → w.heap.size ≠ x.block := fun x hx => by have := p3 x hx; omega
      refine ⟨⟨ao, co, bo, cb, ?_, ?_, ?_, o2, p2.1, fun x hx => by have := o3 x hx; omega, fun x hx => by have := p3 x hx; omega⟩, ⟨ao, co, bo, cb, by simp only [HP.out.2.1, HP.out.2.2], by simp only [HP.out.2.2]; exact p2.2⟩⟩
      · simp only [HP.out.2.1, HP.out.2.2]
      · iterate 10 (refine Row.far ?_ z1)
        exact o1
      · iterate 10 (refine Row.far ?_ z2)
        exact p1
    · iterate 10 (refine below_set ?_ (Nat.le_refl _))
      exact HM9.out.below

theorem ipcap_nil {w : World} {B : Nat} {v : Value} (h : IpV w B v Pk.zero) : IpCap v Pk.zero := by
  obtain ⟨ao, co, bo, cb, e, -⟩ := h
  exact ⟨ao, co, bo, cb, e, Nat.zero_le _⟩
/-- What lychref1.Ip answers, whatever it is handed, with its body's room. -/
theorem rip_cap {w : World} {a : Option Addr} {n c : Nat} {l : List Int} (hr : Row w a l) (hn : l.length = n) (hc : n ≤ c) :
    Calls Tryz.prog 44 #[.slice a n c] w fun r w' => ∃ v, r = .returned (.tuple #[v, .int .i64 (ipErr l)]) ∧ (IpV w' w.heap.size v (ipRes l) ∧ IpCap v (ipRes l)) ∧ Below w.heap.size w w' := by
  by_cases h20 : n < 20
  · have e : ipErr l = 20 := by unfold ipErr; rw [if_pos (by omega)]
    have e2 : ipRes l = Pk.zero := if_neg (by omega)
    rw [e, e2]
    refine (rip_few w a n c h20).mono ?_
    rintro r w' ⟨rfl, hb⟩
    exact ⟨_, rfl, ⟨ipv_zero _ _, ipcap_zero⟩, hb⟩
  · obtain ⟨b, off, rfl, -⟩ : ∃ b off, a = some ⟨b, off, none⟩ ∧ ∀ i, i < l.length → w.cell? ⟨b, off + i, none⟩ = some (.int .u8 (l.getD i 0)) := by
      rcases hr.cells with e | e
      · subst e; simp at hn; omega
      · exact e
    by_cases h0 : ipErr l = 0
    · exact rip_ok hr hn hc (by omega) h0
    · refine (rip_bad hr hn hc (by omega) h0).mono ?_
      rintro r w' ⟨v, rfl, hv, hb⟩
      rw [show ipRes l = Pk.zero from if_neg h0] at hv ⊢
      exact ⟨v, rfl, ⟨hv, ipcap_nil hv⟩, hb⟩
/-- What lychref1.Ip answers, whatever it is handed. -/
theorem rip_any {w : World} {a : Option Addr} {n c : Nat} {l : List Int} (hr : Row w a l) (hn : l.length = n) (hc : n ≤ c) :
    Calls Tryz.prog 44 #[.slice a n c] w fun r w' => ∃ v, r = .returned (.tuple #[v, .int .i64 (ipErr l)]) ∧ IpV w' w.heap.size v (ipRes l) ∧ Below w.heap.size w w' := by
  refine (rip_cap hr hn hc).mono ?_
  rintro r w' ⟨v, rfl, hv, hb⟩
  exact ⟨v, rfl, hv.1, hb⟩
end Go.Proofs.YtjalpbkfpjfigaaGreat

namespace Go.Proofs.YtjalpbkfpjfigaaGreat
open Go.RowKit
open Sm
set_option linter.unusedVariables false
set_option maxRecDepth 20000

theorem form_cases {o : Nat} {flags off : Int} (h : o % 4 ≠ 0 ∨ 40 < o ∨ 7 < flags ∨ 8191 < off) :
    ((o : Int) % 4 ≠ 0) ∨ ((o : Int) % 4 = 0 ∧ (40 : Int) < o) ∨ ((o : Int) % 4 = 0 ∧ (o : Int) ≤ 40 ∧ 7 < flags) ∨ ((o : Int) % 4 = 0 ∧ (o : Int) ≤ 40 ∧ flags ≤ 7 ∧ 8191 < off) := by omega

set_option maxRecDepth 20000 in
set_option maxHeartbeats 2000000 in
theorem bytes_form (w : World) (ao bo : Option Addr) (o bl co cb : Nat) (tos ttl proto id flags off src dst : Int) (h : o % 4 ≠ 0 ∨ 40 < o ∨ 7 < flags ∨ 8191 < off) :
    Calls Tryz.prog 30 #[.agg (ipA tos ttl proto id flags off src dst (.slice ao o co) (.slice bo bl cb))] w fun r w' => r = .returned (.tuple #[.slice none 0 0, .int .i64 21]) ∧ Below w.heap.size w w' := by
  have ht : (o : Int).tmod 4 = (o : Int) % 4 := Int.tmod_eq_emod_of_nonneg (by omega)
  rcases form_cases h with h1 | ⟨h1, h2⟩ | ⟨h1, h2, h3⟩ | ⟨h1, h2, h3, h4⟩
  all_goals
    clear h
    go_enter Tryz.func30, Tryz.ntmps30
    go_wp2_with fail
    go_ret2
    exact ⟨rfl, (Below.refl _ _).alloc (Nat.le_refl _) _⟩

set_option maxRecDepth 20000 in
set_option maxHeartbeats 2000000 in
theorem rbytes_form (w : World) (ao bo : Option Addr) (o bl co cb : Nat) (tos ttl proto id flags off src dst : Int) (h : o % 4 ≠ 0 ∨ 40 < o ∨ 7 < flags ∨ 8191 < off) :
    Calls Tryz.prog 24 #[.agg (ipA tos ttl proto id flags off src dst (.slice ao o co) (.slice bo bl cb))] w fun r w' => r = .returned (.tuple #[.slice none 0 0, .int .i64 21]) ∧ Below w.heap.size w w' := by
  have ht : (o : Int).tmod 4 = (o : Int) % 4 := Int.tmod_eq_emod_of_nonneg (by omega)
  rcases form_cases h with h1 | ⟨h1, h2⟩ | ⟨h1, h2, h3⟩ | ⟨h1, h2, h3, h4⟩
  all_goals
    clear h
    go_enter Tryz.func24, Tryz.ntmps24
    go_wp2_with fail
    go_ret2
    exact ⟨rfl, (Below.refl _ _).alloc (Nat.le_refl _) _⟩

set_option maxRecDepth 20000 in
set_option maxHeartbeats 2000000 in
theorem bytes_big (w : World) (ao bo : Option Addr) (o bl co cb : Nat) (tos ttl proto id flags off src dst : Int) (h1 : o % 4 = 0) (h2 : o ≤ 40) (h3 : flags ≤ 7) (h4 : off ≤ 8191) (h5 : 65535 < 20 + o + bl) :
    Calls Tryz.prog 30 #[.agg (ipA tos ttl proto id flags off src dst (.slice ao o co) (.slice bo bl cb))] w fun r w' => r = .returned (.tuple #[.slice none 0 0, .int .i64 23]) ∧ Below w.heap.size w w' := by
  have ht : (o : Int).tmod 4 = 0 := by rw [Int.tmod_eq_emod_of_nonneg (by omega)]; omega
  have h1' : (o : Int) % 4 = 0 := by omega
  have h2' : (o : Int) ≤ 40 := by omega
  have h5' : (65535 : Int) - (20 + (o : Int)) < bl := by omega
  clear h1 h2 h5
  go_enter Tryz.func30, Tryz.ntmps30
  go_wp2_with fail
  go_ret2
  exact ⟨rfl, (Below.refl _ _).alloc (Nat.le_refl _) _⟩

set_option maxRecDepth 20000 in
set_option maxHeartbeats 2000000 in
theorem rbytes_big (w : World) (ao bo : Option Addr) (o bl co cb : Nat) (tos ttl proto id flags off src dst : Int) (h1 : o % 4 = 0) (h2 : o ≤ 40) (h3 : flags ≤ 7) (h4 : off ≤ 8191) (h5 : 65535 < 20 + o + bl) :
    Calls Tryz.prog 24 #[.agg (ipA tos ttl proto id flags off src dst (.slice ao o co) (.slice bo bl cb))] w fun r w' => r = .returned (.tuple #[.slice none 0 0, .int .i64 23]) ∧ Below w.heap.size w w' := by
  have ht : (o : Int).tmod 4 = 0 := by rw [Int.tmod_eq_emod_of_nonneg (by omega)]; omega
  have h1' : (o : Int) % 4 = 0 := by omega
  have h2' : (o : Int) ≤ 40 := by omega
  have h5' : (65535 : Int) - (20 + (o : Int)) < bl := by omega
  clear h1 h2 h5
  go_enter Tryz.func24, Tryz.ntmps24
  go_wp2_with fail
  go_ret2
  exact ⟨rfl, (Below.refl _ _).alloc (Nat.le_refl _) _⟩

theorem hdw_h20 (p : Pk) (x y : Int) : hdw p x y = h20 (20 + p.opts.length) (20 + p.opts.length + p.body.length) p.tos p.ttl p.proto p.id (p.flags * 8192 + p.off) p.src p.dst x y ++ p.opts := rfl

/-- What ip.Bytes answers, whatever it is handed. -/
theorem bytes_any {w : World} {B : Nat} {v : Value} {p : Pk} (hp : p.Ok) (hv : IpV w B v p) :
    Calls Tryz.prog 30 #[v] w fun r w' => ∃ u, r = .returned (.tuple #[u, .int .i64 (ipbErr p)]) ∧ w'.ownsRow w.heap.size 5 1 u (ipOut p).length ((ipOut p).map (Value.int .u8)) ∧ Below w.heap.size w w' := by
  obtain ⟨ao, co, bo, cb, rfl, ho, hb, -⟩ := hv
  by_cases h1 : p.opts.length % 4 ≠ 0 ∨ 40 < p.opts.length ∨ 7 < p.flags ∨ 8191 < p.off
  · have e : ipbErr p = 21 := by unfold ipbErr; rw [if_pos h1]
    have e2 : ipOut p = [] := by unfold ipOut; rw [e]; rfl
    rw [e, e2]
    refine (bytes_form w ao bo p.opts.length p.body.length co cb p.tos p.ttl p.proto p.id p.flags p.off p.src p.dst h1).mono ?_
    rintro r w' ⟨rfl, hbel⟩
    exact ⟨_, rfl, World.ownsRow_nil _ _ _ _, hbel⟩
  · by_cases h2 : 65535 < 20 + p.opts.length + p.body.length
    · have e : ipbErr p = 23 := by unfold ipbErr; rw [if_neg h1, if_pos h2]
      have e2 : ipOut p = [] := by unfold ipOut; rw [e]; rfl
      rw [e, e2]
      refine (bytes_big w ao bo p.opts.length p.body.length co cb p.tos p.ttl p.proto p.id p.flags p.off p.src p.dst (by omega) (by omega) (by omega) (by omega) h2).mono ?_
      rintro r w' ⟨rfl, hbel⟩
      exact ⟨_, rfl, World.ownsRow_nil _ _ _ _, hbel⟩
    · have e : ipbErr p = 0 := by unfold ipbErr; rw [if_neg h1, if_neg h2]
      have f : Fits p := (fits_iff p).mp e
      have e2 : ipOut p = ipb p := if_pos e
      rw [e, e2, ipb_len]
      have hby := bytes_append (hdw_bytes hp f (x := 0) (y := 0) (by omega) (by omega)) hp.body
      obtain ⟨g1, g2, g3, g4, g5⟩ := f
      obtain ⟨q1, q2, q3, q4, q5, q6, q7, q8, -, -⟩ := hp
      have := bytes_ok ho hb p.opts.length p.body.length (20 + p.opts.length) (20 + p.opts.length + p.body.length) ((20 + p.opts.length) / 4) rfl rfl rfl rfl (by omega) g2 g5 co cb p.tos p.ttl p.proto p.id p.flags p.off p.src p.dst q4 ⟨q5.1, g3⟩ ⟨q6.1, g4⟩ q7 q8 hby (ipc p) rfl
      exact this
end Go.Proofs.YtjalpbkfpjfigaaGreat

namespace Go.Proofs.YtjalpbkfpjfigaaGreat
open Go.RowKit
open Sm
set_option linter.unusedVariables false

/-- What lychref1.Tcp answers, whatever it is handed (up to 70000 bytes). -/
theorem rtcp_any {w : World} {a : Option Addr} {n c : Nat} {l : List Int} (hr : Row w a l) (hn : l.length = n) (hc : n ≤ c) (h7 : n ≤ 70000) :
    Calls Tryz.prog 34 #[.slice a n c] w fun r w' => ∃ v, r = .returned (.tuple #[v, .int .i64 (tcErr l)]) ∧ TcV w' w.heap.size v (tcRes l) ∧ Below w.heap.size w w' := by
  subst hn
  by_cases h1 : l.length < 20
  · rw [(tc_e20 h1).1, (tc_e20 h1).2]
    refine (rtcp_short a _ c w h1).mono ?_
    rintro r w' ⟨rfl, hb⟩
    exact ⟨_, rfl, tcv_zero _ _, hb⟩
  rcases hr.cells with e0 | ⟨b, off, rfl, -⟩
  · rw [e0] at h1; simp at h1
  have r12 := hr.bytes 12
  have hlen := hr.len
  obtain ⟨k, hk⟩ : ∃ k : Nat, l.getD 12 0 / 16 = k := ⟨(l.getD 12 0 / 16).toNat, by omega⟩
  have ht : thd l = 4 * k := by unfold thd; omega
  obtain ⟨x, hx⟩ : ∃ x : Nat, l.getD 12 0 = x := ⟨(l.getD 12 0).toNat, by omega⟩
  have c12 : w.cell? ⟨b, off + 12, none⟩ = some (.int .u8 x) := by rw [← hx]; exact hr.cellAt 12 (by omega)
  by_cases h2 : thd l < 20
  · rw [(tc_e21 h1 h2).1, (tc_e21 h1 h2).2]
    refine (rtcp_no x k c12 (by omega) (by omega) (by omega) hlen 21 (Or.inl ⟨by omega, rfl⟩)).mono ?_
    rintro r w' ⟨rfl, hb⟩
    exact ⟨_, rfl, tcv_zero _ _, hb⟩
  by_cases h3 : l.length < thd l
  · rw [(tc_e20b h1 h2 h3).1, (tc_e20b h1 h2 h3).2]
    refine (rtcp_no x k c12 (by omega) (by omega) (by omega) hlen 20 (Or.inr ⟨by omega, by omega, rfl⟩)).mono ?_
    rintro r w' ⟨rfl, hb⟩
    exact ⟨_, rfl, tcv_zero _ _, hb⟩
  rw [(tc_e0 h1 h2 h3).1, (tc_e0 h1 h2 h3).2]
  exact rtcp_ok (K := thd l) (o := thd l - 20) (m := l.length - thd l) hr rfl hc h7 k hk ht (by omega) (by omega) (tcSg l) rfl rfl rfl rfl rfl rfl rfl rfl rfl rfl

def sg0 : Sg := ⟨7, 9, 0, 0, 0, 0, 0, 0, [], [1, 2, 3]⟩
def sg1 : Sg := ⟨7, 9, 0, 0, 0, 0, 43981, 0, [], [1, 2, 3]⟩
theorem sg0_ok : sg0.Ok := ⟨by decide, by decide, by decide, by decide, by decide, by decide, by decide, by decide, bytes_nil, b123⟩
theorem sg1_ok : sg1.Ok := ⟨by decide, by decide, by decide, by decide, by decide, by decide, by decide, by decide, bytes_nil, b123⟩
theorem sg1_fits : TFits sg1 := ⟨by decide, by decide, by decide⟩
theorem sg0_sum : tsum 1 2 sg0 = 43981 := by decide
theorem sg1_err : tcbErr sg1 = 0 := rfl
def sgl : List Int := [0, 7, 0, 9, 0, 0, 0, 0, 0, 0, 0, 0, 80, 0, 0, 0, 171, 205, 0, 0, 1, 2, 3]
theorem sgl_eq : tcOut sg1 = sgl := by decide
theorem sgl_b : tcb sg1 = sgl := by decide
theorem sgl_bytes : IsBytes sgl := by rw [← sgl_b]; exact tcb_bytes sg1_ok sg1_fits
theorem sgl_err : tcErr sgl = 0 := by decide
theorem sgl_res : tcRes sgl = sg1 := by rw [← sgl_b]; exact back_tres sg1_ok sg1_fits
theorem sg1_right : tright 1 2 sg1 = true := by decide
theorem sg1_wrong : tright 1 3 sg1 = false := by decide

/-- tcp.Parse's answer written out. -/
theorem tparse_out {w : World} {a : Option Addr} {n c : Nat} {l : List Int} (hr : Row w a l) (hn : l.length = n) (hc : n ≤ c) {E : Int} {p : Sg} (hE : tcErr l = E) (hp : tcRes l = p) {no nb : Nat} (ho : p.opts.length = no) (hb : p.body.length = nb) :
    Calls Tryz.prog 77 #[.slice a n c] w fun r w' => ∃ ao co bo cb, r = .returned (.tuple #[.agg (tcB p ao no co bo nb cb), .int .i64 E]) ∧
      TcV w' w.heap.size (.agg (tcB p ao no co bo nb cb)) p ∧ Below w.heap.size w w' := by
  subst hE hp hb ho
  refine (tparse_any hr hn hc).mono ?_
  rintro r w' ⟨v, rfl, hv, hb⟩
  have hv' := hv
  obtain ⟨ao, co, bo, cb, rfl, -⟩ := hv
  exact ⟨ao, co, bo, cb, rfl, hv', hb⟩
theorem rtcp_out {w : World} {a : Option Addr} {n c : Nat} {l : List Int} (hr : Row w a l) (hn : l.length = n) (hc : n ≤ c) (h7 : n ≤ 70000) {E : Int} {p : Sg} (hE : tcErr l = E) (hp : tcRes l = p) {no nb : Nat} (ho : p.opts.length = no) (hb : p.body.length = nb) :
    Calls Tryz.prog 34 #[.slice a n c] w fun r w' => ∃ ao co bo cb, r = .returned (.tuple #[.agg (tcB p ao no co bo nb cb), .int .i64 E]) ∧
      TcV w' w.heap.size (.agg (tcB p ao no co bo nb cb)) p ∧ Below w.heap.size w w' := by
  subst hE hp hb ho
  refine (rtcp_any hr hn hc h7).mono ?_
  rintro r w' ⟨v, rfl, hv, hb⟩
  have hv' := hv
  obtain ⟨ao, co, bo, cb, rfl, -⟩ := hv
  exact ⟨ao, co, bo, cb, rfl, hv', hb⟩

abbrev sgA (w : World) (c : Int) : Array Value := tcA 7 9 0 0 0 0 c 0 (.slice none 0 0) (.slice (some ⟨w.heap.size, 0, none⟩) 3 3)
theorem tcv_of {w W : World} {L : List (Nat × Obj)} (hM : Mem w W L) (hi : L[0]? = some (w.heap.size, .cells (bs [1, 2, 3]) 5 (0, 0))) (c : Int) : TcV W 0 (.agg (sgA w c)) ⟨7, 9, 0, 0, 0, 0, c, 0, [], [1, 2, 3]⟩ :=
  ⟨none, 0, some ⟨w.heap.size, 0, none⟩, 3, rfl, row_nil W, hM.own 0 hi b123 (by simp), fun _ => rfl, fun e => (by cases e), fun _ _ => Nat.zero_le _, fun _ _ => Nat.zero_le _⟩

end Go.Proofs.YtjalpbkfpjfigaaGreat

