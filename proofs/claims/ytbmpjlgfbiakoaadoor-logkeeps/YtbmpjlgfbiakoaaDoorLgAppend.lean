/-
  What package log's Append answers.
-/
import Derived.Test.YtbmpjlgfbiakoaaDoorLgNext
namespace Go.Proofs.YtbmpjlgfbiakoaaDoor
open Go.RowKit
open Sm
set_option linter.unusedVariables false

theorem rd_slot {bl : List (List Int)} {slot : Nat} {x : En} (h : rd bl slot = some x) : x.s = slot := by
  unfold rd at h
  split at h
  · cases h
  · simp only [Option.map_eq_some_iff] at h
    obtain ⟨r, -, rfl⟩ := h
    rfl
theorem nw_slot (bl : List (List Int)) : (nw (fd bl)).s ≤ 1 := by
  unfold nw
  rw [List.getLastD_eq_getLast?]
  cases hx : (fd bl).getLast? with
  | none => simp [En.zero]
  | some x =>
    have := List.mem_of_getLast? hx
    rcases fd_mem this with e | e <;> simp [rd_slot e]
theorem Beside.mono {w : World} {p h m : Nat} {L L2 : List (Nat × Obj)} {a : Option Addr} {r : List Int} (hB : Beside w p h m L a r) (hs : ∀ x ∈ L, x ∈ L2) : Beside w p h m L2 a r :=
  fun W' D' hc' ks' L' H hL => hB W' D' hc' ks' L' H fun x hx => hL x (hs x hx)
theorem nxt_ok {n m : Nat} {t c : Int} {bl : List (List Int)} {r : List Int} (hn : 4 ≤ n) (hn1 : n ≤ 64) (hm : 256 ≤ m) (hm1 : m ≤ 65536) (hr : r.length ≤ room n m) (hb : IsBytes r) (hc : 0 ≤ (nxt t c (nw (fd bl)) r).c) : EnOk n m (nxt t c (nw (fd bl)) r) := by
  refine ⟨by simp only [nxt]; omega, ?_, ⟨hc, ?_⟩, ?_, hb, hn, hn1, hm, hm1⟩
  · simp only [nxt]
    have : IntKind.u64.wrap ((nw (fd bl)).t + 1) = ((nw (fd bl)).t + 1) % 18446744073709551616 := by simp [IntKind.wrap, IntKind.bits, IntKind.signed]
    rw [this]; omega
  · simp only [nxt]; rw [IntKind.wrap_i64]; omega
  · simp only [nxt]
    unfold room at hr
    rw [if_pos ⟨hn, hm⟩] at hr
    omega

section
variable {w W : World} {p h m : Nat} {D : Dk} {hc : Array Value} {ks : List Bk} {L : List (Nat × Obj)} {pl : Nat} {t c : Int} {v : Value}
theorem log_cell (H : DkAt w W p h m D hc ks ((pl, .cells (lgA p t c v) lgT (0, 0)) :: L)) (j : Nat) : W.cell? ⟨pl, j, none⟩ = (lgA p t c v)[j]? := cell_of (H.has (x := (pl, .cells (lgA p t c v) lgT (0, 0))) (by simp)) j
theorem append_big (H : DkAt w W p h m D hc ks ((pl, .cells (lgA p t c v) lgT (0, 0)) :: L)) (a : Option Addr) (k cap : Nat) (hk : room ks.length m < k) :
    Calls Tryd.prog 18 #[.pointer (some ⟨pl, 0, none⟩), .slice a k cap] W fun e W' => e = .returned (.int .i64 51) ∧ W = W' := by
  have k0 := log_cell H 0
  simp at k0
  have hr := lroom_any H
  generalize room ks.length m = R at *
  have q : (R : Int) < (k : Int) := by omega
  clear H
  go_enter Tryd.func18, Tryd.ntmps18
  go_wp2_with fail
  refine hr.mono ?_
  rintro e w' ⟨rfl, rfl⟩
  go_wp2
  go_ret
  exact ⟨rfl, rfl⟩
theorem append_dead (H : DkAt w W p h m D hc ks ((pl, .cells (lgA p t c v) lgT (0, 0)) :: L)) {ga : Addr} (hG : Gl w ga) (hd : D.dead = true) (a : Option Addr) (k cap : Nat) (hk : k ≤ room ks.length m) :
    Calls Tryd.prog 18 #[.pointer (some ⟨pl, 0, none⟩), .slice a k cap] W fun e W' => e = .returned (.int .i64 42) ∧ ∃ K, Mem W W' K := by
  have k0 := log_cell H 0
  simp at k0
  have hr := lroom_any H
  have hf := find_dead H (hG.on H.st.mem) hd
  generalize room ks.length m = R at *
  have q : ¬ (R : Int) < (k : Int) := by omega
  clear H
  go_enter Tryd.func18, Tryd.ntmps18
  go_wp2_with fail
  refine hr.mono ?_
  rintro e w' ⟨rfl, rfl⟩
  go_wp2_with fail
  refine hf.mono ?_
  rintro e w2 ⟨rfl, h2⟩
  go_wp2
  go_ret
  exact ⟨rfl, h2⟩

/-- What Append leaves. -/
structure ApEnd (w W : World) (p h m : Nat) (D0 : Dk) (hc : Array Value) (bl : List (List Int)) (L : List (Nat × Obj)) (pl : Nat) (t c : Int) (v : Value) (e : En) (err : Int) (D : Dk) (ks : List Bk) (c' : Int) (v' : Value) (X K : List (Nat × Obj)) : Prop where
  at_ : DkAt w W p h m D hc ks ((pl, .cells (lgA p e.t c' v') lgT (0, 0)) :: (X ++ (K ++ L)))
  ok : (err = 0 ∧ D.dead = false ∧ (D0.set = false → D = D0) ∧ ks.map Bk.b = part m e bl (npc (m - 64) e.r.length) ∧ c' = e.c ∧ OwnV v' e.r X) ∨ (err = 42 ∧ D = gone ∧ D0.set = true ∧ Left m e bl (ks.map Bk.b) ∧ c' = c ∧ v' = v ∧ X = [])

set_option maxRecDepth 20000 in
set_option maxHeartbeats 4000000 in
theorem append_live (H : DkAt w W p h m D hc ks ((pl, .cells (lgA p t c v) lgT (0, 0)) :: L)) {ga : Addr} (hG : Gl w ga) (hd : D.dead = false) (hn : 4 ≤ ks.length) (hm : 256 ≤ m) {a : Option Addr} {k cap : Nat} {r : List Int} (hr : r.length = k) (hk : k ≤ room ks.length m) (hcap : k ≤ cap) (hsh : (a = none ∧ cap = 0) ∨ ∃ b off, a = some ⟨b, off, none⟩)
    (hB : Beside w p h m L a r) (hb : IsBytes r) (hcc : 0 ≤ (nxt t c (nw (fd (ks.map Bk.b))) r).c) {av : Option Addr} {kv cv : Nat} (hv : v = .slice av kv cv) :
    Calls Tryd.prog 18 #[.pointer (some ⟨pl, 0, none⟩), .slice a k cap] W fun ev W' => ∃ err, ev = .returned (.int .i64 err) ∧ ∃ D' ks' c' v' X K, ApEnd w W' p h m D hc (ks.map Bk.b) L pl t c v (nxt t c (nw (fd (ks.map Bk.b))) r) err D' ks' c' v' X K := by
  have k0 := log_cell H 0
  simp at k0
  have hrm := lroom_any H
  have hf := find_live H (hG.on H.st.mem) hd hn hm
  have heo := nxt_ok (t := t) (c := c) (bl := ks.map Bk.b) hn H.top hm H.mhi (by rw [hr]; exact hk) hb hcc
  have hqs := nw_slot (ks.map Bk.b)
  have HL := fd_len (ks.map Bk.b)
  have q : ¬ ((room ks.length m : Nat) : Int) < (k : Int) := by omega
  generalize room ks.length m = R at *
  have HH : Hid (DkAt w W p h m D hc ks ((pl, .cells (lgA p t c v) lgT (0, 0)) :: L)) := H
  have HE0 : Hid (EnOk ks.length m (nxt t c (nw (fd (ks.map Bk.b))) r)) := heo
  have HBE : Hid (Beside w p h m L a r) := hB
  generalize hFD : fd (ks.map Bk.b) = FD at *
  generalize hnq : nw FD = nq at *
  have HNQ : Hid (nw FD = nq) := hnq
  obtain ⟨e, hne⟩ : ∃ e, e = nxt t c nq r := ⟨_, rfl⟩
  rw [← hne]
  have HNE : Hid (e = nxt t c nq r) := hne
  have HEO : Hid (EnOk ks.length m e) := by rw [hne]; exact HE0.out
  have HER : Hid (e.r = r) := by rw [hne]; rfl
  clear H hFD heo hB hcc hG hnq hne HE0
  go_enter Tryd.func18, Tryd.ntmps18
  go_wp2_with fail
  refine hrm.mono ?_
  rintro e3 w' ⟨rfl, rfl⟩
  go_wp2_with fail
  refine hf.mono ?_
  rintro e3 w2 ⟨v2, rfl, l, hl, Y, hE, K2, hM2⟩
  have hll : l.length ≤ 2 := by rw [← List.length_map (f := Prod.fst), hl]; exact HL
  have hN := newest_any hE hM2 hll
  have hnw := lastE_nw l
  rw [hl, HNQ.out] at hnw
  have hlv : ∃ aq kq cq, (lastE l).2 = .slice aq kq cq := by
    rcases List.eq_nil_or_concat l with e | ⟨l', x, e⟩
    · subst e; exact ⟨none, 0, 0, rfl⟩
    · subst e
      have : lastE (l'.concat x) = x := by simp [lastE]
      rw [this]
      obtain ⟨a1, c1, e1⟩ := es_vals hE (x := x) (by simp)
      exact ⟨_, _, _, e1⟩
  obtain ⟨aq, kq, cq, hlv⟩ := hlv
  rw [hnw, hlv] at hN
  have H2 := HH.out.join hM2
  obtain ⟨ae, ce, ee⟩ := hE.shape
  subst ee
  have HQ : Hid (∀ V K, Mem w2 V K → Calls Tryd.prog 33 #[.pointer (some ⟨pl, 0, none⟩), .agg (enA nq.s nq.t nq.c (.slice aq kq cq)), .slice a k cap] V fun e3 W' => e3 = .returned (.agg (enA e.s e.t e.c (.slice a k cap))) ∧ ∃ K, Mem V W' K) := fun V K hV => by
    rw [HNE.out]
    exact next_any ((H2.join hV).has (x := (pl, .cells (lgA p t c v) lgT (0, 0))) (by simp)) nq hqs aq kq cq a k cap r hr
  have H2h : Hid (DkAt w w2 p h m D hc ks ((Y ++ K2) ++ ((pl, .cells (lgA p t c v) lgT (0, 0)) :: L))) := H2
  clear hf hE hM2 hl hnw hlv H2 HL hqs HH hll HNE HNQ
  go_wp2_with fail
  refine hN.mono ?_
  rintro e3 w3 ⟨rfl, K3, h3⟩
  go_wp2_with fail
  refine (HQ.out w3 K3 h3).mono ?_
  rintro e3 w4 ⟨rfl, K4, h4⟩
  go_upto_region 7 with fail
  have HA : DkAt w (w4.alloc (.cells (enA e.s e.t e.c (.slice a k cap)) enT)) p h m D hc ks ((pl, .cells (lgA p t c v) lgT (0, 0)) :: ((w4.heap.size, .cells (enA e.s e.t e.c (.slice a k cap)) enT (0, 0)) :: ((K4 ++ (K3 ++ (Y ++ K2))) ++ L))) := by
    have h5 := ((H2h.out.join h3).join h4).join (K := [(w4.heap.size, .cells (enA e.s e.t e.c (.slice a k cap)) enT (0, 0))]) ((Mem.nil w4).push1 rfl)
    refine h5.on (h5.st.perm ?_)
    have e9 : ∀ (P B : Nat × Obj) (K4 K3 Z L : List (Nat × Obj)), ([B] ++ (K4 ++ (K3 ++ (Z ++ (P :: L))))).Perm (P :: (B :: ((K4 ++ (K3 ++ Z)) ++ L))) := by
      intro P B K4 K3 Z L
      have e8 : ([B] ++ (K4 ++ (K3 ++ (Z ++ (P :: L))))) = (B :: (K4 ++ (K3 ++ Z))) ++ (P :: L) := by simp
      rw [e8]; exact List.perm_middle
    exact e9 _ _ _ _ _ _
  refine wp_letter (fun V => DkAt w V p h m D hc ks ((pl, .cells (lgA p t c v) lgT (0, 0)) :: ((w4.heap.size, .cells (enA e.s e.t e.c (.slice a k cap)) enT (0, 0)) :: ((K4 ++ (K3 ++ (Y ++ K2))) ++ L)))) HA ?_
  clear HA
  intro wB HB
  generalize w4.heap.size = b7 at *
  generalize K4 ++ (K3 ++ (Y ++ K2)) = KK at *
  clear h3 h4 H2h HQ hN
  have x1 : wB.cell? ⟨b7, 1, none⟩ = some (.int .u64 e.t) := cell_of (HB.has (x := (b7, .cells (enA e.s e.t e.c (.slice a k cap)) enT (0, 0))) (by simp)) 1
  have y1 : wB.cell? ⟨pl, 1, none⟩ = some (.int .u64 t) := log_cell HB 1
  have yf : wB.frozen? ⟨pl, 1, none⟩ = false := HB.st.extraFree 1
  have HB1 : Hid (DkAt w (wB.setCell ⟨pl, 1, none⟩ (.int .u64 e.t)) p h m D hc ks ((pl, .cells (lgA p e.t c v) lgT (0, 0)) :: ((b7, .cells (enA e.s e.t e.c (.slice a k cap)) enT (0, 0)) :: (KK ++ L)))) := HB.on (HB.st.extraSet 1 (.int .u64 e.t))
  clear HB
  go_upto_region 8 with fail
  refine wp_letter (fun V => DkAt w V p h m D hc ks ((pl, .cells (lgA p e.t c v) lgT (0, 0)) :: ((b7, .cells (enA e.s e.t e.c (.slice a k cap)) enT (0, 0)) :: (KK ++ L)))) HB1.out ?_
  clear HB1 x1 y1 yf
  intro wC HC
  have HS : Hid (∀ V D' ks' K, DkAt w V p h m D' hc ks' (K ++ ((pl, .cells (lgA p e.t c v) lgT (0, 0)) :: ((b7, .cells (enA e.s e.t e.c (.slice a k cap)) enT (0, 0)) :: (KK ++ L)))) → V.cell? ⟨pl, 0, none⟩ = some (.pointer (some ⟨p, 0, none⟩)) ∧ V.cell? ⟨b7, 0, none⟩ = some (.int .i64 e.s) ∧ V.cell? ⟨b7, 1, none⟩ = some (.int .u64 e.t) ∧ V.cell? ⟨b7, 2, none⟩ = some (.int .i64 e.c) ∧ V.cell? ⟨b7, 3, none⟩ = some (.slice a k cap)) := by
    intro V D' ks' K hV
    have g1 := hV.has (x := (pl, .cells (lgA p e.t c v) lgT (0, 0))) (by simp)
    have g2 := hV.has (x := (b7, .cells (enA e.s e.t e.c (.slice a k cap)) enT (0, 0))) (by simp)
    exact ⟨cell_of g1 0, cell_of g2 0, cell_of g2 1, cell_of g2 2, cell_of g2 3⟩
  obtain ⟨u0, u1, u2, u3, u4⟩ := HS.out wC D ks [] HC
  have HWR : Hid (Calls Tryd.prog 34 #[.pointer (some ⟨p, 0, none⟩), .agg (enA e.s e.t e.c (.slice a k cap))] wC.drew fun ev W' => ∃ err, ev = .returned (.int .i64 err) ∧ ∃ D' ks' K, WrEnd w W' p h m D hc (ks.map Bk.b) ((pl, .cells (lgA p e.t c v) lgT (0, 0)) :: ((b7, .cells (enA e.s e.t e.c (.slice a k cap)) enT (0, 0)) :: (KK ++ L))) e err D' ks' K) :=
    write_any (HC.on HC.st.drew) hd e HEO.out (by rw [HER.out]; exact hr) hcap hsh (by rw [HER.out]; exact HBE.out.mono (fun q hq => by simp [hq]))
  clear HC
  go_region_held3 (fun w' => w'.cell? ⟨pl, 0, none⟩ = some (.pointer (some ⟨p, 0, none⟩)) ∧ w'.cell? ⟨b7, 0, none⟩ = some (.int .i64 e.s) ∧ w'.cell? ⟨b7, 1, none⟩ = some (.int .u64 e.t) ∧ w'.cell? ⟨b7, 2, none⟩ = some (.int .i64 e.c) ∧ w'.cell? ⟨b7, 3, none⟩ = some (.slice a k cap))
    (first | go_keep | assumption | exact HS.out _ _ _ _ hend.at_)
    (first | (go_at_call 34; with_reducible refine HWR.out.mono ?_; rintro e3 w7 ⟨err, rfl, D7, ks7, K7, hend⟩))
  rcases hend.ok with ⟨rfl, z1, z2, z3⟩ | ⟨rfl, z1, z2, z3⟩
  · have H7 := hend.at_
    have H7p : DkAt w w7 p h m D7 hc ks7 ((pl, .cells (lgA p e.t c v) lgT (0, 0)) :: ((b7, .cells (enA e.s e.t e.c (.slice a k cap)) enT (0, 0)) :: ((K7 ++ KK) ++ L))) := by
      refine H7.on (H7.st.perm ?_)
      have e9 : ∀ (P B : Nat × Obj) (K Z L : List (Nat × Obj)), (K ++ (P :: (B :: (Z ++ L)))).Perm (P :: (B :: ((K ++ Z) ++ L))) := by
        intro P B K Z L
        refine List.perm_middle.trans (List.Perm.cons P (List.perm_middle.trans (List.Perm.cons B ?_)))
        rw [List.append_assoc]
      exact e9 _ _ _ _ _
    have x2 : w7.cell? ⟨b7, 2, none⟩ = some (.int .i64 e.c) := cell_of (H7p.has (x := (b7, .cells (enA e.s e.t e.c (.slice a k cap)) enT (0, 0))) (by simp)) 2
    have hlb : b7 < w7.drew.heap.size := cell_lt x2
    have x2d : w7.drew.cell? ⟨b7, 2, none⟩ = some (.int .i64 e.c) := x2
    have hRow : Row w7.drew a r := row_drew (HBE.out _ _ _ _ _ H7p (fun q hq => by simp [hq]))
    have HSM : Hid (Calls Tryd.prog 35 #[.slice a k cap] w7.drew fun e W' => ∃ g, e = .returned (.slice (some ⟨g, 0, none⟩) k k) ∧ Mem w7.drew W' [(g, .cells (bs r) 5 (0, 0))]) := lsame_any hr hRow cap
    have HPL : Hid (∀ V g, Mem w7.drew V [(g, .cells (bs r) 5 (0, 0))] → V.cell? ⟨pl, 2, none⟩ = some (.int .i64 c) ∧ V.cell? ⟨pl, 3, none⟩ = some v ∧ (∀ j, V.frozen? ⟨pl, j, none⟩ = false) ∧ DkAt w ((V.setCell ⟨pl, 2, none⟩ (.int .i64 e.c)).setCell ⟨pl, 3, none⟩ (.slice (some ⟨g, 0, none⟩) k k)) p h m D7 hc ks7 ((pl, .cells (lgA p e.t e.c (.slice (some ⟨g, 0, none⟩) k k)) lgT (0, 0)) :: ([(g, .cells (bs r) 5 (0, 0))] ++ ((b7, .cells (enA e.s e.t e.c (.slice a k cap)) enT (0, 0)) :: ((K7 ++ KK) ++ L))))) := by
      intro V g hV
      have H8 := (H7p.on H7p.st.drew).join hV
      have H8p : DkAt w V p h m D7 hc ks7 ((pl, .cells (lgA p e.t c v) lgT (0, 0)) :: ([(g, .cells (bs r) 5 (0, 0))] ++ ((b7, .cells (enA e.s e.t e.c (.slice a k cap)) enT (0, 0)) :: ((K7 ++ KK) ++ L)))) := H8.on (H8.st.perm (List.Perm.swap _ _ _))
      refine ⟨log_cell H8p 2, log_cell H8p 3, fun j => H8p.st.extraFree j, H8p.on ?_⟩
      exact (H8p.st.extraSet 2 (.int .i64 e.c)).extraSet 3 (.slice (some ⟨g, 0, none⟩) k k)
    have hpb : pl ≠ b7 := by
      have := H7p.st.mem.ne (ks7.length + 2) (ks7.length + 3) (g := pl) (k := b7) H7p.st.extra (by
        show (ks7.map Bk.ob ++ _)[ks7.length + 1]? = _
        rw [List.getElem?_append_right (by simp)]; simp; rfl) (by omega)
      exact this
    have HFIN : Hid (D7.dead = false ∧ (D.set = false → D7 = D) ∧ ks7.map Bk.b = part m e (ks.map Bk.b) (npc (m - 64) e.r.length)) := ⟨z1, z2, z3⟩
    clear hend H7 H7p hRow z1 z2 z3 HS HWR u0 u1 u2 u3 u4
    go_upto_region 11 with fail
    subst hv
    go_region_held3 (fun w' => w'.cell? ⟨b7, 2, none⟩ = some (.int .i64 e.c)) (first | go_keep | assumption | exact (q8.old hlb).trans x2d)
      (first | (go_at_call 35; with_reducible refine HSM.out.mono ?_; rintro e3 w8 ⟨g8, rfl, q8⟩; obtain ⟨v2, v3, vf, vD⟩ := HPL.out _ _ q8))
    all_goals go_wp2
    all_goals go_ret
    refine ⟨0, rfl, D7, ks7, e.c, .slice (some ⟨g8, 0, none⟩) k k, [(g8, .cells (bs r) 5 (0, 0))], (b7, .cells (enA e.s e.t e.c (.slice a k cap)) enT (0, 0)) :: (K7 ++ KK), ⟨?_, Or.inl ⟨rfl, HFIN.out.1, HFIN.out.2.1, HFIN.out.2.2, rfl, ?_⟩⟩⟩
    · exact vD
    · rw [HER.out]
      refine Or.inr ⟨Bk.mk g8 k (bs r) r, by rw [hr], rfl, ⟨by rw [hr]; exact Nat.le_refl _, by rw [bs_size, hr]; exact Nat.le_refl _, ?_, rfl, hb⟩, rfl⟩
      show List.take _ (List.map _ _) = _
      exact List.take_of_length_le (by simp)
  · have H7 := hend.at_
    have HEND : Hid (∃ D' ks' c' v' X K, ApEnd w w7 p h m D hc (ks.map Bk.b) L pl t c v e 42 D' ks' c' v' X K) := by
      refine ⟨D7, ks7, c, v, [], (K7 ++ ((b7, .cells (enA e.s e.t e.c (.slice a k cap)) enT (0, 0)) :: KK)), ⟨?_, Or.inr ⟨rfl, z1, z2, z3, rfl, rfl, rfl⟩⟩⟩
      refine H7.on (H7.st.perm ?_)
      have e9 : ∀ (P B : Nat × Obj) (K Z L : List (Nat × Obj)), (K ++ (P :: (B :: (Z ++ L)))).Perm (P :: ([] ++ ((K ++ (B :: Z)) ++ L))) := by
        intro P B K Z L
        refine List.perm_middle.trans (List.Perm.cons P ?_)
        simp
      exact e9 _ _ _ _ _
    clear hend H7 z1 z2 z3
    go_wp2
    go_ret
    exact ⟨42, rfl, HEND.out⟩
theorem records_any (H : DkAt w W p h m D hc ks ((pl, .cells (lgA p t c v) lgT (0, 0)) :: L)) : Calls Tryd.prog 20 #[.pointer (some ⟨pl, 0, none⟩)] W fun e W' => e = .returned (.int .i64 c) ∧ W = W' := by
  have k2 := log_cell H 2
  simp at k2
  clear H
  go_enter Tryd.func20, Tryd.ntmps20
  go_wp2
  go_ret
  exact ⟨rfl, rfl⟩
theorem last_any {X : List (Nat × Obj)} {r : List Int} (H : DkAt w W p h m D hc ks ((pl, .cells (lgA p t c v) lgT (0, 0)) :: (X ++ L))) (ho : OwnV v r X) (hr : r.length ≤ 1000000000) : Calls Tryd.prog 22 #[.pointer (some ⟨pl, 0, none⟩)] W fun e W' => ∃ g, e = .returned (.slice (some ⟨g, 0, none⟩) r.length r.length) ∧ Mem W W' [(g, .cells (bs r) 5 (0, 0))] := by
  have k3 := log_cell H 3
  simp at k3
  have hM : Mem w W (X ++ ((pl, .cells (lgA p t c v) lgT (0, 0)) :: ((p, .cells (dkA h ks.length D) dkT (0, 0)) :: ((h, .cells hc 22 (0, 0)) :: (ks.map Bk.ob ++ L))))) := by
    refine H.st.mem.perm ?_
    have e9 : ∀ (A B P : Nat × Obj) (Z X L : List (Nat × Obj)), (A :: B :: (Z ++ (P :: (X ++ L)))).Perm (X ++ (P :: (A :: (B :: (Z ++ L))))) := by
      intro A B P Z X L
      have h1 : (A :: B :: (Z ++ (P :: (X ++ L)))) = (A :: B :: Z) ++ (P :: (X ++ L)) := by simp
      rw [h1]
      refine List.perm_middle.trans ?_
      have h2 : (P :: ((A :: B :: Z) ++ (X ++ L))) = [P] ++ ((A :: B :: Z) ++ (X ++ L)) := rfl
      have h3 : (X ++ (P :: (A :: (B :: (Z ++ L))))) = X ++ ([P] ++ ((A :: B :: Z) ++ L)) := by simp
      rw [h2, h3]
      exact (List.Perm.append_left [P] (perm_front _ X L)).trans (perm_front [P] X _)
    exact e9 _ _ _ _ _ _
  obtain ⟨a, cc, e, hle, hrow⟩ := ho.row hM (by omega)
  subst e
  have hs := lsame_any rfl hrow cc
  clear H hM ho hrow
  go_enter Tryd.func22, Tryd.ntmps22
  go_wp2_with fail
  refine hs.mono ?_
  rintro e w2 ⟨g, rfl, h2⟩
  go_wp2
  go_ret
  exact ⟨g, rfl, h2⟩
end
end Go.Proofs.YtbmpjlgfbiakoaaDoor
