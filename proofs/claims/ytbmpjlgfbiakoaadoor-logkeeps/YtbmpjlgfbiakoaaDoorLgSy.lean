/-
  A log and its store, in step: what Open, Append, Records, Last do to them.
-/
import Derived.Test.YtbmpjlgfbiakoaaDoorLgAppend
import Derived.Test.YtbmpjlgfbiakoaaDoorLgSyn
namespace Go.Proofs.YtbmpjlgfbiakoaaDoor
open Go.RowKit
open Sm
set_option linter.unusedVariables false

/-- A store whose blocks hold the last of all. -/
structure Sd (w W : World) (p h m N : Nat) (D : Dk) (B : Int) (all : List (List Int)) (L : List (Nat × Obj)) : Prop where
  at_ : ∃ hc ks K, DkAt w W p h m D hc ks (L ++ K) ∧ ks.length = N ∧ Syn B all (ks.map Bk.b)
/-- A log beside it. -/
structure Sy (w W : World) (p h m N : Nat) (D : Dk) (pl : Nat) (B : Int) (all : List (List Int)) (L : List (Nat × Obj)) : Prop where
  at_ : ∃ hc ks v X K, DkAt w W p h m D hc ks ((pl, .cells (lgA p (nw (fd (ks.map Bk.b))).t (nw (fd (ks.map Bk.b))).c v) lgT (0, 0)) :: (X ++ (L ++ K))) ∧ ks.length = N ∧ Syn B all (ks.map Bk.b) ∧ OwnV v (all.getLastD []) X
/-- What a log's fields may be for the laws' own: a log that is there. -/
structure So (w W : World) (p h m N : Nat) (D : Dk) (pl : Nat) (L : List (Nat × Obj)) : Prop where
  at_ : ∃ hc ks t c v K, DkAt w W p h m D hc ks ((pl, .cells (lgA p t c v) lgT (0, 0)) :: (L ++ K)) ∧ ks.length = N

section
variable {w W : World} {p h m N : Nat} {D : Dk} {pl : Nat} {B : Int} {all : List (List Int)} {L : List (Nat × Obj)}
theorem Sy.sd (H : Sy w W p h m N D pl B all L) : Sd w W p h m N D B all L := by
  obtain ⟨hc, ks, v, X, K, h1, h2, h3, h4⟩ := H.at_
  refine ⟨hc, ks, K ++ ((pl, .cells (lgA p (nw (fd (ks.map Bk.b))).t (nw (fd (ks.map Bk.b))).c v) lgT (0, 0)) :: X), h1.on (h1.st.perm ?_), h2, h3⟩
  have e9 : ∀ (P : Nat × Obj) (X L K : List (Nat × Obj)), (P :: (X ++ (L ++ K))).Perm (L ++ (K ++ (P :: X))) := by
    intro P X L K
    have e1 : (P :: (X ++ (L ++ K))) = (P :: X) ++ (L ++ K) := rfl
    have e2 : L ++ (K ++ (P :: X)) = (L ++ K) ++ (P :: X) := by simp
    rw [e1, e2]; exact List.perm_append_comm
  exact e9 _ _ _ _
theorem Sd.join (H : Sd w W p h m N D B all L) {W' : World} {K : List (Nat × Obj)} (k : Mem W W' K) : Sd w W' p h m N D B all L := by
  obtain ⟨hc, ks, K2, h1, h2, h3⟩ := H.at_
  have h4 := h1.join k
  exact ⟨hc, ks, K2 ++ K, h4.on (h4.st.perm (by rw [show L ++ (K2 ++ K) = (L ++ K2) ++ K by simp]; exact List.perm_append_comm)), h2, h3⟩
theorem Sy.join (H : Sy w W p h m N D pl B all L) {W' : World} {K : List (Nat × Obj)} (k : Mem W W' K) : Sy w W' p h m N D pl B all L := by
  obtain ⟨hc, ks, v, X, K2, h1, h2, h3, h4⟩ := H.at_
  have h5 := h1.join k
  refine ⟨hc, ks, v, X, K2 ++ K, h5.on (h5.st.perm ?_), h2, h3, h4⟩
  have e9 : ∀ (P : Nat × Obj) (K X L K2 : List (Nat × Obj)), (K ++ (P :: (X ++ (L ++ K2)))).Perm (P :: (X ++ (L ++ (K2 ++ K)))) := by
    intro P K X L K2
    refine List.perm_middle.trans (List.Perm.cons P ?_)
    have e2 : X ++ (L ++ (K2 ++ K)) = (X ++ (L ++ K2)) ++ K := by simp
    rw [e2]; exact List.perm_append_comm
  exact e9 _ _ _ _ _
theorem Sy.drewN (H : Sy w W p h m N D pl B all L) (n : Nat) : Sy w (W.drewN n) p h m N D pl B all L := by
  obtain ⟨hc, ks, v, X, K2, h1, h2, h3, h4⟩ := H.at_
  exact ⟨hc, ks, v, X, K2, h1.drewN n, h2, h3, h4⟩
theorem Sd.drewN (H : Sd w W p h m N D B all L) (n : Nat) : Sd w (W.drewN n) p h m N D B all L := by
  obtain ⟨hc, ks, K2, h1, h2, h3⟩ := H.at_
  exact ⟨hc, ks, K2, h1.drewN n, h2, h3⟩
theorem Sd.has (H : Sd w W p h m N D B all L) {x : Nat × Obj} (hx : x ∈ L) : W.heap[x.1]? = some x.2 := by
  obtain ⟨hc, ks, K2, h1, h2, h3⟩ := H.at_
  exact h1.has (List.mem_append_left _ hx)
theorem Sy.has (H : Sy w W p h m N D pl B all L) {x : Nat × Obj} (hx : x ∈ L) : W.heap[x.1]? = some x.2 := H.sd.has hx
theorem Sd.below (H : Sd w W p h m N D B all L) : Below w.heap.size w W := by
  obtain ⟨hc, ks, K2, h1, h2, h3⟩ := H.at_
  exact h1.st.below
/-- More that lies beside. -/
theorem Sd.push (H : Sd w W p h m N D B all L) {W' : World} {K : List (Nat × Obj)} (k : Mem W W' K) : Sd w W' p h m N D B all (K ++ L) := by
  obtain ⟨hc, ks, K2, h1, h2, h3⟩ := H.at_
  have h4 := h1.join k
  exact ⟨hc, ks, K2, h4.on (h4.st.perm (by rw [List.append_assoc])), h2, h3⟩
theorem Sy.push (H : Sy w W p h m N D pl B all L) {W' : World} {K : List (Nat × Obj)} (k : Mem W W' K) : Sy w W' p h m N D pl B all (K ++ L) := by
  obtain ⟨hc, ks, v, X, K2, h1, h2, h3, h4⟩ := H.at_
  have h5 := h1.join k
  refine ⟨hc, ks, v, X, K2, h5.on (h5.st.perm ?_), h2, h3, h4⟩
  have e9 : ∀ (P : Nat × Obj) (K X L K2 : List (Nat × Obj)), (K ++ (P :: (X ++ (L ++ K2)))).Perm (P :: (X ++ ((K ++ L) ++ K2))) := by
    intro P K X L K2
    refine List.perm_middle.trans (List.Perm.cons P ?_)
    rw [List.append_assoc]; exact perm_front _ _ _
  exact e9 _ _ _ _ _
/-- Less. -/
theorem Sd.sub {Y : List (Nat × Obj)} (H : Sd w W p h m N D B all (Y ++ L)) : Sd w W p h m N D B all L := by
  obtain ⟨hc, ks, K2, h1, h2, h3⟩ := H.at_
  exact ⟨hc, ks, K2 ++ Y, h1.on (h1.st.perm (by rw [← List.append_assoc, List.append_assoc]; exact List.perm_append_comm)), h2, h3⟩
theorem Sy.sub {Y : List (Nat × Obj)} (H : Sy w W p h m N D pl B all (Y ++ L)) : Sy w W p h m N D pl B all L := by
  obtain ⟨hc, ks, v, X, K2, h1, h2, h3, h4⟩ := H.at_
  refine ⟨hc, ks, v, X, K2 ++ Y, h1.on (h1.st.perm (List.Perm.cons _ (List.Perm.append_left X ?_))), h2, h3, h4⟩
  rw [← List.append_assoc, List.append_assoc]; exact List.perm_append_comm

theorem sd_new {x y : Int} {n m : Nat} (hx : bd x 1 64 = n) (hy : bd y 64 65536 = m) (W : World) :
    Calls Tryd.prog 12 #[.int .i64 x, .int .i64 y] W fun e W' => ∃ p, e = .returned (.pointer (some ⟨p, 0, none⟩)) ∧ ∃ h, Sd W W' p h m n ⟨false, false, 0, 0⟩ 0 [] [] := by
  refine (dnew_any (Mem.nil W) x y).mono ?_
  rintro e W' ⟨p, rfl, h, hc, ks, H, hb⟩
  rw [hx, hy, Int.toNat_natCast, Int.toNat_natCast] at hb
  rw [hy, Int.toNat_natCast] at H
  refine ⟨p, rfl, h, hc, ks, [], H, ?_, ?_⟩
  · have := congrArg List.length hb; simpa using this
  · rw [hb]; exact syn_new n m (by have := H.mlo; omega)
theorem sd_open (H : Sd w W p h m N D B all L) {ga : Addr} (hG : Gl w ga) (hd : D.dead = false) (hn : 4 ≤ N) (hm : 256 ≤ m) (hB : B ≤ 1000000) (hB0 : 0 ≤ B) :
    Calls Tryd.prog 14 #[.pointer (some ⟨p, 0, none⟩)] W fun e W' => ∃ pl v', e = .returned (.tuple #[.pointer (some ⟨pl, 0, none⟩), v', .int .i64 0]) ∧ ∃ got Y, RS v' got Y ∧ Ends got all ∧ Sy w W' p h m N D pl B all (Y ++ L) := by
  obtain ⟨hc, ks, K, h1, h2, h3⟩ := H.at_
  refine (open_live h1 (hG.on h1.st.mem) hd (by omega) hm).mono ?_
  rintro e W' ⟨pl, v', rfl, vr, X, hO, Y, hR, K', hM⟩
  refine ⟨pl, v', rfl, _, Y, hR, syn_kp h3 hB, hc, ks, vr, X, K' ++ K, ?_, h2, h3, ?_⟩
  · have h4 := h1.join hM
    refine h4.on (h4.st.perm ?_)
    have e9 : ∀ (P : Nat × Obj) (X Y K' L K : List (Nat × Obj)), ((P :: (X ++ (Y ++ K'))) ++ (L ++ K)).Perm (P :: (X ++ ((Y ++ L) ++ (K' ++ K)))) := by
      intro P X Y K' L K
      rw [List.cons_append]
      refine List.Perm.cons P ?_
      simp only [List.append_assoc]
      refine List.Perm.append_left X (List.Perm.append_left Y ?_)
      exact perm_front K' L K
    exact e9 _ _ _ _ _ _
  · have := (syn_nw h3 hB hB0).2.1
    rw [← this]; exact hO
theorem sd_open_small (H : Sd w W p h m N D B all L) (hno : ¬ (4 ≤ N ∧ 256 ≤ m)) : Calls Tryd.prog 14 #[.pointer (some ⟨p, 0, none⟩)] W fun e W' => e = .returned (.tuple #[.pointer none, .slice none 0 0, .int .i64 50]) ∧ W = W' := by
  obtain ⟨hc, ks, K, h1, h2, h3⟩ := H.at_
  subst h2
  exact open_small h1 hno
theorem sd_room (H : Sd w W p h m N D B all L) : Calls Tryd.prog 15 #[.pointer (some ⟨p, 0, none⟩)] W fun e W' => e = .returned (.int .i64 (room N m)) ∧ W = W' := by
  obtain ⟨hc, ks, K, h1, h2, h3⟩ := H.at_
  subst h2
  exact lroom_any h1
theorem sd_dead (H : Sd w W p h m N D B all L) : Calls Tryd.prog 25 #[.pointer (some ⟨p, 0, none⟩)] W fun e W' => e = .returned (.bool D.dead) ∧ W = W' := by
  obtain ⟨hc, ks, K, h1, h2, h3⟩ := H.at_
  exact ddead_any h1
theorem sd_blocks (H : Sd w W p h m N D B all L) : Calls Tryd.prog 16 #[.pointer (some ⟨p, 0, none⟩)] W fun e W' => e = .returned (.int .i64 N) ∧ W = W' := by
  obtain ⟨hc, ks, K, h1, h2, h3⟩ := H.at_
  subst h2
  exact dblocks_any h1
theorem sd_size (H : Sd w W p h m N D B all L) : Calls Tryd.prog 17 #[.pointer (some ⟨p, 0, none⟩)] W fun e W' => e = .returned (.int .i64 m) ∧ W = W' := by
  obtain ⟨hc, ks, K, h1, h2, h3⟩ := H.at_
  exact dsize_any h1
theorem sd_power (H : Sd w W p h m N D B all L) : Calls Tryd.prog 26 #[.pointer (some ⟨p, 0, none⟩)] W fun e W' => e = .returned (.tuple #[]) ∧ Sd w W' p h m N ⟨false, false, 0, 0⟩ B all L := by
  obtain ⟨hc, ks, K, h1, h2, h3⟩ := H.at_
  refine (dpower_any h1).mono ?_
  rintro e W' ⟨rfl, h4⟩
  exact ⟨rfl, hc, ks, K, h4, h2, h3⟩
theorem sd_cut (H : Sd w W p h m N D B all L) (n q : Int) (hn : n ≤ 9223372036854775807) : Calls Tryd.prog 24 #[.pointer (some ⟨p, 0, none⟩), .int .i64 n, .int .i64 q] W fun e W' => e = .returned (.tuple #[]) ∧ Sd w W' p h m N ⟨D.dead, true, max n 0, bd q 0 m⟩ B all L := by
  obtain ⟨hc, ks, K, h1, h2, h3⟩ := H.at_
  refine (dcut_any h1 n q hn).mono ?_
  rintro e W' ⟨rfl, h4⟩
  exact ⟨rfl, hc, ks, K, h4, h2, h3⟩
theorem sy_cut (H : Sy w W p h m N D pl B all L) (n q : Int) (hn : n ≤ 9223372036854775807) : Calls Tryd.prog 24 #[.pointer (some ⟨p, 0, none⟩), .int .i64 n, .int .i64 q] W fun e W' => e = .returned (.tuple #[]) ∧ Sy w W' p h m N ⟨D.dead, true, max n 0, bd q 0 m⟩ pl B all L := by
  obtain ⟨hc, ks, v, X, K, h1, h2, h3, h4⟩ := H.at_
  refine (dcut_any h1 n q hn).mono ?_
  rintro e W' ⟨rfl, h5⟩
  exact ⟨rfl, hc, ks, v, X, K, h5, h2, h3, h4⟩
theorem sy_records (H : Sy w W p h m N D pl B all L) (hB : B ≤ 1000000) (hB0 : 0 ≤ B) : Calls Tryd.prog 20 #[.pointer (some ⟨pl, 0, none⟩)] W fun e W' => e = .returned (.int .i64 all.length) ∧ W = W' := by
  obtain ⟨hc, ks, v, X, K, h1, h2, h3, h4⟩ := H.at_
  have := records_any h1
  rw [(syn_nw h3 hB hB0).1] at this
  exact this
theorem sy_last (H : Sy w W p h m N D pl B all L) (hl : (all.getLastD []).length ≤ 1000000000) : Calls Tryd.prog 22 #[.pointer (some ⟨pl, 0, none⟩)] W fun e W' => ∃ g, e = .returned (.slice (some ⟨g, 0, none⟩) (all.getLastD []).length (all.getLastD []).length) ∧ Mem W W' [(g, .cells (bs (all.getLastD [])) 5 (0, 0))] := by
  obtain ⟨hc, ks, v, X, K, h1, h2, h3, h4⟩ := H.at_
  exact last_any h1 h4 hl
/-- A record that lies beside. -/
theorem beside_of {g : Nat} {r : List Int} {fz : Nat × Nat} (hx : (g, Obj.cells (bs r) 5 fz) ∈ L) (hb : IsBytes r) (hl : r.length ≤ 140737488351232) : Beside w p h m L (some ⟨g, 0, none⟩) r := by
  intro W' D' hc' ks' L' H hL
  have hg := H.has (hL _ hx)
  exact ⟨hb, hl, Or.inr ⟨g, 0, rfl, fun i hi => by rw [Nat.zero_add, cell_of_row W' g i (bs r) 5 fz hg, bs_get hi]⟩⟩
theorem sy_big (H : Sy w W p h m N D pl B all L) (a : Option Addr) (k cap : Nat) (hk : room N m < k) :
    Calls Tryd.prog 18 #[.pointer (some ⟨pl, 0, none⟩), .slice a k cap] W fun e W' => e = .returned (.int .i64 51) ∧ W = W' := by
  obtain ⟨hc, ks, v, X, K, h1, h2, h3, h4⟩ := H.at_
  subst h2
  exact append_big h1 a k cap hk
theorem room_le (n m : Nat) : room n m ≤ 16384 := by unfold room; split <;> omega
/-- An Append: it goes well, or the power fails. -/
theorem sy_append (H : Sy w W p h m N D pl B all L) {ga : Addr} (hG : Gl w ga) (hd : D.dead = false) (hn : 4 ≤ N) (hm : 256 ≤ m) (hB : B ≤ 900000) (hB0 : 0 ≤ B) (hal : all.length ≤ 900000) {g k : Nat} {r : List Int} (hr : r.length = k) (hk : k ≤ room N m) (hBe0 : Beside w p h m L (some ⟨g, 0, none⟩) r) (hb : IsBytes r) :
    Calls Tryd.prog 18 #[.pointer (some ⟨pl, 0, none⟩), .slice (some ⟨g, 0, none⟩) k k] W fun ev W' => ∃ err, ev = .returned (.int .i64 err) ∧ ∃ D',
      ((err = 0 ∧ D'.dead = false ∧ (D.set = false → D' = D) ∧ Sy w W' p h m N D' pl (B + 1) (all ++ [r]) L) ∨
       (err = 42 ∧ D' = gone ∧ D.set = true ∧ So w W' p h m N D' pl L ∧ (Sd w W' p h m N D' (B + 1) all L ∨ Sd w W' p h m N D' (B + 1) (all ++ [r]) L))) := by
  obtain ⟨hc, ks, v, X, K, h1, h2, h3, h4⟩ := H.at_
  subst h2
  have hrm := room_le ks.length m
  obtain ⟨av, cv, ev, -⟩ := h4.shape
  have hx2 := syn_nxt h3 hB hB0 hal rfl rfl r
  have hBe : Beside w p h m (X ++ (L ++ K)) (some ⟨g, 0, none⟩) r := hBe0.mono (fun q hq => by simp [hq])
  have heo := nxt_ok (t := (nw (fd (ks.map Bk.b))).t) (c := (nw (fd (ks.map Bk.b))).c) (bl := ks.map Bk.b) hn h1.top hm h1.mhi (by rw [hr]; exact hk) hb (by rw [hx2.2.2.1]; omega)
  refine (append_live h1 hG hd hn hm hr hk (Nat.le_refl k) (Or.inr ⟨_, _, rfl⟩) hBe hb (by rw [hx2.2.2.1]; omega) ev).mono ?_
  rintro ev2 W' ⟨err, rfl, D', ks', c', v', X', K', hE⟩
  refine ⟨err, rfl, D', ?_⟩
  have hat := hE.at_
  rcases hE.ok with ⟨rfl, a1, a2, a3, a4, a5⟩ | ⟨rfl, a1, a2, a3, a4, a5, a6⟩
  · left
    obtain ⟨s1, s2⟩ := syn_ok h3 hB hB0 hal rfl rfl heo (by rw [List.length_map])
    refine ⟨rfl, a1, a2, hc, ks', v', X', K' ++ (X ++ K), ?_, ?_, by rw [a3]; exact s1, ?_⟩
    · rw [a3, s2]
      rw [a4] at hat
      refine hat.on (hat.st.perm (List.Perm.cons _ (List.Perm.append_left X' ?_)))
      have e9 : ∀ (K' X L K : List (Nat × Obj)), (K' ++ (X ++ (L ++ K))).Perm (L ++ (K' ++ (X ++ K))) := by
        intro K' X L K
        have e1 : K' ++ (X ++ (L ++ K)) = (K' ++ X) ++ (L ++ K) := by simp
        have e2 : L ++ (K' ++ (X ++ K)) = L ++ ((K' ++ X) ++ K) := by simp
        rw [e1, e2]; exact perm_front _ _ _
      exact e9 _ _ _ _
    · have := congrArg List.length a3; rw [part_length, List.length_map, List.length_map] at this; exact this
    · have : (all ++ [r]).getLastD [] = r := by rw [List.getLastD_eq_getLast?, List.getLast?_concat]; rfl
      rw [this]
      have e2 : (nxt (nw (fd (ks.map Bk.b))).t (nw (fd (ks.map Bk.b))).c (nw (fd (ks.map Bk.b))) r).r = r := rfl
      rw [e2] at a5; exact a5
  · right
    have hlen : ks'.length = ks.length := by have := a3.length; rw [List.length_map, List.length_map] at this; exact this
    refine ⟨rfl, a1, a2, ⟨hc, ks', (nxt (nw (fd (ks.map Bk.b))).t (nw (fd (ks.map Bk.b))).c (nw (fd (ks.map Bk.b))) r).t, c', v', X' ++ (K' ++ (X ++ K)), ?_, hlen⟩, ?_⟩
    · refine hat.on (hat.st.perm (List.Perm.cons _ ?_))
      have e9 : ∀ (X' K' X L K : List (Nat × Obj)), (X' ++ (K' ++ (X ++ (L ++ K)))).Perm (L ++ (X' ++ (K' ++ (X ++ K)))) := by
        intro X' K' X L K
        have e1 : X' ++ (K' ++ (X ++ (L ++ K))) = (X' ++ (K' ++ X)) ++ (L ++ K) := by simp
        have e2 : L ++ (X' ++ (K' ++ (X ++ K))) = L ++ ((X' ++ (K' ++ X)) ++ K) := by simp
        rw [e1, e2]; exact perm_front _ _ _
      exact e9 _ _ _ _ _
    · have hrest : DkAt w W' p h m D' hc ks' (L ++ ((pl, .cells (lgA p (nxt (nw (fd (ks.map Bk.b))).t (nw (fd (ks.map Bk.b))).c (nw (fd (ks.map Bk.b))) r).t c' v') lgT (0, 0)) :: (X' ++ (K' ++ (X ++ K))))) := by
        refine hat.on (hat.st.perm ?_)
        have e9 : ∀ (P : Nat × Obj) (X' K' X L K : List (Nat × Obj)), (P :: (X' ++ (K' ++ (X ++ (L ++ K))))).Perm (L ++ (P :: (X' ++ (K' ++ (X ++ K))))) := by
          intro P X' K' X L K
          have e1 : P :: (X' ++ (K' ++ (X ++ (L ++ K)))) = (P :: (X' ++ (K' ++ X))) ++ (L ++ K) := by simp
          have e2 : L ++ (P :: (X' ++ (K' ++ (X ++ K)))) = L ++ ((P :: (X' ++ (K' ++ X))) ++ K) := by simp
          rw [e1, e2]; exact perm_front _ _ _
        exact e9 _ _ _ _ _ _
      rcases syn_fail h3 hB hB0 hal rfl rfl heo (by rw [List.length_map]) (fun b hb2 => (h1.rows b hb2).1) a3 with q | q
      · left; exact ⟨hc, ks', _, hrest, hlen, syn_more q (by omega)⟩
      · right; exact ⟨hc, ks', _, hrest, hlen, q⟩
end
end Go.Proofs.YtbmpjlgfbiakoaaDoor
