/-
  Settings as text: a tenant that lies at a place, its lists in blocks of their own; one field turned, one element more.
-/
import Derived.Test.YtneciccdiledfaaGreatDoorM40
namespace Go.Proofs.YtneciccdiledfaaGreatDoor
open Go.RowKit
open La
set_option linter.unusedVariables false
set_option linter.unusedSimpArgs false
set_option maxRecDepth 20000

/-- A tenant at a place in block g; L: its block, and its lists'. -/
def TAt (g : Nat) (pre post : List Value) (T : TypeId) (t : Ten) (L : List (Nat × Obj)) : Prop := TLen t ∧ ∃ p s q B1 B2 B3, OwB 23 1 p t.pool.length (ux t.pool).flatten B1 ∧ OwB 96 2 s t.stat.length (px t.stat).flatten B2 ∧ OwB 96 2 q t.twi.length (px t.twi).flatten B3 ∧
  L = (g, .cells (pre ++ (tc t p s q ++ post)).toArray T (0, 0)) :: (B1 ++ (B2 ++ B3))
theorem tat_set {g : Nat} {pre post : List Value} {T : TypeId} {t t' : Ten} {L : List (Nat × Obj)} (h : TAt g pre post T t L) (o : Nat) (ho : o < 33) (v : Value) (hset : ∀ p s q, (tc t p s q).set o v = tc t' p s q) (hl : TLen t') (h1 : t'.pool = t.pool) (h2 : t'.stat = t.stat) (h3 : t'.twi = t.twi) :
    ∃ A R, L = (g, .cells A T (0, 0)) :: R ∧ pre.length + o < A.size ∧ TAt g pre post T t' ((g, .cells (A.setIfInBounds (pre.length + o) v) T (0, 0)) :: R) := by
  obtain ⟨hlen, p, s, q, B1, B2, B3, k1, k2, k3, rfl⟩ := h
  refine ⟨_, _, rfl, ?_, hl, p, s, q, B1, B2, B3, by rw [h1]; exact k1, by rw [h2]; exact k2, by rw [h3]; exact k3, ?_⟩
  · rw [List.size_toArray, List.length_append, List.length_append, tc_len hlen]; omega
  · rw [set_mid _ _ _ o _ (by rw [tc_len hlen]; exact ho), hset]
theorem tat_put {g : Nat} {pre post : List Value} {T : TypeId} {t t' : Ten} {L : List (Nat × Obj)} (h : TAt g pre post T t L) (o : Nat) (ho : o < 33) (v : Value) (e : ∀ p s q n vn a b c d f g x y vt a1 b1 c1 d1 f1 g1 a2 b2 c2 d2 f2 g2 po lo hi fi st tw se qu ra bu,
    t = ⟨n, vn, [a, b, c, d, f, g, x, y], vt, [a1, b1, c1, d1, f1, g1], [a2, b2, c2, d2, f2, g2], po, lo, hi, fi, st, tw, se, qu, ra, bu⟩ → (tc t p s q).set o v = tc t' p s q) (hk : t'.key = t.key) (hv : t'.vmac = t.vmac) (hh : t'.host = t.host) (h1 : t'.pool = t.pool) (h2 : t'.stat = t.stat) (h3 : t'.twi = t.twi) :
    ∃ A R, L = (g, .cells A T (0, 0)) :: R ∧ pre.length + o < A.size ∧ TAt g pre post T t' ((g, .cells (A.setIfInBounds (pre.length + o) v) T (0, 0)) :: R) :=
  tat_set h o ho v (fun p s q => tset h.1 (e p s q)) ⟨by rw [hk]; exact h.1.key, by rw [hv]; exact h.1.vmac, by rw [hh]; exact h.1.host⟩ h1 h2 h3
section
variable {g : Nat} {pre post : List Value} {T : TypeId} {t : Ten} {L : List (Nat × Obj)}
theorem tat_lo (h : TAt g pre post T t L) (x : Int) : ∃ A R, L = (g, .cells A T (0, 0)) :: R ∧ pre.length + 24 < A.size ∧ TAt g pre post T { t with lo := x } ((g, .cells (A.setIfInBounds (pre.length + 24) (.int .u16 x)) T (0, 0)) :: R) :=
  tat_put h 24 (by omega) _ (by rintro p s q n vn a b c d f g x y vt a1 b1 c1 d1 f1 g1 a2 b2 c2 d2 f2 g2 po lo hi fi st tw se qu ra bu rfl; rfl) rfl rfl rfl rfl rfl rfl
theorem tat_hi (h : TAt g pre post T t L) (x : Int) : ∃ A R, L = (g, .cells A T (0, 0)) :: R ∧ pre.length + 25 < A.size ∧ TAt g pre post T { t with hi := x } ((g, .cells (A.setIfInBounds (pre.length + 25) (.int .u16 x)) T (0, 0)) :: R) :=
  tat_put h 25 (by omega) _ (by rintro p s q n vn a b c d f g x y vt a1 b1 c1 d1 f1 g1 a2 b2 c2 d2 f2 g2 po lo hi fi st tw se qu ra bu rfl; rfl) rfl rfl rfl rfl rfl rfl
theorem tat_filter (h : TAt g pre post T t L) (x : Int) : ∃ A R, L = (g, .cells A T (0, 0)) :: R ∧ pre.length + 26 < A.size ∧ TAt g pre post T { t with filter := x } ((g, .cells (A.setIfInBounds (pre.length + 26) (.int .i64 x)) T (0, 0)) :: R) :=
  tat_put h 26 (by omega) _ (by rintro p s q n vn a b c d f g x y vt a1 b1 c1 d1 f1 g1 a2 b2 c2 d2 f2 g2 po lo hi fi st tw se qu ra bu rfl; rfl) rfl rfl rfl rfl rfl rfl
theorem tat_sess (h : TAt g pre post T t L) (x : Int) : ∃ A R, L = (g, .cells A T (0, 0)) :: R ∧ pre.length + 29 < A.size ∧ TAt g pre post T { t with sess := x } ((g, .cells (A.setIfInBounds (pre.length + 29) (.int .i64 x)) T (0, 0)) :: R) :=
  tat_put h 29 (by omega) _ (by rintro p s q n vn a b c d f g x y vt a1 b1 c1 d1 f1 g1 a2 b2 c2 d2 f2 g2 po lo hi fi st tw se qu ra bu rfl; rfl) rfl rfl rfl rfl rfl rfl
theorem tat_queue (h : TAt g pre post T t L) (x : Int) : ∃ A R, L = (g, .cells A T (0, 0)) :: R ∧ pre.length + 30 < A.size ∧ TAt g pre post T { t with queue := x } ((g, .cells (A.setIfInBounds (pre.length + 30) (.int .i64 x)) T (0, 0)) :: R) :=
  tat_put h 30 (by omega) _ (by rintro p s q n vn a b c d f g x y vt a1 b1 c1 d1 f1 g1 a2 b2 c2 d2 f2 g2 po lo hi fi st tw se qu ra bu rfl; rfl) rfl rfl rfl rfl rfl rfl
theorem tat_rate (h : TAt g pre post T t L) (x : Int) : ∃ A R, L = (g, .cells A T (0, 0)) :: R ∧ pre.length + 31 < A.size ∧ TAt g pre post T { t with rate := x } ((g, .cells (A.setIfInBounds (pre.length + 31) (.int .u32 x)) T (0, 0)) :: R) :=
  tat_put h 31 (by omega) _ (by rintro p s q n vn a b c d f g x y vt a1 b1 c1 d1 f1 g1 a2 b2 c2 d2 f2 g2 po lo hi fi st tw se qu ra bu rfl; rfl) rfl rfl rfl rfl rfl rfl
theorem tat_burst (h : TAt g pre post T t L) (x : Int) : ∃ A R, L = (g, .cells A T (0, 0)) :: R ∧ pre.length + 32 < A.size ∧ TAt g pre post T { t with burst := x } ((g, .cells (A.setIfInBounds (pre.length + 32) (.int .u32 x)) T (0, 0)) :: R) :=
  tat_put h 32 (by omega) _ (by rintro p s q n vn a b c d f g x y vt a1 b1 c1 d1 f1 g1 a2 b2 c2 d2 f2 g2 po lo hi fi st tw se qu ra bu rfl; rfl) rfl rfl rfl rfl rfl rfl
end
/-- A list of the call's own beside whatever else: one element more. -/
theorem mem_append {w V : World} {B K : List (Nat × Obj)} {t e ty : TypeId} {sz bytes n : Nat} {z v : Value} {xs : List Value} (ht : Tryz.prog.underlying t = some (.slice e)) (hi : (Tryz.prog.info? e).map (fun i => (i.zero, i.size, i.bytes)) = some (some z, sz, bytes)) (hzs : z.cells.size = sz) (hsz : 0 < sz)
    (h : Mem w V (B ++ K)) (hB : OwB e sz v n xs B) (ad : Addr) (news : List Value) (hl : news.length = sz) (hnews : ∀ j u, news[j]? = some u → V.cell? (ad.add j) = some u) (h1 : ∀ u ∈ news, u.oneCell' = true) (h63 : n + 1 ≤ 1000000) (hb : (n + 1) * bytes ≤ 140737488355328) :
    ∃ v' V' B', (Builtin.append_ #[t, t] ty #[v, .slice (some ad) 1 1]).run Tryz.prog V = .ok v' V' ∧ Mem w V' (B' ++ K) ∧ OwB e sz v' (n + 1) (xs ++ news) B' := by
  obtain ⟨v', V', hr, hO⟩ := ow_append (ty := ty) ht hi hzs hsz (hB.ow h) ad 1 1 news (by omega) hnews h1 (by unfold maxLen; omega) hb
  obtain ⟨B', hB', hM'⟩ := hO.owb
  exact ⟨v', V', B', hr, hM', hB'⟩
/-- The lists' own: an element more of a list of the tenant's, in another block or the same. -/
theorem tat_list {g : Nat} {pre post : List Value} {T : TypeId} {t : Ten} {L : List (Nat × Obj)} (h : TAt g pre post T t L) (w : World) (Q : List (Nat × Obj)) :
    (∃ A p B R, L.Perm (B ++ ((g, .cells A T (0, 0)) :: R)) ∧ A[pre.length + 23]? = some p ∧ OwB 23 1 p t.pool.length (ux t.pool).flatten B ∧ pre.length + 23 < A.size ∧
      ∀ (x : Int) (a : Option Addr) (n c : Nat) (B' : List (Nat × Obj)), OwB 23 1 (.slice a n c) (t.pool.length + 1) ((ux t.pool).flatten ++ [.int .u32 x]) B' → TAt g pre post T { t with pool := t.pool ++ [x] } ((g, .cells (A.setIfInBounds (pre.length + 23) (.slice a n c)) T (0, 0)) :: (B' ++ R))) ∧
    (∃ A p B R, L.Perm (B ++ ((g, .cells A T (0, 0)) :: R)) ∧ A[pre.length + 27]? = some p ∧ OwB 96 2 p t.stat.length (px t.stat).flatten B ∧ pre.length + 27 < A.size ∧
      ∀ (x y : Int) (a : Option Addr) (n c : Nat) (B' : List (Nat × Obj)), OwB 96 2 (.slice a n c) (t.stat.length + 1) ((px t.stat).flatten ++ [.int .u32 x, .int .u32 y]) B' → ∃ L', L'.Perm (B' ++ ((g, .cells (A.setIfInBounds (pre.length + 27) (.slice a n c)) T (0, 0)) :: R)) ∧ TAt g pre post T { t with stat := t.stat ++ [(x, y)] } L') ∧
    (∃ A p B R, L.Perm (B ++ ((g, .cells A T (0, 0)) :: R)) ∧ A[pre.length + 28]? = some p ∧ OwB 96 2 p t.twi.length (px t.twi).flatten B ∧ pre.length + 28 < A.size ∧
      ∀ (x y : Int) (a : Option Addr) (n c : Nat) (B' : List (Nat × Obj)), OwB 96 2 (.slice a n c) (t.twi.length + 1) ((px t.twi).flatten ++ [.int .u32 x, .int .u32 y]) B' → ∃ L', L'.Perm (B' ++ ((g, .cells (A.setIfInBounds (pre.length + 28) (.slice a n c)) T (0, 0)) :: R)) ∧ TAt g pre post T { t with twi := t.twi ++ [(x, y)] } L') := by
  obtain ⟨hlen, p, s, q, B1, B2, B3, k1, k2, k3, rfl⟩ := h
  have hsz : ∀ o, o < 33 → pre.length + o < (pre ++ (tc t p s q ++ post)).toArray.size := by
    intro o ho
    rw [List.size_toArray, List.length_append, List.length_append, tc_len hlen]; omega
  have pc : ∀ (B R S : List (Nat × Obj)) (o : Nat × Obj), (o :: (S ++ (B ++ R))).Perm (B ++ (o :: (S ++ R))) := by
    intro B R S o
    classical
    rw [List.perm_iff_count]
    intro z
    simp only [List.count_append, List.count_cons]
    omega
  refine ⟨⟨_, p, B1, B2 ++ B3, pc B1 (B2 ++ B3) [] _, get_mid _ _ _ 23 _ (tget hlen (by rintro n vn a b c d f g x y vt a1 b1 c1 d1 f1 g1 a2 b2 c2 d2 f2 g2 po lo hi fi st tw se qu ra bu rfl; rfl)), k1, hsz 23 (by omega), fun x a n c B' hB => ⟨⟨hlen.key, hlen.vmac, hlen.host⟩, .slice a n c, s, q, B', B2, B3, ?_, k2, k3, ?_⟩⟩,
    ⟨_, s, B2, B1 ++ B3, pc B2 B3 B1 _, get_mid _ _ _ 27 _ (tget hlen (by rintro n vn a b c d f g x y vt a1 b1 c1 d1 f1 g1 a2 b2 c2 d2 f2 g2 po lo hi fi st tw se qu ra bu rfl; rfl)), k2, hsz 27 (by omega), fun x y a n c B' hB => ⟨_, ?_, ⟨hlen.key, hlen.vmac, hlen.host⟩, p, .slice a n c, q, B1, B', B3, k1, ?_, k3, rfl⟩⟩,
    ⟨_, q, B3, B1 ++ B2, ?_, get_mid _ _ _ 28 _ (tget hlen (by rintro n vn a b c d f g x y vt a1 b1 c1 d1 f1 g1 a2 b2 c2 d2 f2 g2 po lo hi fi st tw se qu ra bu rfl; rfl)), k3, hsz 28 (by omega), fun x y a n c B' hB => ⟨_, ?_, ⟨hlen.key, hlen.vmac, hlen.host⟩, p, s, .slice a n c, B1, B2, B', k1, k2, ?_, rfl⟩⟩⟩
  · rw [ux_snoc, List.length_append]; exact hB
  · rw [set_mid _ _ _ 23 _ (by rw [tc_len hlen]; omega)]
    rw [tset (t' := { t with pool := t.pool ++ [x] }) (p' := .slice a n c) (s' := s) (q' := q) hlen (by rintro n vn a b c d f g x y vt a1 b1 c1 d1 f1 g1 a2 b2 c2 d2 f2 g2 po lo hi fi st tw se qu ra bu rfl; rfl)]
  · rw [set_mid _ _ _ 27 _ (by rw [tc_len hlen]; omega)]
    rw [tset (t' := { t with stat := t.stat ++ [(x, y)] }) (p' := p) (s' := .slice a n c) (q' := q) hlen (by rintro n vn a b c d f g x y vt a1 b1 c1 d1 f1 g1 a2 b2 c2 d2 f2 g2 po lo hi fi st tw se qu ra bu rfl; rfl)]
    exact pc B' B3 B1 _
  · rw [px_snoc, List.length_append]; exact hB
  · classical
    rw [List.perm_iff_count]
    intro z
    simp only [List.count_append, List.count_cons]
    omega
  · rw [set_mid _ _ _ 28 _ (by rw [tc_len hlen]; omega)]
    rw [tset (t' := { t with twi := t.twi ++ [(x, y)] }) (p' := p) (s' := s) (q' := .slice a n c) hlen (by rintro n vn a b c d f g x y vt a1 b1 c1 d1 f1 g1 a2 b2 c2 d2 f2 g2 po lo hi fi st tw se qu ra bu rfl; rfl)]
    classical
    rw [List.perm_iff_count]
    intro z
    simp only [List.count_append, List.count_cons]
    omega
  · rw [px_snoc, List.length_append]; exact hB
end Go.Proofs.YtneciccdiledfaaGreatDoor

