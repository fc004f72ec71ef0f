/-
  Settings as text: a tenant that lies at a place, its lists in blocks of their own; one field turned, one element more.
  Which settings may be: the rules of a tenant where it stands.
-/
import Derived.Test.YtnddbklbgddblaaDoorPf39
import Derived.Test.YtnddbklbgddblaaDoorPf25
import Derived.Deep.DeepCutAuto
namespace Go.Proofs.YtnddbklbgddblaaDoor
open Go.RowKit
open La
set_option linter.unusedVariables false
set_option linter.unusedSimpArgs false
set_option maxRecDepth 20000

/-- A tenant at a place in block g; L: its block, and its lists'. -/
def TAt (g : Nat) (pre post : List Value) (T : TypeId) (t : Ten) (L : List (Nat × Obj)) : Prop := TLen t ∧ ∃ p s q B1 B2 B3, OwB 22 1 p t.pool.length (ux t.pool).flatten B1 ∧ OwB 52 2 s t.stat.length (px t.stat).flatten B2 ∧ OwB 52 2 q t.twi.length (px t.twi).flatten B3 ∧
  L = (g, .cells (pre ++ (tc t p s q ++ post)).toArray T (0, 0)) :: (B1 ++ (B2 ++ B3))
theorem tat_set {g : Nat} {pre post : List Value} {T : TypeId} {t t' : Ten} {L : List (Nat × Obj)} (h : TAt g pre post T t L) (o : Nat) (ho : o < 33) (v : Value) (hset : ∀ p s q, (tc t p s q).set o v = tc t' p s q) (hl : TLen t') (h1 : t'.pool = t.pool) (h2 : t'.stat = t.stat) (h3 : t'.twi = t.twi) :
    ∃ A R, L = (g, .cells A T (0, 0)) :: R ∧ pre.length + o < A.size ∧ TAt g pre post T t' ((g, .cells (A.setIfInBounds (pre.length + o) v) T (0, 0)) :: R) := by
  obtain ⟨hlen, p, s, q, B1, B2, B3, k1, k2, k3, rfl⟩ := h
  refine ⟨_, _, rfl, ?_, hl, p, s, q, B1, B2, B3, by rw [h1]; exact k1, by rw [h2]; exact k2, by rw [h3]; exact k3, ?_⟩
  · rw [List.size_toArray, List.length_append, List.length_append, tc_len hlen]; omega
  · rw [set_mid _ _ _ o _ (by rw [tc_len hlen]; exact ho), hset]
theorem tat_put {g : Nat} {pre post : List Value} {T : TypeId} {t t' : Ten} {L : List (Nat × Obj)} (h : TAt g pre post T t L) (o : Nat) (ho : o < 33) (v : Value) (e : ∀ p s q n vn a b c d f g x y vt a1 b1 c1 d1 f1 g1 a2 b2 c2 d2 f2 g2 po lo hi fi st tw se qu ra bu,
    t = ⟨n, vn, [a, b, c, d, f, g, x, y], vt, [a1, b1, c1, d1, f1, g1], [a2, b2, c2, d2, f2, g2], po, lo, hi, fi, st, tw, se, qu, ra, bu⟩ → (tc t p s q).set o v = tc t' p s q) (hk : t'.key = t.key) (hv : t'.vmac = t.vmac) (hh : t'.host = t.host) (h1 : t'.pool = t.pool) (h2 : t'.stat = t.stat) (h3 : t'.twi = t.twi) :
    ∃ A R, L = (g, .cells A T (0, 0)) :: R ∧ pre.length + o < A.size ∧ TAt g pre post T t' ((g, .cells (A.setIfInBounds (pre.length + o) v) T (0, 0)) :: R) :=
  tat_set h o ho v (fun p s q => tset h.1 (e p s q)) ⟨by rw [hk]; exact h.1.key, by rw [hv]; exact h.1.vmac, by rw [hh]; exact h.1.host⟩ h1 h2 h3
section
variable {g : Nat} {pre post : List Value} {T : TypeId} {t : Ten} {L : List (Nat × Obj)}
theorem tat_lo (h : TAt g pre post T t L) (x : Int) : ∃ A R, L = (g, .cells A T (0, 0)) :: R ∧ pre.length + 24 < A.size ∧ TAt g pre post T { t with lo := x } ((g, .cells (A.setIfInBounds (pre.length + 24) (.int .u16 x)) T (0, 0)) :: R) :=
  tat_put h 24 (by omega) _ (by rintro p s q n vn a b c d f g x y vt a1 b1 c1 d1 f1 g1 a2 b2 c2 d2 f2 g2 po lo hi fi st tw se qu ra bu rfl; rfl) rfl rfl rfl rfl rfl rfl
theorem tat_hi (h : TAt g pre post T t L) (x : Int) : ∃ A R, L = (g, .cells A T (0, 0)) :: R ∧ pre.length + 25 < A.size ∧ TAt g pre post T { t with hi := x } ((g, .cells (A.setIfInBounds (pre.length + 25) (.int .u16 x)) T (0, 0)) :: R) :=
  tat_put h 25 (by omega) _ (by rintro p s q n vn a b c d f g x y vt a1 b1 c1 d1 f1 g1 a2 b2 c2 d2 f2 g2 po lo hi fi st tw se qu ra bu rfl; rfl) rfl rfl rfl rfl rfl rfl
theorem tat_sess (h : TAt g pre post T t L) (x : Int) : ∃ A R, L = (g, .cells A T (0, 0)) :: R ∧ pre.length + 29 < A.size ∧ TAt g pre post T { t with sess := x } ((g, .cells (A.setIfInBounds (pre.length + 29) (.int .i64 x)) T (0, 0)) :: R) :=
  tat_put h 29 (by omega) _ (by rintro p s q n vn a b c d f g x y vt a1 b1 c1 d1 f1 g1 a2 b2 c2 d2 f2 g2 po lo hi fi st tw se qu ra bu rfl; rfl) rfl rfl rfl rfl rfl rfl
theorem tat_queue (h : TAt g pre post T t L) (x : Int) : ∃ A R, L = (g, .cells A T (0, 0)) :: R ∧ pre.length + 30 < A.size ∧ TAt g pre post T { t with queue := x } ((g, .cells (A.setIfInBounds (pre.length + 30) (.int .i64 x)) T (0, 0)) :: R) :=
  tat_put h 30 (by omega) _ (by rintro p s q n vn a b c d f g x y vt a1 b1 c1 d1 f1 g1 a2 b2 c2 d2 f2 g2 po lo hi fi st tw se qu ra bu rfl; rfl) rfl rfl rfl rfl rfl rfl
theorem tat_rate (h : TAt g pre post T t L) (x : Int) : ∃ A R, L = (g, .cells A T (0, 0)) :: R ∧ pre.length + 31 < A.size ∧ TAt g pre post T { t with rate := x } ((g, .cells (A.setIfInBounds (pre.length + 31) (.int .u32 x)) T (0, 0)) :: R) :=
  tat_put h 31 (by omega) _ (by rintro p s q n vn a b c d f g x y vt a1 b1 c1 d1 f1 g1 a2 b2 c2 d2 f2 g2 po lo hi fi st tw se qu ra bu rfl; rfl) rfl rfl rfl rfl rfl rfl
theorem tat_burst (h : TAt g pre post T t L) (x : Int) : ∃ A R, L = (g, .cells A T (0, 0)) :: R ∧ pre.length + 32 < A.size ∧ TAt g pre post T { t with burst := x } ((g, .cells (A.setIfInBounds (pre.length + 32) (.int .u32 x)) T (0, 0)) :: R) :=
  tat_put h 32 (by omega) _ (by rintro p s q n vn a b c d f g x y vt a1 b1 c1 d1 f1 g1 a2 b2 c2 d2 f2 g2 po lo hi fi st tw se qu ra bu rfl; rfl) rfl rfl rfl rfl rfl rfl
end
theorem mem_append {w V : World} {B K : List (Nat × Obj)} {t e ty : TypeId} {sz bytes n : Nat} {z v : Value} {xs : List Value} (ht : Tryd.prog.underlying t = some (.slice e)) (hi : (Tryd.prog.info? e).map (fun i => (i.zero, i.size, i.bytes)) = some (some z, sz, bytes)) (hzs : z.cells.size = sz) (hsz : 0 < sz)
    (h : Mem w V (B ++ K)) (hB : OwB e sz v n xs B) (ad : Addr) (news : List Value) (hl : news.length = sz) (hnews : ∀ j u, news[j]? = some u → V.cell? (ad.add j) = some u) (h1 : ∀ u ∈ news, u.oneCell' = true) (h63 : n + 1 ≤ 1000000) (hb : (n + 1) * bytes ≤ 140737488355328) :
    ∃ v' V' B', (Builtin.append_ #[t, t] ty #[v, .slice (some ad) 1 1]).run Tryd.prog V = .ok v' V' ∧ Mem w V' (B' ++ K) ∧ OwB e sz v' (n + 1) (xs ++ news) B' := by
  obtain ⟨v', V', hr, hO⟩ := ow_append (ty := ty) ht hi hzs hsz (hB.ow h) ad 1 1 news (by omega) hnews h1 (by unfold maxLen; omega) hb
  obtain ⟨B', hB', hM'⟩ := hO.owb
  exact ⟨v', V', B', hr, hM', hB'⟩
theorem tat_list {g : Nat} {pre post : List Value} {T : TypeId} {t : Ten} {L : List (Nat × Obj)} (h : TAt g pre post T t L) (w : World) (Q : List (Nat × Obj)) :
    (∃ A p B R, L.Perm (B ++ ((g, .cells A T (0, 0)) :: R)) ∧ A[pre.length + 23]? = some p ∧ OwB 22 1 p t.pool.length (ux t.pool).flatten B ∧ pre.length + 23 < A.size ∧
      ∀ (x : Int) (a : Option Addr) (n c : Nat) (B' : List (Nat × Obj)), OwB 22 1 (.slice a n c) (t.pool.length + 1) ((ux t.pool).flatten ++ [.int .u32 x]) B' → TAt g pre post T { t with pool := t.pool ++ [x] } ((g, .cells (A.setIfInBounds (pre.length + 23) (.slice a n c)) T (0, 0)) :: (B' ++ R))) ∧
    (∃ A p B R, L.Perm (B ++ ((g, .cells A T (0, 0)) :: R)) ∧ A[pre.length + 27]? = some p ∧ OwB 52 2 p t.stat.length (px t.stat).flatten B ∧ pre.length + 27 < A.size ∧
      ∀ (x y : Int) (a : Option Addr) (n c : Nat) (B' : List (Nat × Obj)), OwB 52 2 (.slice a n c) (t.stat.length + 1) ((px t.stat).flatten ++ [.int .u32 x, .int .u32 y]) B' → ∃ L', L'.Perm (B' ++ ((g, .cells (A.setIfInBounds (pre.length + 27) (.slice a n c)) T (0, 0)) :: R)) ∧ TAt g pre post T { t with stat := t.stat ++ [(x, y)] } L') ∧
    (∃ A p B R, L.Perm (B ++ ((g, .cells A T (0, 0)) :: R)) ∧ A[pre.length + 28]? = some p ∧ OwB 52 2 p t.twi.length (px t.twi).flatten B ∧ pre.length + 28 < A.size ∧
      ∀ (x y : Int) (a : Option Addr) (n c : Nat) (B' : List (Nat × Obj)), OwB 52 2 (.slice a n c) (t.twi.length + 1) ((px t.twi).flatten ++ [.int .u32 x, .int .u32 y]) B' → ∃ L', L'.Perm (B' ++ ((g, .cells (A.setIfInBounds (pre.length + 28) (.slice a n c)) T (0, 0)) :: R)) ∧ TAt g pre post T { t with twi := t.twi ++ [(x, y)] } L') := by
  obtain ⟨hlen, p, s, q, B1, B2, B3, k1, k2, k3, rfl⟩ := h
  have hsz : ∀ o, o < 33 → pre.length + o < (pre ++ (tc t p s q ++ post)).toArray.size := by
    intro o ho
    rw [List.size_toArray, List.length_append, List.length_append, tc_len hlen]; omega
  have pc : ∀ (B R S : List (Nat × Obj)) (o : Nat × Obj), (o :: (S ++ (B ++ R))).Perm (B ++ (o :: (S ++ R))) := by
    intro B R S o
    classical
    rw [List.perm_iff_count]
    intro z
    simp only [List.count_append, List.count_cons]
    omega
  refine ⟨⟨_, p, B1, B2 ++ B3, pc B1 (B2 ++ B3) [] _, get_mid _ _ _ 23 _ (tget hlen (by rintro n vn a b c d f g x y vt a1 b1 c1 d1 f1 g1 a2 b2 c2 d2 f2 g2 po lo hi fi st tw se qu ra bu rfl; rfl)), k1, hsz 23 (by omega), fun x a n c B' hB => ⟨⟨hlen.key, hlen.vmac, hlen.host⟩, .slice a n c, s, q, B', B2, B3, ?_, k2, k3, ?_⟩⟩,
    ⟨_, s, B2, B1 ++ B3, pc B2 B3 B1 _, get_mid _ _ _ 27 _ (tget hlen (by rintro n vn a b c d f g x y vt a1 b1 c1 d1 f1 g1 a2 b2 c2 d2 f2 g2 po lo hi fi st tw se qu ra bu rfl; rfl)), k2, hsz 27 (by omega), fun x y a n c B' hB => ⟨_, ?_, ⟨hlen.key, hlen.vmac, hlen.host⟩, p, .slice a n c, q, B1, B', B3, k1, ?_, k3, rfl⟩⟩,
    ⟨_, q, B3, B1 ++ B2, ?_, get_mid _ _ _ 28 _ (tget hlen (by rintro n vn a b c d f g x y vt a1 b1 c1 d1 f1 g1 a2 b2 c2 d2 f2 g2 po lo hi fi st tw se qu ra bu rfl; rfl)), k3, hsz 28 (by omega), fun x y a n c B' hB => ⟨_, ?_, ⟨hlen.key, hlen.vmac, hlen.host⟩, p, s, .slice a n c, B1, B2, B', k1, k2, ?_, rfl⟩⟩⟩
  · rw [ux_snoc, List.length_append]; exact hB
  · rw [set_mid _ _ _ 23 _ (by rw [tc_len hlen]; omega)]
    rw [tset (t' := { t with pool := t.pool ++ [x] }) (p' := .slice a n c) (s' := s) (q' := q) hlen (by rintro n vn a b c d f g x y vt a1 b1 c1 d1 f1 g1 a2 b2 c2 d2 f2 g2 po lo hi fi st tw se qu ra bu rfl; rfl)]
  · rw [set_mid _ _ _ 27 _ (by rw [tc_len hlen]; omega)]
    rw [tset (t' := { t with stat := t.stat ++ [(x, y)] }) (p' := p) (s' := .slice a n c) (q' := q) hlen (by rintro n vn a b c d f g x y vt a1 b1 c1 d1 f1 g1 a2 b2 c2 d2 f2 g2 po lo hi fi st tw se qu ra bu rfl; rfl)]
    exact pc B' B3 B1 _
  · rw [px_snoc, List.length_append]; exact hB
  · classical
    rw [List.perm_iff_count]
    intro z
    simp only [List.count_append, List.count_cons]
    omega
  · rw [set_mid _ _ _ 28 _ (by rw [tc_len hlen]; omega)]
    rw [tset (t' := { t with twi := t.twi ++ [(x, y)] }) (p' := p) (s' := s) (q' := .slice a n c) hlen (by rintro n vn a b c d f g x y vt a1 b1 c1 d1 f1 g1 a2 b2 c2 d2 f2 g2 po lo hi fi st tw se qu ra bu rfl; rfl)]
    classical
    rw [List.perm_iff_count]
    intro z
    simp only [List.count_append, List.count_cons]
    omega
  · rw [px_snoc, List.length_append]; exact hB
end Go.Proofs.YtnddbklbgddblaaDoor

namespace Go.Proofs.YtnddbklbgddblaaDoor
open Go.RowKit
open Va
set_option linter.unusedVariables false
set_option linter.unusedSimpArgs false
set_option maxRecDepth 20000

theorem anyH_letter {P : Program} {md : Region.Mode} {ops : Array Oper} {Q : Exit → Act → World → Prop} {S : World → Prop} {fuel : Nat} {listed : Array Bool} {a : Act} {W : World} (R : World → Prop) (h : R W) (k : ∀ W', R W' → wpAnyH P md ops Q S fuel listed a W') : wpAnyH P md ops Q S fuel listed a W := k W h
abbrev tz14 : Array Value := (tc ten0 nilV nilV nilV).toArray
/-- Where the making of these rules stands. -/
structure PR (W X : World) (gc gi gt ga i : Nat) (c : Cgf) (t : Ten) (ta : Option Addr) (tp : Nat) : Prop where
  vs : Vs X
  cb : CBo X gc c
  ci : X.cell? ⟨gi, 0, none⟩ = some (.int .i64 (i : Int))
  tb : TBo X gt t
  ca : X.cell? ⟨ga, 0, none⟩ = some (.slice ta i tp)
  ts : TSV X (.slice ta i tp) (c.ten.take i)
  below : Below W.heap.size W X
theorem PR.later {W X Y : World} {gc gi gt ga i : Nat} {c : Cgf} {t : Ten} {ta : Option Addr} {tp : Nat} (h : PR W X gc gi gt ga i c t ta tp) (hb : Below X.heap.size X Y) : PR W Y gc gi gt ga i c t ta tp :=
  ⟨h.vs.below hb, h.cb.later hb, cell_later hb h.ci, h.tb.later hb, cell_later hb h.ca, h.ts.at_ hb (Nat.le_refl _), h.below.trans (hb.mono h.below.size)⟩
theorem tbo_of {X : World} {g : Nat} {x : List Value} {t : Ten} (h : X.heap[g]? = some (.cells x.toArray 39 (0, 0))) (hv : TV X (.agg x.toArray) t) : TBo X g t := by
  obtain ⟨tl, pa, sa, qa, pc, sc, qc, e, hx⟩ := hv.tb
  obtain rfl : x = tl := by simpa using e
  exact ⟨x, pa, sa, qa, pc, sc, qc, h, hx⟩
set_option maxHeartbeats 16000000 in
theorem prules_any {W : World} {v : Value} {c : Cgf} (hv : Vs W) (h : CV W v c) (hl : c.ten.length ≤ 1000000) (hm : ∀ t ∈ c.ten, TSm t) {i : Nat} (hi : i < c.ten.length) :
    Calls Tryd.prog 26 #[v, .int .i64 (i : Int)] W (Rls W (Va.prs c.ip (c.ten.take i) (c.ten.getD i ten0))) := by
  obtain ⟨cl, ta, tp, rfl, hx⟩ := h.tb
  have hmf := mkf
  obtain ⟨a', c', e, hle, hcb, hp⟩ := hx.ts.parts
  simp only [Value.slice.injEq] at e
  obtain ⟨rfl, -, rfl⟩ := e
  obtain ⟨b, off, x, rfl, hsz, hone, hVV⟩ := hp i hi
  have hi33 : (Tryd.prog.info? 39).map (·.size) = some x.length := by rw [hsz]; kernel_rfl
  obtain ⟨gc, hgc⟩ : ∃ g, W.heap.size = g := ⟨_, rfl⟩
  obtain ⟨gi, hgi⟩ : ∃ g, gc + 1 = g := ⟨_, rfl⟩
  have HM0 : Hid (Mem W ((W.alloc (.cells cl.toArray 28)).alloc (.cells #[.int .i64 (i : Int)] 3)) [(gi, .cells #[.int .i64 (i : Int)] 3 (0, 0)), (gc, .cells cl.toArray 28 (0, 0))]) := by
    rw [← hgi, ← hgc]; exact two_blocks' W _ _
  have HX : Hid (∀ V, Mem W V [(gi, .cells #[.int .i64 (i : Int)] 3 (0, 0)), (gc, .cells cl.toArray 28 (0, 0))] → ∀ X, Below V.heap.size V X → X.cell? ⟨gc, 28, none⟩ = some (.slice (some ⟨b, off, none⟩) c.ten.length tp) ∧ X.cell? ⟨gi, 0, none⟩ = some (.int .i64 (i : Int)) ∧ X.rangeAt b (off + i * 33) x) := by
    intro V hV X hX
    have hM := hV.after hX
    exact ⟨cell_tl (hM.get 1 rfl) hx.ten, hM.cell 0 rfl 0, (hVV X hM.below).1⟩
  have HP : Hid (∀ V, Mem W V [(gi, .cells #[.int .i64 (i : Int)] 3 (0, 0)), (gc, .cells cl.toArray 28 (0, 0))] → ∀ X gt ga, Mem V X [(ga, .cells #[.slice (some ⟨b, off, none⟩) i tp] 26 (0, 0)), (gt, .cells x.toArray 39 (0, 0))] → PR W X gc gi gt ga i c (c.ten.getD i ten0) (some ⟨b, off, none⟩) tp) := by
    intro V hV X gt ga hX
    have hM := hV.after hX.below
    exact ⟨hv.below hM.below, ⟨cl, _, tp, hM.get 1 rfl, hx.later hM.below⟩, hM.cell 0 rfl 0, tbo_of (hX.get 1 rfl) (hVV X hM.below).2, hX.cell 0 rfl 0, (hx.ts.head i (by omega)).at_ hM.below (Nat.le_refl _), hM.below⟩
  have HT : Hid ((c.ten.take i).length = i ∧ i ≤ 1000000 ∧ (∀ t ∈ c.ten.take i, TSm t) ∧ TSm (c.ten.getD i ten0)) := ⟨by simp; omega, by omega, fun t ht => hm t (List.mem_of_mem_take ht), hm _ (by simp [List.getD, List.getElem?_eq_getElem hi])⟩
  have HE : Hid (Va.prs c.ip (c.ten.take i) (c.ten.getD i ten0) = [tchk (c.ten.getD i ten0), ul 90 ((c.ten.take i).length == 0 || lss ((c.ten.take i).getD ((c.ten.take i).length - 1) ten0).name (c.ten.getD i ten0).name), wn 91 ((c.ten.take i).any (fun o => o.vni == (c.ten.getD i ten0).vni)), wn 92 (ow1 (c.ten.getD i ten0) (fun x => x == c.ip || (c.ten.take i).any (fun o => owns o x)))]) := rfl
  have h1 : (i : Int) < c.ten.length := by omega
  have h2 : (i : Int) ≤ tp := by omega
  have h3 : i ≤ tp := by omega
  clear hv h hl hm hx hp hVV
  generalize Va.prs c.ip (c.ten.take i) (c.ten.getD i ten0) = ES at *
  generalize c.ten.getD i ten0 = t at *
  generalize c.ten.length = N at *
  generalize cl.toArray = A at *
  go_enter Tryd.func26, Tryd.ntmps26
  go_upto_region 1 with fail
  refine wp_letter (fun X => Mem W X [(gi, .cells #[.int .i64 (i : Int)] 3 (0, 0)), (gc, .cells A 28 (0, 0))]) (by exact HM0.out) ?_
  intro V hM
  try simp only [hgc, hgi]
  clear HM0 hgc hgi
  have HS : Hid (∀ X, Below V.heap.size V X → X.cell? ⟨gc, 28, none⟩ = some (.slice (some ⟨b, off, none⟩) N tp) ∧ X.cell? ⟨gi, 0, none⟩ = some (.int .i64 (i : Int)) ∧ X.rangeAt b (off + i * 33) x) := HX.out V hM
  have HP2 : Hid (∀ X gt ga, Mem V X [(ga, .cells #[.slice (some ⟨b, off, none⟩) i tp] 26 (0, 0)), (gt, .cells x.toArray 39 (0, 0))] → PR W X gc gi gt ga i c t (some ⟨b, off, none⟩) tp) := HP.out V hM
  clear HX HP hM
  go_cut [5, 6] from 9 (fun u5 u6 w' => ∃ gt ga : Nat, u5 = .pointer (some ⟨gt, 0, none⟩) ∧ u6 = .pointer (some ⟨ga, 0, none⟩) ∧ Hid (Mem V w' [(ga, .cells #[.slice (some ⟨b, off, none⟩) i tp] 26 (0, 0)), (gt, .cells x.toArray 39 (0, 0))]))
  case first =>
    clear HP2 HT HE
    obtain ⟨gv, hgv'⟩ : ∃ g, V.heap.size = g := ⟨_, rfl⟩
    have HG : Hid (V.heap.size = gv) := hgv'
    clear hgv'
    refine wp_region_held_drew (S := fun X => X.cell? ⟨gc, 28, none⟩ = some (.slice (some ⟨b, off, none⟩) N tp) ∧ X.cell? ⟨gi, 0, none⟩ = some (.int .i64 (i : Int)) ∧ X.rangeAt b (off + i * 33) x) (by kernel_rfl) (HS.out _ (Below.refl _ _).drew) (fun hHeld => ?_)
    refine wpAnyH_take (i := 0) (v := ?_) rfl (by kernel_rfl) (by kernel_rfl) (by kernel_rfl) (fun _ _ _ h => h) (Or.inl ⟨by rfl, ?qy0⟩) (by assumption) ?qr0
    case qy0 =>
      intro w hSw
      (try dsimp only at hSw)
      go_simp
      all_goals with_reducible rfl
    try simp only [List.getElem_toArray, List.getElem_cons_zero, List.getElem_cons_succ, Act.put, List.setIfInBounds_toArray, List.set_cons_zero, List.set_cons_succ]
    refine wpAnyH_take (i := 1) (v := ?_) rfl (by kernel_rfl) (by kernel_rfl) (by kernel_rfl) (fun _ _ _ h => h) (Or.inl ⟨by rfl, ?qy1⟩) (by assumption) ?qr1
    case qy1 =>
      intro w hSw
      (try dsimp only at hSw)
      go_simp
      all_goals with_reducible rfl
    try simp only [List.getElem_toArray, List.getElem_cons_zero, List.getElem_cons_succ, Act.put, List.setIfInBounds_toArray, List.set_cons_zero, List.set_cons_succ]
    refine wpAnyH_take (i := 2) (v := ?_) rfl (by kernel_rfl) (by kernel_rfl) (by kernel_rfl) (fun _ _ _ h => h) (Or.inl ⟨by rfl, ?qy2⟩) (by assumption) ?qr2
    case qy2 =>
      intro w hSw
      (try dsimp only at hSw)
      go_simp
      all_goals with_reducible rfl
    try simp only [List.getElem_toArray, List.getElem_cons_zero, List.getElem_cons_succ, Act.put, List.setIfInBounds_toArray, List.set_cons_zero, List.set_cons_succ]
    refine wpAnyH_take (i := 3) (v := ?_) rfl (by kernel_rfl) (by kernel_rfl) (by kernel_rfl) (fun _ _ _ h => h) (Or.inl ⟨by rfl, ?qy3⟩) (by assumption) ?qr3
    case qy3 =>
      intro w hSw
      (try dsimp only at hSw)
      go_simp
      all_goals with_reducible rfl
    try simp only [List.getElem_toArray, List.getElem_cons_zero, List.getElem_cons_succ, Act.put, List.setIfInBounds_toArray, List.set_cons_zero, List.set_cons_succ]
    refine wpAnyH_take (i := 4) (v := _) rfl (by kernel_rfl) (by kernel_rfl) (by kernel_rfl) (fun _ _ _ h => h) (yieldsIf_load_mid (by rfl) _ _ rfl _ _ rfl _ _ ?qs4 Tryd.underlying39 rfl hi33) (by assumption) ?qr4
    case qs4 =>
      intro w hSw
      (try dsimp only at hSw)
      go_split_ands
      assumption
    try simp only [List.getElem_toArray, List.getElem_cons_zero, List.getElem_cons_succ, Act.put, List.setIfInBounds_toArray, List.set_cons_zero, List.set_cons_succ]
    refine wpAnyH_take (i := 5) (v := ?_) rfl (by kernel_rfl) (by kernel_rfl) (by kernel_rfl) (fun _ _ _ h => h) (Or.inl ⟨by rfl, ?qy5⟩) (by assumption) ?qr5
    case qy5 =>
      intro w hSw
      (try dsimp only at hSw)
      go_simp
      all_goals with_reducible rfl
    try simp only [List.getElem_toArray, List.getElem_cons_zero, List.getElem_cons_succ, Act.put, List.setIfInBounds_toArray, List.set_cons_zero, List.set_cons_succ]
    refine wpAnyH_take (i := 6) (v := ?_) rfl (by kernel_rfl) (by kernel_rfl) (by kernel_rfl) (fun _ _ _ h => h) (Or.inl ⟨by rfl, ?qy6⟩) (by assumption) ?qr6
    case qy6 =>
      intro w hSw
      (try dsimp only at hSw)
      go_simp
      all_goals with_reducible rfl
    try simp only [List.getElem_toArray, List.getElem_cons_zero, List.getElem_cons_succ, Act.put, List.setIfInBounds_toArray, List.set_cons_zero, List.set_cons_succ]
    refine wpAnyH_take (i := 7) (v := ?_) rfl (by kernel_rfl) (by kernel_rfl) (by kernel_rfl) (fun _ _ _ h => h) (Or.inl ⟨by rfl, ?qy7⟩) (by assumption) ?qr7
    case qy7 =>
      intro w hSw
      (try dsimp only at hSw)
      go_simp
      all_goals with_reducible rfl
    try simp only [List.getElem_toArray, List.getElem_cons_zero, List.getElem_cons_succ, Act.put, List.setIfInBounds_toArray, List.set_cons_zero, List.set_cons_succ]
    refine wpAnyH_take (i := 8) (v := ?_) rfl (by kernel_rfl) (by kernel_rfl) (by kernel_rfl) (fun _ _ _ h => h) (Or.inl ⟨by rfl, ?qy8⟩) (by assumption) ?qr8
    case qy8 =>
      intro w hSw
      (try dsimp only at hSw)
      go_simp
      all_goals with_reducible rfl
    try simp only [List.getElem_toArray, List.getElem_cons_zero, List.getElem_cons_succ, Act.put, List.setIfInBounds_toArray, List.set_cons_zero, List.set_cons_succ]
    refine wpAnyH_ready (rs := [9, 10]) (by kernel_rfl) (by simp) ?_
    refine AllReadyH.cons rfl (fun KK hK => ?_) (AllReadyH.cons rfl (fun KK hK => ?_) AllReadyH.nil)
    · go_simp
      have hA1 : Mem V (V.drew.alloc (.cells tz14 39)) [(gv, .cells tz14 39 (0, 0))] := (Mem.nil V).drew.front _ HG.out.symm
      refine hK.out _ _ (HS.out _ hA1.below) (fun hHeld => ?_)
      clear hK KK
      try simp only [List.getElem_toArray, List.getElem_cons_zero, List.getElem_cons_succ, Act.put, List.setIfInBounds_toArray, List.set_cons_zero, List.set_cons_succ]
      refine anyH_letter (fun X => Mem V X [(gv, .cells tz14 39 (0, 0))]) (by exact hA1) ?_
      intro Y1 hY1
      try simp only [HG.out]
      clear hA1
      obtain ⟨gw, hgw⟩ : ∃ gw, Y1.heap.size = gw := ⟨_, rfl⟩
      have HGW : Hid (Y1.heap.size = gw) := hgw
      clear hgw
      have hA2 : Mem V (Y1.alloc (.cells #[.slice none 0 0] 26)) [(gw, .cells #[.slice none 0 0] 26 (0, 0)), (gv, .cells tz14 39 (0, 0))] := hY1.front _ HGW.out.symm
      refine wpAnyH_ready (rs := [10]) (by kernel_rfl) (by simp) ?_
      refine AllReadyH.cons rfl (fun KK hK => ?_) AllReadyH.nil
      go_simp
      refine hK.out _ _ (HS.out _ hA2.below) (fun hHeld => ?_)
      clear hK KK
      try simp only [List.getElem_toArray, List.getElem_cons_zero, List.getElem_cons_succ, Act.put, List.setIfInBounds_toArray, List.set_cons_zero, List.set_cons_succ]
      refine anyH_letter (fun X => Mem V X [(gw, .cells #[.slice none 0 0] 26 (0, 0)), (gv, .cells tz14 39 (0, 0))]) (by exact hA2) ?_
      intro Y2 hY2
      try simp only [HGW.out]
      clear hA2 HGW hY1
      have hst := storeCells_row Y2 gv tz14 x.toArray 39 (hY2.get 1 rfl) (by rw [show x.toArray.size = 33 by rw [List.size_toArray]; exact hsz]; rfl) hone
      have hA3 : Mem V (Y2.setRow gv x.toArray) [(gw, .cells #[.slice none 0 0] 26 (0, 0)), (gv, .cells x.toArray 39 (0, 0))] := hY2.wrote 1 rfl (wrote_setRow Y2 gv tz14 _ _ (hY2.get 1 rfl))
      refine wpAnyH_ready (rs := [11]) (by kernel_rfl) (by simp) ?_
      refine AllReadyH.cons rfl (fun KK hK => ?_) AllReadyH.nil
      go_simp
      refine hK.out _ _ (HS.out _ hA3.below) (fun hHeld => ?_)
      clear hK KK
      try simp only [List.getElem_toArray, List.getElem_cons_zero, List.getElem_cons_succ, Act.put, List.setIfInBounds_toArray, List.set_cons_zero, List.set_cons_succ]
      refine anyH_letter (fun X => Mem V X [(gw, .cells #[.slice none 0 0] 26 (0, 0)), (gv, .cells x.toArray 39 (0, 0))]) (by exact hA3) ?_
      intro Y3 hY3
      clear hA3 hst hY2
      have y1 : Y3.cell? ⟨gw, 0, none⟩ = some (.slice none 0 0) := hY3.cell 0 rfl 0
      have y2 : Y3.frozen? ⟨gw, 0, none⟩ = false := hY3.free 0 rfl 0
      have hA4 : Mem V (Y3.setCell ⟨gw, 0, none⟩ (.slice (some ⟨b, off, none⟩) i tp)) [(gw, .cells #[.slice (some ⟨b, off, none⟩) i tp] 26 (0, 0)), (gv, .cells x.toArray 39 (0, 0))] := hY3.set 0 rfl 0 (.slice (some ⟨b, off, none⟩) i tp)
      refine wpAnyH_ready (rs := [12]) (by kernel_rfl) (by simp) ?_
      refine AllReadyH.cons rfl (fun KK hK => ?_) AllReadyH.nil
      go_simp
      refine hK.out _ _ (HS.out _ hA4.below) (fun hHeld => ?_)
      clear hK KK
      try simp only [List.getElem_toArray, List.getElem_cons_zero, List.getElem_cons_succ, Act.put, List.setIfInBounds_toArray, List.set_cons_zero, List.set_cons_succ]
      refine wpAnyH_done (by kernel_rfl) ?_ _
      have HF : Hid (Mem V (Y3.setCell ⟨gw, 0, none⟩ (.slice (some ⟨b, off, none⟩) i tp)) [(gw, .cells #[.slice (some ⟨b, off, none⟩) i tp] 26 (0, 0)), (gv, .cells x.toArray 39 (0, 0))]) := hA4
      clear hA4 hY3 y1 y2 HS
      go_wp2_with fail
      go_meet
      case rel => exact ⟨gv, gw, rfl, rfl, HF⟩
    · go_simp
      have hA1 : Mem V (V.drew.alloc (.cells #[.slice none 0 0] 26)) [(gv, .cells #[.slice none 0 0] 26 (0, 0))] := (Mem.nil V).drew.front _ HG.out.symm
      refine hK.out _ _ (HS.out _ hA1.below) (fun hHeld => ?_)
      clear hK KK
      try simp only [List.getElem_toArray, List.getElem_cons_zero, List.getElem_cons_succ, Act.put, List.setIfInBounds_toArray, List.set_cons_zero, List.set_cons_succ]
      refine anyH_letter (fun X => Mem V X [(gv, .cells #[.slice none 0 0] 26 (0, 0))]) (by exact hA1) ?_
      intro Y1 hY1
      try simp only [HG.out]
      clear hA1
      obtain ⟨gw, hgw⟩ : ∃ gw, Y1.heap.size = gw := ⟨_, rfl⟩
      have HGW : Hid (Y1.heap.size = gw) := hgw
      clear hgw
      have hA2 : Mem V (Y1.alloc (.cells tz14 39)) [(gw, .cells tz14 39 (0, 0)), (gv, .cells #[.slice none 0 0] 26 (0, 0))] := hY1.front _ HGW.out.symm
      refine wpAnyH_ready (rs := [9]) (by kernel_rfl) (by simp) ?_
      refine AllReadyH.cons rfl (fun KK hK => ?_) AllReadyH.nil
      go_simp
      refine hK.out _ _ (HS.out _ hA2.below) (fun hHeld => ?_)
      clear hK KK
      try simp only [List.getElem_toArray, List.getElem_cons_zero, List.getElem_cons_succ, Act.put, List.setIfInBounds_toArray, List.set_cons_zero, List.set_cons_succ]
      refine anyH_letter (fun X => Mem V X [(gw, .cells tz14 39 (0, 0)), (gv, .cells #[.slice none 0 0] 26 (0, 0))]) (by exact hA2) ?_
      intro Y2 hY2
      try simp only [HGW.out]
      clear hA2 HGW hY1
      have hst := storeCells_row Y2 gw tz14 x.toArray 39 (hY2.get 0 rfl) (by rw [show x.toArray.size = 33 by rw [List.size_toArray]; exact hsz]; rfl) hone
      have hA3 : Mem V (Y2.setRow gw x.toArray) [(gw, .cells x.toArray 39 (0, 0)), (gv, .cells #[.slice none 0 0] 26 (0, 0))] := hY2.wrote 0 rfl (wrote_setRow Y2 gw tz14 _ _ (hY2.get 0 rfl))
      refine wpAnyH_ready (rs := [11]) (by kernel_rfl) (by simp) ?_
      refine AllReadyH.cons rfl (fun KK hK => ?_) AllReadyH.nil
      go_simp
      refine hK.out _ _ (HS.out _ hA3.below) (fun hHeld => ?_)
      clear hK KK
      try simp only [List.getElem_toArray, List.getElem_cons_zero, List.getElem_cons_succ, Act.put, List.setIfInBounds_toArray, List.set_cons_zero, List.set_cons_succ]
      refine anyH_letter (fun X => Mem V X [(gw, .cells x.toArray 39 (0, 0)), (gv, .cells #[.slice none 0 0] 26 (0, 0))]) (by exact hA3) ?_
      intro Y3 hY3
      clear hA3 hst hY2
      have y1 : Y3.cell? ⟨gv, 0, none⟩ = some (.slice none 0 0) := hY3.cell 1 rfl 0
      have y2 : Y3.frozen? ⟨gv, 0, none⟩ = false := hY3.free 1 rfl 0
      have hA4 : Mem V (Y3.setCell ⟨gv, 0, none⟩ (.slice (some ⟨b, off, none⟩) i tp)) [(gw, .cells x.toArray 39 (0, 0)), (gv, .cells #[.slice (some ⟨b, off, none⟩) i tp] 26 (0, 0))] := hY3.set 1 rfl 0 (.slice (some ⟨b, off, none⟩) i tp)
      refine wpAnyH_ready (rs := [12]) (by kernel_rfl) (by simp) ?_
      refine AllReadyH.cons rfl (fun KK hK => ?_) AllReadyH.nil
      go_simp
      refine hK.out _ _ (HS.out _ hA4.below) (fun hHeld => ?_)
      clear hK KK
      try simp only [List.getElem_toArray, List.getElem_cons_zero, List.getElem_cons_succ, Act.put, List.setIfInBounds_toArray, List.set_cons_zero, List.set_cons_succ]
      refine wpAnyH_done (by kernel_rfl) ?_ _
      have HF : Hid (Mem V (Y3.setCell ⟨gv, 0, none⟩ (.slice (some ⟨b, off, none⟩) i tp)) [(gv, .cells #[.slice (some ⟨b, off, none⟩) i tp] 26 (0, 0)), (gw, .cells x.toArray 39 (0, 0))]) := hA4.perm (List.Perm.swap _ _ _)
      clear hA4 hY3 y1 y2 HS
      go_wp2_with fail
      go_meet
      case rel => exact ⟨gw, gv, rfl, rfl, HF⟩
  case rest =>
    obtain ⟨gt, ga, rfl, rfl, HM⟩ := hcut
    have H0 : Hid (PR W wc gc gi gt ga i c t (some ⟨b, off, none⟩) tp) := HP2.out wc gt ga HM.out
    clear HP2 HM HS hi33 hsz hone hcb hle
    obtain ⟨gs, hgs⟩ : ∃ g, wc.heap.size = g := ⟨_, rfl⟩
    have hA : Mem wc (wc.alloc (.cells #[.func (.func 38) #[] #[.pointer (some ⟨gt, 0, none⟩)]] 42)) [(gs, .cells #[.func (.func 38) #[] #[.pointer (some ⟨gt, 0, none⟩)]] 42 (0, 0))] := (Mem.nil wc).push1 hgs.symm
    go_upto_region 3 with fail
    refine wp_letter (fun X => Mem wc X [(gs, .cells #[.func (.func 38) #[] #[.pointer (some ⟨gt, 0, none⟩)]] 42 (0, 0))]) (by exact hA) ?_
    intro V1 hM1
    try simp only [hgs]
    clear hA hgs
    have H1 : Hid (PR W V1 gc gi gt ga i c t (some ⟨b, off, none⟩) tp ∧ V1.cell? ⟨gs, 0, none⟩ = some (.func (.func 38) #[] #[.pointer (some ⟨gt, 0, none⟩)])) := ⟨H0.out.later hM1.below, hM1.cell 0 rfl 0⟩
    clear H0 hM1
    obtain ⟨gk, hgk⟩ : ∃ g, V1.heap.size = g := ⟨_, rfl⟩
    have hA : Mem V1 (V1.alloc (.cells #[.func (.func 39) #[] #[.pointer (some ⟨gc, 0, none⟩), .pointer (some ⟨ga, 0, none⟩)]] 67)) [(gk, .cells #[.func (.func 39) #[] #[.pointer (some ⟨gc, 0, none⟩), .pointer (some ⟨ga, 0, none⟩)]] 67 (0, 0))] := (Mem.nil V1).push1 hgk.symm
    go_upto_region 4 with fail
    refine wp_letter (fun X => Mem V1 X [(gk, .cells #[.func (.func 39) #[] #[.pointer (some ⟨gc, 0, none⟩), .pointer (some ⟨ga, 0, none⟩)]] 67 (0, 0))]) (by exact hA) ?_
    intro V2 hM2
    try simp only [hgk]
    clear hA hgk
    have H2 : Hid (PR W V2 gc gi gt ga i c t (some ⟨b, off, none⟩) tp ∧ V2.cell? ⟨gs, 0, none⟩ = some (.func (.func 38) #[] #[.pointer (some ⟨gt, 0, none⟩)]) ∧ V2.cell? ⟨gk, 0, none⟩ = some (.func (.func 39) #[] #[.pointer (some ⟨gc, 0, none⟩), .pointer (some ⟨ga, 0, none⟩)])) := ⟨H1.out.1.later hM2.below, cell_later hM2.below H1.out.2, hM2.cell 0 rfl 0⟩
    clear H1 hM2
    go_wp2_with fail
    refine (unless_any (pq4 H2.out.1.tb H2.out.1.ci HT.out.1 HT.out.2.1 H2.out.1.ca H2.out.1.ts) 90).mono ?_
    rintro _ X1 ⟨k1, cs1, rfl, hr, hb⟩
    have H3 : Hid (PR W X1 gc gi gt ga i c t (some ⟨b, off, none⟩) tp ∧ X1.cell? ⟨gs, 0, none⟩ = some (.func (.func 38) #[] #[.pointer (some ⟨gt, 0, none⟩)]) ∧ X1.cell? ⟨gk, 0, none⟩ = some (.func (.func 39) #[] #[.pointer (some ⟨gc, 0, none⟩), .pointer (some ⟨ga, 0, none⟩)]) ∧ RlsL X1 _ _) := ⟨H2.out.1.later hb, cell_later hb H2.out.2.1, cell_later hb H2.out.2.2, .cons ((pr3 H2.out.1.vs H2.out.1.tb HT.out.2.2.2).later hb) (.cons hr .nil)⟩
    clear H2 hr hb
    go_wp2_with fail
    refine (when_any (pq5 (pp1 H3.out.1.tb) H3.out.2.1 H3.out.1.ca H3.out.1.ts (by rw [HT.out.1]; exact HT.out.2.1) HT.out.2.2.1) 91).mono ?_
    rintro _ X2 ⟨k2, cs2, rfl, hr, hb⟩
    have H4 : Hid (PR W X2 gc gi gt ga i c t (some ⟨b, off, none⟩) tp ∧ X2.cell? ⟨gk, 0, none⟩ = some (.func (.func 39) #[] #[.pointer (some ⟨gc, 0, none⟩), .pointer (some ⟨ga, 0, none⟩)]) ∧ RlsL X2 _ _) := ⟨H3.out.1.later hb, cell_later hb H3.out.2.2.1, (H3.out.2.2.2.later hb).snoc hr⟩
    clear H3 hr hb
    go_wp2_with fail
    refine (when_any (pq6 H4.out.1.tb HT.out.2.2.2 (pp2 H4.out.1.cb H4.out.1.ca H4.out.1.ts (by rw [HT.out.1]; exact HT.out.2.1) HT.out.2.2.1) H4.out.2.1) 92).mono ?_
    rintro _ X3 ⟨k3, cs3, rfl, hr, hb⟩
    have H5 : Hid (Below W.heap.size W X3 ∧ RlsL X3 _ _) := ⟨(H4.out.1.later hb).below, (H4.out.2.2.later hb).snoc hr⟩
    clear H4 hr hb
    obtain ⟨gl, hgl⟩ : ∃ gl, X3.heap.size = gl := ⟨_, rfl⟩
    have hF := rls_of (cs := #[.func (.func 42) #[] #[.pointer (some ⟨gt, 0, none⟩)], .func (.func k1) #[] cs1, .func (.func k2) #[] cs2, .func (.func k3) #[] cs3]) H5.out.2 H5.out.1 hgl rfl
    have HF : Hid ((∀ i, i < ES.length → ∃ k c, (X3.alloc (.cells #[.func (.func 42) #[] #[.pointer (some ⟨gt, 0, none⟩)], .func (.func k1) #[] cs1, .func (.func k2) #[] cs2, .func (.func k3) #[] cs3] 71)).cell? ⟨gl, i, none⟩ = some (.func (.func k) #[] c) ∧ Rul (X3.alloc (.cells #[.func (.func 42) #[] #[.pointer (some ⟨gt, 0, none⟩)], .func (.func k1) #[] cs1, .func (.func k2) #[] cs2, .func (.func k3) #[] cs3] 71)) k c (ES.getD i 0)) ∧ Below W.heap.size W (X3.alloc (.cells #[.func (.func 42) #[] #[.pointer (some ⟨gt, 0, none⟩)], .func (.func k1) #[] cs1, .func (.func k2) #[] cs2, .func (.func k3) #[] cs3] 71)) ∧ ES.length = 4) := by
      rw [HE.out]; exact ⟨hF.1, hF.2, rfl⟩
    clear H5 HE hF HT
    go_wp2_with fail
    go_ret
    refine ⟨gl, ?_, HF.out.1, HF.out.2.1⟩
    rw [HF.out.2.2, ← hgl]
    rfl
end Go.Proofs.YtnddbklbgddblaaDoor

