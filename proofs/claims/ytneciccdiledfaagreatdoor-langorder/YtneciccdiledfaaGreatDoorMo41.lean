/-
  Settings as text: a tenant that lies at a place, its lists in blocks of their own; one field turned, one element more.
  Settings as text: the program's reader: two addresses; a tenant's other lines, but for lists.
  Settings as text: settings that are being read: their box, their tenants, the last one's lists apart.
-/
import Derived.Test.YtneciccdiledfaaGreatDoorMo40
namespace Go.Proofs.YtneciccdiledfaaGreatDoor
open Go.RowKit
open La
set_option linter.unusedVariables false
set_option linter.unusedSimpArgs false
set_option maxRecDepth 20000

/-- A tenant at a place in block g; L: its block, and its lists'. -/
def TAt (g : Nat) (pre post : List Value) (T : TypeId) (t : Ten) (L : List (Nat × Obj)) : Prop := TLen t ∧ ∃ p s q B1 B2 B3, OwB 23 1 p t.pool.length (ux t.pool).flatten B1 ∧ OwB 96 2 s t.stat.length (px t.stat).flatten B2 ∧ OwB 96 2 q t.twi.length (px t.twi).flatten B3 ∧
  L = (g, .cells (pre ++ (tc t p s q ++ post)).toArray T (0, 0)) :: (B1 ++ (B2 ++ B3))
theorem tat_set {g : Nat} {pre post : List Value} {T : TypeId} {t t' : Ten} {L : List (Nat × Obj)} (h : TAt g pre post T t L) (o : Nat) (ho : o < 33) (v : Value) (hset : ∀ p s q, (tc t p s q).set o v = tc t' p s q) (hl : TLen t') (h1 : t'.pool = t.pool) (h2 : t'.stat = t.stat) (h3 : t'.twi = t.twi) :
    ∃ A R, L = (g, .cells A T (0, 0)) :: R ∧ pre.length + o < A.size ∧ TAt g pre post T t' ((g, .cells (A.setIfInBounds (pre.length + o) v) T (0, 0)) :: R) := by
  obtain ⟨hlen, p, s, q, B1, B2, B3, k1, k2, k3, rfl⟩ := h
  refine ⟨_, _, rfl, ?_, hl, p, s, q, B1, B2, B3, by rw [h1]; exact k1, by rw [h2]; exact k2, by rw [h3]; exact k3, ?_⟩
  · rw [List.size_toArray, List.length_append, List.length_append, tc_len hlen]; omega
  · rw [set_mid _ _ _ o _ (by rw [tc_len hlen]; exact ho), hset]
theorem tat_put {g : Nat} {pre post : List Value} {T : TypeId} {t t' : Ten} {L : List (Nat × Obj)} (h : TAt g pre post T t L) (o : Nat) (ho : o < 33) (v : Value) (e : ∀ p s q n vn a b c d f g x y vt a1 b1 c1 d1 f1 g1 a2 b2 c2 d2 f2 g2 po lo hi fi st tw se qu ra bu,
    t = ⟨n, vn, [a, b, c, d, f, g, x, y], vt, [a1, b1, c1, d1, f1, g1], [a2, b2, c2, d2, f2, g2], po, lo, hi, fi, st, tw, se, qu, ra, bu⟩ → (tc t p s q).set o v = tc t' p s q) (hk : t'.key = t.key) (hv : t'.vmac = t.vmac) (hh : t'.host = t.host) (h1 : t'.pool = t.pool) (h2 : t'.stat = t.stat) (h3 : t'.twi = t.twi) :
    ∃ A R, L = (g, .cells A T (0, 0)) :: R ∧ pre.length + o < A.size ∧ TAt g pre post T t' ((g, .cells (A.setIfInBounds (pre.length + o) v) T (0, 0)) :: R) :=
  tat_set h o ho v (fun p s q => tset h.1 (e p s q)) ⟨by rw [hk]; exact h.1.key, by rw [hv]; exact h.1.vmac, by rw [hh]; exact h.1.host⟩ h1 h2 h3
section
variable {g : Nat} {pre post : List Value} {T : TypeId} {t : Ten} {L : List (Nat × Obj)}
theorem tat_lo (h : TAt g pre post T t L) (x : Int) : ∃ A R, L = (g, .cells A T (0, 0)) :: R ∧ pre.length + 24 < A.size ∧ TAt g pre post T { t with lo := x } ((g, .cells (A.setIfInBounds (pre.length + 24) (.int .u16 x)) T (0, 0)) :: R) :=
  tat_put h 24 (by omega) _ (by rintro p s q n vn a b c d f g x y vt a1 b1 c1 d1 f1 g1 a2 b2 c2 d2 f2 g2 po lo hi fi st tw se qu ra bu rfl; rfl) rfl rfl rfl rfl rfl rfl
theorem tat_hi (h : TAt g pre post T t L) (x : Int) : ∃ A R, L = (g, .cells A T (0, 0)) :: R ∧ pre.length + 25 < A.size ∧ TAt g pre post T { t with hi := x } ((g, .cells (A.setIfInBounds (pre.length + 25) (.int .u16 x)) T (0, 0)) :: R) :=
  tat_put h 25 (by omega) _ (by rintro p s q n vn a b c d f g x y vt a1 b1 c1 d1 f1 g1 a2 b2 c2 d2 f2 g2 po lo hi fi st tw se qu ra bu rfl; rfl) rfl rfl rfl rfl rfl rfl
theorem tat_filter (h : TAt g pre post T t L) (x : Int) : ∃ A R, L = (g, .cells A T (0, 0)) :: R ∧ pre.length + 26 < A.size ∧ TAt g pre post T { t with filter := x } ((g, .cells (A.setIfInBounds (pre.length + 26) (.int .i64 x)) T (0, 0)) :: R) :=
  tat_put h 26 (by omega) _ (by rintro p s q n vn a b c d f g x y vt a1 b1 c1 d1 f1 g1 a2 b2 c2 d2 f2 g2 po lo hi fi st tw se qu ra bu rfl; rfl) rfl rfl rfl rfl rfl rfl
theorem tat_sess (h : TAt g pre post T t L) (x : Int) : ∃ A R, L = (g, .cells A T (0, 0)) :: R ∧ pre.length + 29 < A.size ∧ TAt g pre post T { t with sess := x } ((g, .cells (A.setIfInBounds (pre.length + 29) (.int .i64 x)) T (0, 0)) :: R) :=
  tat_put h 29 (by omega) _ (by rintro p s q n vn a b c d f g x y vt a1 b1 c1 d1 f1 g1 a2 b2 c2 d2 f2 g2 po lo hi fi st tw se qu ra bu rfl; rfl) rfl rfl rfl rfl rfl rfl
theorem tat_queue (h : TAt g pre post T t L) (x : Int) : ∃ A R, L = (g, .cells A T (0, 0)) :: R ∧ pre.length + 30 < A.size ∧ TAt g pre post T { t with queue := x } ((g, .cells (A.setIfInBounds (pre.length + 30) (.int .i64 x)) T (0, 0)) :: R) :=
  tat_put h 30 (by omega) _ (by rintro p s q n vn a b c d f g x y vt a1 b1 c1 d1 f1 g1 a2 b2 c2 d2 f2 g2 po lo hi fi st tw se qu ra bu rfl; rfl) rfl rfl rfl rfl rfl rfl
theorem tat_rate (h : TAt g pre post T t L) (x : Int) : ∃ A R, L = (g, .cells A T (0, 0)) :: R ∧ pre.length + 31 < A.size ∧ TAt g pre post T { t with rate := x } ((g, .cells (A.setIfInBounds (pre.length + 31) (.int .u32 x)) T (0, 0)) :: R) :=
  tat_put h 31 (by omega) _ (by rintro p s q n vn a b c d f g x y vt a1 b1 c1 d1 f1 g1 a2 b2 c2 d2 f2 g2 po lo hi fi st tw se qu ra bu rfl; rfl) rfl rfl rfl rfl rfl rfl
theorem tat_burst (h : TAt g pre post T t L) (x : Int) : ∃ A R, L = (g, .cells A T (0, 0)) :: R ∧ pre.length + 32 < A.size ∧ TAt g pre post T { t with burst := x } ((g, .cells (A.setIfInBounds (pre.length + 32) (.int .u32 x)) T (0, 0)) :: R) :=
  tat_put h 32 (by omega) _ (by rintro p s q n vn a b c d f g x y vt a1 b1 c1 d1 f1 g1 a2 b2 c2 d2 f2 g2 po lo hi fi st tw se qu ra bu rfl; rfl) rfl rfl rfl rfl rfl rfl
end
theorem mem_append {w V : World} {B K : List (Nat × Obj)} {t e ty : TypeId} {sz bytes n : Nat} {z v : Value} {xs : List Value} (ht : Tryz.prog.underlying t = some (.slice e)) (hi : (Tryz.prog.info? e).map (fun i => (i.zero, i.size, i.bytes)) = some (some z, sz, bytes)) (hzs : z.cells.size = sz) (hsz : 0 < sz)
    (h : Mem w V (B ++ K)) (hB : OwB e sz v n xs B) (ad : Addr) (news : List Value) (hl : news.length = sz) (hnews : ∀ j u, news[j]? = some u → V.cell? (ad.add j) = some u) (h1 : ∀ u ∈ news, u.oneCell' = true) (h63 : n + 1 ≤ 1000000) (hb : (n + 1) * bytes ≤ 140737488355328) :
    ∃ v' V' B', (Builtin.append_ #[t, t] ty #[v, .slice (some ad) 1 1]).run Tryz.prog V = .ok v' V' ∧ Mem w V' (B' ++ K) ∧ OwB e sz v' (n + 1) (xs ++ news) B' := by
  obtain ⟨v', V', hr, hO⟩ := ow_append (ty := ty) ht hi hzs hsz (hB.ow h) ad 1 1 news (by omega) hnews h1 (by unfold maxLen; omega) hb
  obtain ⟨B', hB', hM'⟩ := hO.owb
  exact ⟨v', V', B', hr, hM', hB'⟩
theorem tat_list {g : Nat} {pre post : List Value} {T : TypeId} {t : Ten} {L : List (Nat × Obj)} (h : TAt g pre post T t L) (w : World) (Q : List (Nat × Obj)) :
    (∃ A p B R, L.Perm (B ++ ((g, .cells A T (0, 0)) :: R)) ∧ A[pre.length + 23]? = some p ∧ OwB 23 1 p t.pool.length (ux t.pool).flatten B ∧ pre.length + 23 < A.size ∧
      ∀ (x : Int) (a : Option Addr) (n c : Nat) (B' : List (Nat × Obj)), OwB 23 1 (.slice a n c) (t.pool.length + 1) ((ux t.pool).flatten ++ [.int .u32 x]) B' → TAt g pre post T { t with pool := t.pool ++ [x] } ((g, .cells (A.setIfInBounds (pre.length + 23) (.slice a n c)) T (0, 0)) :: (B' ++ R))) ∧
    (∃ A p B R, L.Perm (B ++ ((g, .cells A T (0, 0)) :: R)) ∧ A[pre.length + 27]? = some p ∧ OwB 96 2 p t.stat.length (px t.stat).flatten B ∧ pre.length + 27 < A.size ∧
      ∀ (x y : Int) (a : Option Addr) (n c : Nat) (B' : List (Nat × Obj)), OwB 96 2 (.slice a n c) (t.stat.length + 1) ((px t.stat).flatten ++ [.int .u32 x, .int .u32 y]) B' → ∃ L', L'.Perm (B' ++ ((g, .cells (A.setIfInBounds (pre.length + 27) (.slice a n c)) T (0, 0)) :: R)) ∧ TAt g pre post T { t with stat := t.stat ++ [(x, y)] } L') ∧
    (∃ A p B R, L.Perm (B ++ ((g, .cells A T (0, 0)) :: R)) ∧ A[pre.length + 28]? = some p ∧ OwB 96 2 p t.twi.length (px t.twi).flatten B ∧ pre.length + 28 < A.size ∧
      ∀ (x y : Int) (a : Option Addr) (n c : Nat) (B' : List (Nat × Obj)), OwB 96 2 (.slice a n c) (t.twi.length + 1) ((px t.twi).flatten ++ [.int .u32 x, .int .u32 y]) B' → ∃ L', L'.Perm (B' ++ ((g, .cells (A.setIfInBounds (pre.length + 28) (.slice a n c)) T (0, 0)) :: R)) ∧ TAt g pre post T { t with twi := t.twi ++ [(x, y)] } L') := by
  obtain ⟨hlen, p, s, q, B1, B2, B3, k1, k2, k3, rfl⟩ := h
  have hsz : ∀ o, o < 33 → pre.length + o < (pre ++ (tc t p s q ++ post)).toArray.size := by
    intro o ho
    rw [List.size_toArray, List.length_append, List.length_append, tc_len hlen]; omega
  have pc : ∀ (B R S : List (Nat × Obj)) (o : Nat × Obj), (o :: (S ++ (B ++ R))).Perm (B ++ (o :: (S ++ R))) := by
    intro B R S o
    classical
    rw [List.perm_iff_count]
    intro z
    simp only [List.count_append, List.count_cons]
    omega
  refine ⟨⟨_, p, B1, B2 ++ B3, pc B1 (B2 ++ B3) [] _, get_mid _ _ _ 23 _ (tget hlen (by rintro n vn a b c d f g x y vt a1 b1 c1 d1 f1 g1 a2 b2 c2 d2 f2 g2 po lo hi fi st tw se qu ra bu rfl; rfl)), k1, hsz 23 (by omega), fun x a n c B' hB => ⟨⟨hlen.key, hlen.vmac, hlen.host⟩, .slice a n c, s, q, B', B2, B3, ?_, k2, k3, ?_⟩⟩,
    ⟨_, s, B2, B1 ++ B3, pc B2 B3 B1 _, get_mid _ _ _ 27 _ (tget hlen (by rintro n vn a b c d f g x y vt a1 b1 c1 d1 f1 g1 a2 b2 c2 d2 f2 g2 po lo hi fi st tw se qu ra bu rfl; rfl)), k2, hsz 27 (by omega), fun x y a n c B' hB => ⟨_, ?_, ⟨hlen.key, hlen.vmac, hlen.host⟩, p, .slice a n c, q, B1, B', B3, k1, ?_, k3, rfl⟩⟩,
    ⟨_, q, B3, B1 ++ B2, ?_, get_mid _ _ _ 28 _ (tget hlen (by rintro n vn a b c d f g x y vt a1 b1 c1 d1 f1 g1 a2 b2 c2 d2 f2 g2 po lo hi fi st tw se qu ra bu rfl; rfl)), k3, hsz 28 (by omega), fun x y a n c B' hB => ⟨_, ?_, ⟨hlen.key, hlen.vmac, hlen.host⟩, p, s, .slice a n c, B1, B2, B', k1, k2, ?_, rfl⟩⟩⟩
  · rw [ux_snoc, List.length_append]; exact hB
  · rw [set_mid _ _ _ 23 _ (by rw [tc_len hlen]; omega)]
    rw [tset (t' := { t with pool := t.pool ++ [x] }) (p' := .slice a n c) (s' := s) (q' := q) hlen (by rintro n vn a b c d f g x y vt a1 b1 c1 d1 f1 g1 a2 b2 c2 d2 f2 g2 po lo hi fi st tw se qu ra bu rfl; rfl)]
  · rw [set_mid _ _ _ 27 _ (by rw [tc_len hlen]; omega)]
    rw [tset (t' := { t with stat := t.stat ++ [(x, y)] }) (p' := p) (s' := .slice a n c) (q' := q) hlen (by rintro n vn a b c d f g x y vt a1 b1 c1 d1 f1 g1 a2 b2 c2 d2 f2 g2 po lo hi fi st tw se qu ra bu rfl; rfl)]
    exact pc B' B3 B1 _
  · rw [px_snoc, List.length_append]; exact hB
  · classical
    rw [List.perm_iff_count]
    intro z
    simp only [List.count_append, List.count_cons]
    omega
  · rw [set_mid _ _ _ 28 _ (by rw [tc_len hlen]; omega)]
    rw [tset (t' := { t with twi := t.twi ++ [(x, y)] }) (p' := p) (s' := s) (q' := .slice a n c) hlen (by rintro n vn a b c d f g x y vt a1 b1 c1 d1 f1 g1 a2 b2 c2 d2 f2 g2 po lo hi fi st tw se qu ra bu rfl; rfl)]
    classical
    rw [List.perm_iff_count]
    intro z
    simp only [List.count_append, List.count_cons]
    omega
  · rw [px_snoc, List.length_append]; exact hB
end Go.Proofs.YtneciccdiledfaaGreatDoor

namespace Go.Proofs.YtneciccdiledfaaGreatDoor
open Go.RowKit
open La
open Ad
set_option linter.unusedVariables false
set_option linter.unusedSimpArgs false
set_option maxRecDepth 20000

set_option maxHeartbeats 4000000 in
theorem pair2_any {w V : World} {g : Nat} {post : List Value} {T : TypeId} {σ : Sg} {W K : List (Nat × Obj)} (hV : Vs w) (h : LnS w V g post T σ W K) :
    Calls Tryz.prog 107 #[.pointer (some ⟨g, 0, none⟩)] V (VP w (two2 ip σ) fun e V' => e = .returned (.agg #[.int .u32 (nv (val ip σ)), .int .u32 (nv (val ip (vnx ip σ)))]) ∧ LnS w V' g post T (two2 ip σ) W K) := by
  obtain ⟨g0, hg0⟩ : ∃ g0, V.heap.size = g0 := ⟨_, rfl⟩
  have h0 := h.push (.cells #[.int .u32 0, .int .u32 0] 96 (0, 0)) hg0.symm
  have C1 := value_ip hV h0
  obtain ⟨x, hx⟩ : ∃ x, nv (val ip σ) = x := ⟨_, rfl⟩
  obtain ⟨y, hy⟩ : ∃ y, nv (val ip (vnx ip σ)) = y := ⟨_, rfl⟩
  rw [hx] at C1
  rw [hx, hy]
  have HY : Hid (nv (val ip (vnx ip σ)) = y) := hy
  clear h h0 hx hy
  go_enter Tryz.func107, Tryz.ntmps107
  go_wp2_with fail
  refine C1.mono ?_
  rintro e V1 (⟨-, rfl, hR⟩ | ⟨a, hb, g', rfl, hM⟩)
  rotate_left
  · exact ⟨rfl, Or.inr ⟨a, vnx_bad hb, g', rfl, hM⟩⟩
  have C2 := value_ip hV hR
  rw [HY.out] at C2
  clear C1 hR
  go_wp2_with fail
  refine C2.mono ?_
  rintro e V2 (⟨hb2, rfl, hR⟩ | ⟨a, hb, g', rfl, hM⟩)
  rotate_left
  · exact ⟨rfl, Or.inr ⟨a, hb, g', rfl, hM⟩⟩
  have HB : Hid ((two2 ip σ).bad = none) := hb2
  have f0 : V2.cell? ⟨g0, 0, none⟩ = some (.int .u32 0) := hR.cellK (i := 0) rfl 0
  have f1 : V2.cell? ⟨g0, 1, none⟩ = some (.int .u32 0) := hR.cellK (i := 0) rfl 1
  have fr := hR.freeK (i := 0) rfl
  have HR : Hid (LnS w V2 g post T (two2 ip σ) W ((g0, .cells #[.int .u32 0, .int .u32 0] 96 (0, 0)) :: K)) := hR
  clear hR C2 hb2
  try simp only [hg0]
  go_wp2_with fail
  refine post_let (fun X => LnS w X g post T (two2 ip σ) W ((g0, .cells #[.int .u32 x, .int .u32 y] 96 (0, 0)) :: K)) ((HR.out.set (i := 0) rfl 0 _).set (i := 0) rfl 1 _) ?_
  intro V4 hM
  have k0 : V4.cell? ⟨g0, 0, none⟩ = some (.int .u32 x) := hM.cellK (i := 0) rfl 0
  have k1 : V4.cell? ⟨g0, 1, none⟩ = some (.int .u32 y) := hM.cellK (i := 0) rfl 1
  exact bodyPost_ret (v := .agg #[.int .u32 x, .int .u32 y]) (by simp [results, Tryz.results107, go_sem, k0, k1]) rfl (Or.inl ⟨HB.out, rfl, hM.drop1⟩)
theorem nv_le (σ : Sg) (m : Nat) : 0 ≤ nv (val (fun s => num s m) σ) ∧ nv (val (fun s => num s m) σ) ≤ m := nv_bounds (wt σ) m
/-- What part answers. -/
def PP (w : World) (g : Nat) (lp : List Value) (lt : TypeId) (W K : List (Nat × Obj)) (gt : Nat) (pre post : List Value) (T : TypeId) (r : Ten × Sg) (e : Ending) (V' : World) : Prop := VP w r.2 (fun e V' => e = .returned (.tuple #[]) ∧ ∃ L', TAt gt pre post T r.1 L' ∧ LnS w V' g lp lt r.2 W (L' ++ K)) e V'
set_option maxHeartbeats 8000000 in
theorem part_ports {w V : World} {g : Nat} {lp : List Value} {lt : TypeId} {σ : Sg} {W K L : List (Nat × Obj)} {gt : Nat} {pre post : List Value} {T : TypeId} {t : Ten} (hV : Vs w) (hF : FW w) (h : LnS w V g lp lt σ W (L ++ K)) (hT : TAt gt pre post T t L) (b : Wd) (hb : b.1.data.toList = wPorts) :
    Calls Tryz.prog 83 #[.pointer (some ⟨g, 0, none⟩), .agg #[.string b.1, .int .i64 b.2], .pointer (some ⟨gt, pre.length, none⟩)] V (PP w g lp lt W K gt pre post T (La.part b t σ)) := by
  obtain ⟨b1, b2⟩ := b
  simp only at hb
  have hb1 : b1 = ⟨#[112, 111, 114, 116, 115]⟩ := by rw [show b1 = ⟨b1.data.toList.toArray⟩ from rfl, hb]; rfl
  have hp : La.part (b1, b2) t σ = ({ t with lo := nv (val n16 σ), hi := nv (val n16 (vnx n16 σ)) }, two2 n16 σ) := by unfold La.part; rw [if_neg (by rw [hb]; decide)]; rw [if_pos hb]
  rw [hp]
  clear hb hp
  subst hb1
  have HR0 : Hid (LnS w (V.alloc (.cells #[.string ⟨#[112, 111, 114, 116, 115]⟩, .int .i64 b2] 149 (0, 0))) g lp lt σ W (L ++ K)) := h.after ((Below.refl _ _).alloc (Nat.le_refl _) _)
  have HT : Hid (TAt gt pre post T t L) := hT
  clear h hT
  obtain ⟨n, hn⟩ : ∃ n, pre.length = n := ⟨_, rfl⟩
  have HN : Hid (pre.length = n) := hn
  rw [hn]
  clear hn
  go_enter Tryz.func83, Tryz.ntmps83
  go_upto_region 7 with fail
  refine wp_letter (fun X => LnS w X g lp lt σ W (L ++ K)) (by exact HR0.out) ?_
  intro V0 hR
  have HR : Hid (LnS w V0 g lp lt σ W (L ++ K)) := hR
  clear HR0 hR
  have bd1 := nv_le σ 65535
  obtain ⟨x1, hx1⟩ : ∃ x, nv (val n16 σ) = x := ⟨_, rfl⟩
  have HE1 : Hid (nv (val n16 σ) = x1) := hx1
  rw [show nv (val (fun s => num s 65535) σ) = x1 from hx1] at bd1
  obtain ⟨bl1, bh1⟩ := bd1
  have CU := upTo_ln HR.out 65535
  have cw1 : IntKind.u16.wrap x1 = x1 := by simp [IntKind.wrap, IntKind.bits, IntKind.signed]; omega
  have cm1 : x1 % 65536 = x1 := by omega
  go_wp2_with fail
  refine CU.mono ?_
  rintro e VU1 ⟨bu, rfl, hRU⟩
  have C : Calls Tryz.prog 73 _ VU1 (VP w (vnx n16 σ) fun e V' => e = .returned (.int .u32 (nv (val n16 σ))) ∧ LnS w V' g lp lt (vnx n16 σ) W ((bu, .cells #[.int .u32 65535] 23 (0, 0)) :: (L ++ K))) := value_num hRU (m := 65535) (by omega) (List.mem_cons_self ..)
  rw [hx1] at C
  clear CU hRU HR hx1
  go_wp2_with fail
  refine C.mono ?_
  rintro e V1 (⟨hbz1, rfl, hRU⟩ | ⟨a, hb, g', rfl, hM⟩)
  rotate_left
  · exact ⟨rfl, Or.inr ⟨a, vnx_bad hb, g', rfl, hM⟩⟩
  have hR := hRU.drop1
  obtain ⟨A1, R1, rfl, hlt1, hT1⟩ := tat_lo HT.out x1
  rw [HN.out] at hlt1 hT1
  obtain ⟨v0, cc1⟩ : ∃ v0, V1.cell? ⟨gt, n + 24, none⟩ = some v0 := ⟨_, (hR.cellK (i := 0) rfl (n + 24)).trans (Array.getElem?_eq_getElem hlt1)⟩
  have fr1 : ∀ j, V1.frozen? ⟨gt, j, none⟩ = false := hR.freeK (i := 0) rfl
  have hR2 := hR.set (i := 0) rfl (n + 24) (.int .u16 x1)
  obtain ⟨L1, hL1⟩ : ∃ L', (gt, Obj.cells (A1.setIfInBounds (n + 24) (.int .u16 x1)) T (0, 0)) :: R1 = L' := ⟨_, rfl⟩
  rw [hL1] at hT1
  have HNx : Hid (LnS w (V1.setCell ⟨gt, n + 24, none⟩ (.int .u16 x1)) g lp lt (vnx n16 σ) W (L1 ++ K)) := by rw [← hL1]; exact hR2
  have HT' : Hid (TAt gt pre post T { t with lo := x1 } L1) := hT1
  clear HT hT1 hL1 hR2 hR hRU C hlt1
  have HT := HT'
  clear HT'
  go_upto_region 8 with fail
  refine wp_letter (fun X => LnS w X g lp lt (vnx n16 σ) W (L1 ++ K)) (by exact HNx.out) ?_
  intro V1b hR
  have HR : Hid (LnS w V1b g lp lt (vnx n16 σ) W (L1 ++ K)) := hR
  clear hR HNx cc1 fr1
  have bd2 := nv_le (vnx n16 σ) 65535
  obtain ⟨x2, hx2⟩ : ∃ x, nv (val n16 (vnx n16 σ)) = x := ⟨_, rfl⟩
  have HE2 : Hid (nv (val n16 (vnx n16 σ)) = x2) := hx2
  rw [show nv (val (fun s => num s 65535) (vnx n16 σ)) = x2 from hx2] at bd2
  obtain ⟨bl2, bh2⟩ := bd2
  have CU := upTo_ln HR.out 65535
  have cw2 : IntKind.u16.wrap x2 = x2 := by simp [IntKind.wrap, IntKind.bits, IntKind.signed]; omega
  have cm2 : x2 % 65536 = x2 := by omega
  go_wp2_with fail
  refine CU.mono ?_
  rintro e VU2 ⟨bu, rfl, hRU⟩
  have C : Calls Tryz.prog 73 _ VU2 (VP w (two2 n16 σ) fun e V' => e = .returned (.int .u32 (nv (val n16 (vnx n16 σ)))) ∧ LnS w V' g lp lt (two2 n16 σ) W ((bu, .cells #[.int .u32 65535] 23 (0, 0)) :: (L1 ++ K))) := value_num hRU (m := 65535) (by omega) (List.mem_cons_self ..)
  rw [hx2] at C
  clear CU hRU HR hx2
  go_wp2_with fail
  refine C.mono ?_
  rintro e V2 (⟨hbz2, rfl, hRU⟩ | ⟨a, hb, g', rfl, hM⟩)
  rotate_left
  · exact ⟨rfl, Or.inr ⟨a, id hb, g', rfl, hM⟩⟩
  have hR := hRU.drop1
  obtain ⟨A2, R2, rfl, hlt2, hT2⟩ := tat_hi HT.out x2
  rw [HN.out] at hlt2 hT2
  obtain ⟨v0, cc2⟩ : ∃ v0, V2.cell? ⟨gt, n + 25, none⟩ = some v0 := ⟨_, (hR.cellK (i := 0) rfl (n + 25)).trans (Array.getElem?_eq_getElem hlt2)⟩
  have fr2 : ∀ j, V2.frozen? ⟨gt, j, none⟩ = false := hR.freeK (i := 0) rfl
  have hR2 := hR.set (i := 0) rfl (n + 25) (.int .u16 x2)
  obtain ⟨L2, hL2⟩ : ∃ L', (gt, Obj.cells (A2.setIfInBounds (n + 25) (.int .u16 x2)) T (0, 0)) :: R2 = L' := ⟨_, rfl⟩
  rw [hL2] at hT2
  have HNx : Hid (LnS w (V2.setCell ⟨gt, n + 25, none⟩ (.int .u16 x2)) g lp lt (two2 n16 σ) W (L2 ++ K)) := by rw [← hL2]; exact hR2
  have HT' : Hid (TAt gt pre post T { { t with lo := x1 } with hi := x2 } L2) := hT2
  clear HT hT2 hL2 hR2 hR hRU C hlt2
  have HT := HT'
  clear HT'
  have HB : Hid ((two2 n16 σ).bad = none) := hbz2
  clear hbz1 hbz2
  go_wp2_with fail
  go_end0
  exact Or.inl ⟨HB.out, rfl, L2, by rw [HE1.out, HE2.out]; exact HT.out, HNx.out⟩
set_option maxHeartbeats 8000000 in
theorem part_quota {w V : World} {g : Nat} {lp : List Value} {lt : TypeId} {σ : Sg} {W K L : List (Nat × Obj)} {gt : Nat} {pre post : List Value} {T : TypeId} {t : Ten} (hV : Vs w) (hF : FW w) (h : LnS w V g lp lt σ W (L ++ K)) (hT : TAt gt pre post T t L) (b : Wd) (hb : b.1.data.toList = wQuota) :
    Calls Tryz.prog 83 #[.pointer (some ⟨g, 0, none⟩), .agg #[.string b.1, .int .i64 b.2], .pointer (some ⟨gt, pre.length, none⟩)] V (PP w g lp lt W K gt pre post T (La.part b t σ)) := by
  obtain ⟨b1, b2⟩ := b
  simp only at hb
  have hb1 : b1 = ⟨#[113, 117, 111, 116, 97]⟩ := by rw [show b1 = ⟨b1.data.toList.toArray⟩ from rfl, hb]; rfl
  have hp : La.part (b1, b2) t σ = ({ t with sess := nv (val n16 σ), queue := nv (val n16 (vnx n16 σ)) }, two2 n16 σ) := by unfold La.part; rw [if_neg (by rw [hb]; decide)]; rw [if_neg (by rw [hb]; decide)]; rw [if_neg (by rw [hb]; decide)]; rw [if_neg (by rw [hb]; decide)]; rw [if_neg (by rw [hb]; decide)]; rw [if_pos hb]
  rw [hp]
  clear hb hp
  subst hb1
  have HR0 : Hid (LnS w (V.alloc (.cells #[.string ⟨#[113, 117, 111, 116, 97]⟩, .int .i64 b2] 149 (0, 0))) g lp lt σ W (L ++ K)) := h.after ((Below.refl _ _).alloc (Nat.le_refl _) _)
  have HT : Hid (TAt gt pre post T t L) := hT
  clear h hT
  obtain ⟨n, hn⟩ : ∃ n, pre.length = n := ⟨_, rfl⟩
  have HN : Hid (pre.length = n) := hn
  rw [hn]
  clear hn
  go_enter Tryz.func83, Tryz.ntmps83
  go_upto_region 16 with fail
  refine wp_letter (fun X => LnS w X g lp lt σ W (L ++ K)) (by exact HR0.out) ?_
  intro V0 hR
  have HR : Hid (LnS w V0 g lp lt σ W (L ++ K)) := hR
  clear HR0 hR
  have bd1 := nv_le σ 65535
  obtain ⟨x1, hx1⟩ : ∃ x, nv (val n16 σ) = x := ⟨_, rfl⟩
  have HE1 : Hid (nv (val n16 σ) = x1) := hx1
  rw [show nv (val (fun s => num s 65535) σ) = x1 from hx1] at bd1
  obtain ⟨bl1, bh1⟩ := bd1
  have CU := upTo_ln HR.out 65535
  have cw1 : IntKind.i64.wrap x1 = x1 := wrap64 (by omega) (by omega)
  go_wp2_with fail
  refine CU.mono ?_
  rintro e VU1 ⟨bu, rfl, hRU⟩
  have C : Calls Tryz.prog 73 _ VU1 (VP w (vnx n16 σ) fun e V' => e = .returned (.int .u32 (nv (val n16 σ))) ∧ LnS w V' g lp lt (vnx n16 σ) W ((bu, .cells #[.int .u32 65535] 23 (0, 0)) :: (L ++ K))) := value_num hRU (m := 65535) (by omega) (List.mem_cons_self ..)
  rw [hx1] at C
  clear CU hRU HR hx1
  go_wp2_with fail
  refine C.mono ?_
  rintro e V1 (⟨hbz1, rfl, hRU⟩ | ⟨a, hb, g', rfl, hM⟩)
  rotate_left
  · exact ⟨rfl, Or.inr ⟨a, vnx_bad hb, g', rfl, hM⟩⟩
  have hR := hRU.drop1
  obtain ⟨A1, R1, rfl, hlt1, hT1⟩ := tat_sess HT.out x1
  rw [HN.out] at hlt1 hT1
  obtain ⟨v0, cc1⟩ : ∃ v0, V1.cell? ⟨gt, n + 29, none⟩ = some v0 := ⟨_, (hR.cellK (i := 0) rfl (n + 29)).trans (Array.getElem?_eq_getElem hlt1)⟩
  have fr1 : ∀ j, V1.frozen? ⟨gt, j, none⟩ = false := hR.freeK (i := 0) rfl
  have hR2 := hR.set (i := 0) rfl (n + 29) (.int .i64 x1)
  obtain ⟨L1, hL1⟩ : ∃ L', (gt, Obj.cells (A1.setIfInBounds (n + 29) (.int .i64 x1)) T (0, 0)) :: R1 = L' := ⟨_, rfl⟩
  rw [hL1] at hT1
  have HNx : Hid (LnS w (V1.setCell ⟨gt, n + 29, none⟩ (.int .i64 x1)) g lp lt (vnx n16 σ) W (L1 ++ K)) := by rw [← hL1]; exact hR2
  have HT' : Hid (TAt gt pre post T { t with sess := x1 } L1) := hT1
  clear HT hT1 hL1 hR2 hR hRU C hlt1
  have HT := HT'
  clear HT'
  go_upto_region 17 with fail
  refine wp_letter (fun X => LnS w X g lp lt (vnx n16 σ) W (L1 ++ K)) (by exact HNx.out) ?_
  intro V1b hR
  have HR : Hid (LnS w V1b g lp lt (vnx n16 σ) W (L1 ++ K)) := hR
  clear hR HNx cc1 fr1
  have bd2 := nv_le (vnx n16 σ) 65535
  obtain ⟨x2, hx2⟩ : ∃ x, nv (val n16 (vnx n16 σ)) = x := ⟨_, rfl⟩
  have HE2 : Hid (nv (val n16 (vnx n16 σ)) = x2) := hx2
  rw [show nv (val (fun s => num s 65535) (vnx n16 σ)) = x2 from hx2] at bd2
  obtain ⟨bl2, bh2⟩ := bd2
  have CU := upTo_ln HR.out 65535
  have cw2 : IntKind.i64.wrap x2 = x2 := wrap64 (by omega) (by omega)
  go_wp2_with fail
  refine CU.mono ?_
  rintro e VU2 ⟨bu, rfl, hRU⟩
  have C : Calls Tryz.prog 73 _ VU2 (VP w (two2 n16 σ) fun e V' => e = .returned (.int .u32 (nv (val n16 (vnx n16 σ)))) ∧ LnS w V' g lp lt (two2 n16 σ) W ((bu, .cells #[.int .u32 65535] 23 (0, 0)) :: (L1 ++ K))) := value_num hRU (m := 65535) (by omega) (List.mem_cons_self ..)
  rw [hx2] at C
  clear CU hRU HR hx2
  go_wp2_with fail
  refine C.mono ?_
  rintro e V2 (⟨hbz2, rfl, hRU⟩ | ⟨a, hb, g', rfl, hM⟩)
  rotate_left
  · exact ⟨rfl, Or.inr ⟨a, id hb, g', rfl, hM⟩⟩
  have hR := hRU.drop1
  obtain ⟨A2, R2, rfl, hlt2, hT2⟩ := tat_queue HT.out x2
  rw [HN.out] at hlt2 hT2
  obtain ⟨v0, cc2⟩ : ∃ v0, V2.cell? ⟨gt, n + 30, none⟩ = some v0 := ⟨_, (hR.cellK (i := 0) rfl (n + 30)).trans (Array.getElem?_eq_getElem hlt2)⟩
  have fr2 : ∀ j, V2.frozen? ⟨gt, j, none⟩ = false := hR.freeK (i := 0) rfl
  have hR2 := hR.set (i := 0) rfl (n + 30) (.int .i64 x2)
  obtain ⟨L2, hL2⟩ : ∃ L', (gt, Obj.cells (A2.setIfInBounds (n + 30) (.int .i64 x2)) T (0, 0)) :: R2 = L' := ⟨_, rfl⟩
  rw [hL2] at hT2
  have HNx : Hid (LnS w (V2.setCell ⟨gt, n + 30, none⟩ (.int .i64 x2)) g lp lt (two2 n16 σ) W (L2 ++ K)) := by rw [← hL2]; exact hR2
  have HT' : Hid (TAt gt pre post T { { t with sess := x1 } with queue := x2 } L2) := hT2
  clear HT hT2 hL2 hR2 hR hRU C hlt2
  have HT := HT'
  clear HT'
  have HB : Hid ((two2 n16 σ).bad = none) := hbz2
  clear hbz1 hbz2
  go_wp2_with fail
  go_end0
  exact Or.inl ⟨HB.out, rfl, L2, by rw [HE1.out, HE2.out]; exact HT.out, HNx.out⟩
set_option maxHeartbeats 8000000 in
theorem part_rate {w V : World} {g : Nat} {lp : List Value} {lt : TypeId} {σ : Sg} {W K L : List (Nat × Obj)} {gt : Nat} {pre post : List Value} {T : TypeId} {t : Ten} (hV : Vs w) (hF : FW w) (h : LnS w V g lp lt σ W (L ++ K)) (hT : TAt gt pre post T t L) (b : Wd) (hb : b.1.data.toList = wRate) :
    Calls Tryz.prog 83 #[.pointer (some ⟨g, 0, none⟩), .agg #[.string b.1, .int .i64 b.2], .pointer (some ⟨gt, pre.length, none⟩)] V (PP w g lp lt W K gt pre post T (La.part b t σ)) := by
  obtain ⟨b1, b2⟩ := b
  simp only at hb
  have hb1 : b1 = ⟨#[114, 97, 116, 101]⟩ := by rw [show b1 = ⟨b1.data.toList.toArray⟩ from rfl, hb]; rfl
  have hp : La.part (b1, b2) t σ = ({ t with rate := nv (val n32 σ), burst := nv (val n32 (vnx n32 σ)) }, two2 n32 σ) := by unfold La.part; rw [if_neg (by rw [hb]; decide)]; rw [if_neg (by rw [hb]; decide)]; rw [if_neg (by rw [hb]; decide)]; rw [if_neg (by rw [hb]; decide)]; rw [if_neg (by rw [hb]; decide)]; rw [if_neg (by rw [hb]; decide)]; rw [if_pos hb]
  rw [hp]
  clear hb hp
  subst hb1
  have HR0 : Hid (LnS w (V.alloc (.cells #[.string ⟨#[114, 97, 116, 101]⟩, .int .i64 b2] 149 (0, 0))) g lp lt σ W (L ++ K)) := h.after ((Below.refl _ _).alloc (Nat.le_refl _) _)
  have HT : Hid (TAt gt pre post T t L) := hT
  clear h hT
  obtain ⟨n, hn⟩ : ∃ n, pre.length = n := ⟨_, rfl⟩
  have HN : Hid (pre.length = n) := hn
  rw [hn]
  clear hn
  go_enter Tryz.func83, Tryz.ntmps83
  go_upto_region 19 with fail
  refine wp_letter (fun X => LnS w X g lp lt σ W (L ++ K)) (by exact HR0.out) ?_
  intro V0 hR
  have HR : Hid (LnS w V0 g lp lt σ W (L ++ K)) := hR
  clear HR0 hR
  have bd1 := nv_le σ 4294967295
  obtain ⟨x1, hx1⟩ : ∃ x, nv (val n32 σ) = x := ⟨_, rfl⟩
  have HE1 : Hid (nv (val n32 σ) = x1) := hx1
  rw [show nv (val (fun s => num s 4294967295) σ) = x1 from hx1] at bd1
  obtain ⟨bl1, bh1⟩ := bd1
  have CU := upTo_ln HR.out 4294967295
  go_wp2_with fail
  refine CU.mono ?_
  rintro e VU1 ⟨bu, rfl, hRU⟩
  have C : Calls Tryz.prog 73 _ VU1 (VP w (vnx n32 σ) fun e V' => e = .returned (.int .u32 (nv (val n32 σ))) ∧ LnS w V' g lp lt (vnx n32 σ) W ((bu, .cells #[.int .u32 4294967295] 23 (0, 0)) :: (L ++ K))) := value_num hRU (m := 4294967295) (by omega) (List.mem_cons_self ..)
  rw [hx1] at C
  clear CU hRU HR hx1
  go_wp2_with fail
  refine C.mono ?_
  rintro e V1 (⟨hbz1, rfl, hRU⟩ | ⟨a, hb, g', rfl, hM⟩)
  rotate_left
  · exact ⟨rfl, Or.inr ⟨a, vnx_bad hb, g', rfl, hM⟩⟩
  have hR := hRU.drop1
  obtain ⟨A1, R1, rfl, hlt1, hT1⟩ := tat_rate HT.out x1
  rw [HN.out] at hlt1 hT1
  obtain ⟨v0, cc1⟩ : ∃ v0, V1.cell? ⟨gt, n + 31, none⟩ = some v0 := ⟨_, (hR.cellK (i := 0) rfl (n + 31)).trans (Array.getElem?_eq_getElem hlt1)⟩
  have fr1 : ∀ j, V1.frozen? ⟨gt, j, none⟩ = false := hR.freeK (i := 0) rfl
  have hR2 := hR.set (i := 0) rfl (n + 31) (.int .u32 x1)
  obtain ⟨L1, hL1⟩ : ∃ L', (gt, Obj.cells (A1.setIfInBounds (n + 31) (.int .u32 x1)) T (0, 0)) :: R1 = L' := ⟨_, rfl⟩
  rw [hL1] at hT1
  have HNx : Hid (LnS w (V1.setCell ⟨gt, n + 31, none⟩ (.int .u32 x1)) g lp lt (vnx n32 σ) W (L1 ++ K)) := by rw [← hL1]; exact hR2
  have HT' : Hid (TAt gt pre post T { t with rate := x1 } L1) := hT1
  clear HT hT1 hL1 hR2 hR hRU C hlt1
  have HT := HT'
  clear HT'
  go_upto_region 20 with fail
  refine wp_letter (fun X => LnS w X g lp lt (vnx n32 σ) W (L1 ++ K)) (by exact HNx.out) ?_
  intro V1b hR
  have HR : Hid (LnS w V1b g lp lt (vnx n32 σ) W (L1 ++ K)) := hR
  clear hR HNx cc1 fr1
  have bd2 := nv_le (vnx n32 σ) 4294967295
  obtain ⟨x2, hx2⟩ : ∃ x, nv (val n32 (vnx n32 σ)) = x := ⟨_, rfl⟩
  have HE2 : Hid (nv (val n32 (vnx n32 σ)) = x2) := hx2
  rw [show nv (val (fun s => num s 4294967295) (vnx n32 σ)) = x2 from hx2] at bd2
  obtain ⟨bl2, bh2⟩ := bd2
  have CU := upTo_ln HR.out 4294967295
  go_wp2_with fail
  refine CU.mono ?_
  rintro e VU2 ⟨bu, rfl, hRU⟩
  have C : Calls Tryz.prog 73 _ VU2 (VP w (two2 n32 σ) fun e V' => e = .returned (.int .u32 (nv (val n32 (vnx n32 σ)))) ∧ LnS w V' g lp lt (two2 n32 σ) W ((bu, .cells #[.int .u32 4294967295] 23 (0, 0)) :: (L1 ++ K))) := value_num hRU (m := 4294967295) (by omega) (List.mem_cons_self ..)
  rw [hx2] at C
  clear CU hRU HR hx2
  go_wp2_with fail
  refine C.mono ?_
  rintro e V2 (⟨hbz2, rfl, hRU⟩ | ⟨a, hb, g', rfl, hM⟩)
  rotate_left
  · exact ⟨rfl, Or.inr ⟨a, id hb, g', rfl, hM⟩⟩
  have hR := hRU.drop1
  obtain ⟨A2, R2, rfl, hlt2, hT2⟩ := tat_burst HT.out x2
  rw [HN.out] at hlt2 hT2
  obtain ⟨v0, cc2⟩ : ∃ v0, V2.cell? ⟨gt, n + 32, none⟩ = some v0 := ⟨_, (hR.cellK (i := 0) rfl (n + 32)).trans (Array.getElem?_eq_getElem hlt2)⟩
  have fr2 : ∀ j, V2.frozen? ⟨gt, j, none⟩ = false := hR.freeK (i := 0) rfl
  have hR2 := hR.set (i := 0) rfl (n + 32) (.int .u32 x2)
  obtain ⟨L2, hL2⟩ : ∃ L', (gt, Obj.cells (A2.setIfInBounds (n + 32) (.int .u32 x2)) T (0, 0)) :: R2 = L' := ⟨_, rfl⟩
  rw [hL2] at hT2
  have HNx : Hid (LnS w (V2.setCell ⟨gt, n + 32, none⟩ (.int .u32 x2)) g lp lt (two2 n32 σ) W (L2 ++ K)) := by rw [← hL2]; exact hR2
  have HT' : Hid (TAt gt pre post T { { t with rate := x1 } with burst := x2 } L2) := hT2
  clear HT hT2 hL2 hR2 hR hRU C hlt2
  have HT := HT'
  clear HT'
  have HB : Hid ((two2 n32 σ).bad = none) := hbz2
  clear hbz1 hbz2
  go_wp2_with fail
  go_end0
  exact Or.inl ⟨HB.out, rfl, L2, by rw [HE1.out, HE2.out]; exact HT.out, HNx.out⟩
end Go.Proofs.YtneciccdiledfaaGreatDoor

namespace Go.Proofs.YtneciccdiledfaaGreatDoor
open Go.RowKit
open La
set_option linter.unusedVariables false
set_option linter.unusedSimpArgs false
set_option maxRecDepth 20000

/-- Settings in box gc; L: all their blocks. -/
def CfI (gc : Nat) (c : Cgf) (L : List (Nat × Obj)) : Prop := CLen c ∧ ((c.ten = [] ∧ L = [(gc, .cells (cc c nilV).toArray 29 (0, 0))]) ∨
  ∃ (zs : List Tv) (t : Ten) (gt cap : Nat) (post : List Value) (C0 L1 : List (Nat × Obj)), c.ten = zs.map Prod.fst ++ [t] ∧ (∀ z ∈ zs, ZB z C0) ∧ TAt gt (zs.map zc).flatten post 45 t L1 ∧ zs.length + 1 ≤ cap ∧ cap ≤ maxLen ∧ (zs.length + 1) * 33 + post.length = cap * 33 ∧
    L = (gc, .cells (cc c (.slice (some ⟨gt, 0, none⟩) (zs.length + 1) cap)).toArray 29 (0, 0)) :: (L1 ++ C0))
theorem zcs_len {zs : List Tv} {C : List (Nat × Obj)} (h : ∀ z ∈ zs, ZB z C) : (zs.map zc).flatten.length = zs.length * 33 := by
  induction zs with
  | nil => rfl
  | cons z zs ih =>
    rw [List.map_cons, List.flatten_cons, List.length_append, ih (fun z hz => h z (List.mem_cons_of_mem _ hz)), List.length_cons, Nat.succ_mul]
    have : (zc z).length = 33 := tc_len (h z (List.mem_cons_self ..)).1 _ _ _
    omega
theorem ZB.of {t : Ten} {p s q : Value} {B1 B2 B3 : List (Nat × Obj)} (hl : TLen t) (k1 : OwB 23 1 p t.pool.length (ux t.pool).flatten B1) (k2 : OwB 96 2 s t.stat.length (px t.stat).flatten B2) (k3 : OwB 96 2 q t.twi.length (px t.twi).flatten B3) : ZB (t, p, s, q) (B1 ++ (B2 ++ B3)) :=
  ⟨hl, B1, B2, B3, fun x hx => by simp only [List.mem_append] at hx ⊢; rcases hx with h | h | h <;> simp [h], k1, k2, k3⟩
theorem owb_mk {T : TypeId} {sz n cap g : Nat} {X Y : List Value} (h1 : X.length = n * sz) (h2 : n ≤ cap) (h3 : cap ≤ maxLen) (h4 : X.length + Y.length = cap * sz) : OwB T sz (.slice (some ⟨g, 0, none⟩) n cap) n X [(g, .cells (X ++ Y).toArray T (0, 0))] := by
  refine ⟨h1, Or.inr ⟨g, cap, _, rfl, rfl, h2, h3, ?_, ?_⟩⟩
  · rw [List.size_toArray, List.length_append]; exact h4
  · show (X ++ Y).take (n * sz) = X
    rw [← h1]; exact List.take_left' rfl
theorem owb_un {T : TypeId} {sz n : Nat} {v : Value} {X : List Value} {B : List (Nat × Obj)} (h : OwB T sz v n X B) (h0 : 0 < n) : ∃ g cap Y, v = .slice (some ⟨g, 0, none⟩) n cap ∧ B = [(g, .cells (X ++ Y).toArray T (0, 0))] ∧ n ≤ cap ∧ cap ≤ maxLen ∧ X.length + Y.length = cap * sz := by
  obtain ⟨h1, ⟨-, e, -⟩ | ⟨g, cap, cur, rfl, rfl, h2, h3, h4, h5⟩⟩ := h
  · omega
  · have e : X ++ cur.toList.drop (n * sz) = cur.toList := by
      conv => lhs; lhs; rw [← h5]
      exact List.take_append_drop _ _
    refine ⟨g, cap, cur.toList.drop (n * sz), rfl, ?_, h2, h3, ?_⟩
    · rw [e]
    · rw [← List.length_append, e, Array.length_toList]; exact h4
theorem perm3 {α : Type} (a : α) (A B C : List α) (x : α) : (a :: ((x :: A) ++ C)).Perm (a :: ([x] ++ (A ++ C))) := by simp
theorem cfi_tsb {gc : Nat} {c : Cgf} {L : List (Nat × Obj)} (h : CfI gc c L) : ∃ (u : Value) (zs : List Tv) (B C : List (Nat × Obj)), zs.map Prod.fst = c.ten ∧ OwB 45 33 u zs.length (zs.map zc).flatten B ∧ (∀ z ∈ zs, ZB z C) ∧ L.Perm ((gc, .cells (cc c u).toArray 29 (0, 0)) :: (B ++ C)) := by
  obtain ⟨hl, hh⟩ := h
  rcases hh with ⟨e, rfl⟩ | ⟨zs, t, gt, cap, post, C0, L1, e, hz, hT, hc1, hc2, hc3, rfl⟩
  · exact ⟨nilV, [], [], [], by rw [e]; rfl, OwB.nil _ _, by simp, List.Perm.refl _⟩
  · obtain ⟨htl, p, s, q, B1, B2, B3, k1, k2, k3, rfl⟩ := hT
    have hlen := zcs_len hz
    have htc : (tc t p s q).length = 33 := tc_len htl _ _ _
    have ef : ((zs ++ [(t, p, s, q)]).map zc).flatten = (zs.map zc).flatten ++ tc t p s q := by
      rw [List.map_append, List.flatten_append]; simp [zc]
    have hx := owb_mk (T := 45) (sz := 33) (n := zs.length + 1) (cap := cap) (g := gt) (X := (zs.map zc).flatten ++ tc t p s q) (Y := post) (by rw [List.length_append, hlen, htc]; omega) hc1 hc2 (by rw [List.length_append, hlen, htc]; omega)
    rw [List.append_assoc] at hx
    refine ⟨.slice (some ⟨gt, 0, none⟩) (zs.length + 1) cap, zs ++ [(t, p, s, q)], [(gt, .cells ((zs.map zc).flatten ++ (tc t p s q ++ post)).toArray 45 (0, 0))], (B1 ++ (B2 ++ B3)) ++ C0, by rw [List.map_append, e]; rfl, ?_, ?_, ?_⟩
    · rw [ef, List.length_append]; exact hx
    · intro z hz'
      rcases List.mem_append.1 hz' with hz' | hz'
      · exact (hz z hz').more (fun x hx => List.mem_append_right _ hx)
      · rw [List.mem_singleton] at hz'; subst hz'
        exact (ZB.of htl k1 k2 k3).more (fun x hx => List.mem_append_left _ hx)
    · exact perm3 _ _ [] _ _
theorem tsb_cfi {gc : Nat} {c : Cgf} {t : Ten} {u : Value} {zs : List Tv} {B C : List (Nat × Obj)} (hl : CLen c) (ht : TLen t) (hp : t.pool = [] ∧ t.stat = [] ∧ t.twi = []) (e : zs.map Prod.fst = c.ten) (hz : ∀ z ∈ zs, ZB z C) (hB : OwB 45 33 u (zs.length + 1) ((zs.map zc).flatten ++ tc t nilV nilV nilV) B) :
    CfI gc { c with ten := c.ten ++ [t] } ((gc, .cells (cc c u).toArray 29 (0, 0)) :: (B ++ C)) := by
  obtain ⟨g, cap, Y, rfl, rfl, h2, h3, h4⟩ := owb_un hB (by omega)
  have hlen := zcs_len hz
  have htc : (tc t nilV nilV nilV).length = 33 := tc_len ht _ _ _
  refine ⟨⟨hl.mac, hl.omac, hl.nmac, hl.key⟩, Or.inr ⟨zs, t, g, cap, Y, C, [(g, .cells ((zs.map zc).flatten ++ (tc t nilV nilV nilV ++ Y)).toArray 45 (0, 0))], by rw [e], hz, ⟨ht, nilV, nilV, nilV, [], [], [], by rw [hp.1]; exact OwB.nil _ _, by rw [hp.2.1]; exact OwB.nil _ _, by rw [hp.2.2]; exact OwB.nil _ _, rfl⟩, h2, h3, ?_, ?_⟩⟩
  · rw [List.length_append, hlen, htc] at h4; omega
  · rw [List.append_assoc]; rfl
end Go.Proofs.YtneciccdiledfaaGreatDoor

