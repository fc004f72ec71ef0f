/-
  What settings, a change, a list of tenants that come in are.
  Settings as text: a tenant's lines in any order; a text cut into its lines.
  Settings as bytes: the document's own OpenChange.
  Settings as bytes: the document's own Config and Change, at all settings and changes.
-/
import Derived.Test.YtneciccdiledfaaGreatDoorMo21
import Derived.Test.YtneciccdiledfaaGreatDoorMo30
import Derived.Test.YtneciccdiledfaaGreatDoorMo23
import Derived.Test.YtneciccdiledfaaGreatDoorMo28
namespace Go.Proofs.YtneciccdiledfaaGreatDoor
open Go.ChangeShapes Go.WideShapes Go.ChangeAt Go.RowKit Go.Joins
open Sm
open Cf
set_option linter.unusedVariables false
set_option maxRecDepth 100000

/-- A tenant's arrays are bytes. -/
structure TBy (t : Ten) : Prop where
  key : IsBytes t.key
  vmac : IsBytes t.vmac
  host : IsBytes t.host
/-- A tenant's numbers are as great as they may be. -/
structure TRg (t : Ten) : Prop where
  vni : 0 ≤ t.vni ∧ t.vni ≤ 4294967295
  vtep : 0 ≤ t.vtep ∧ t.vtep ≤ 4294967295
  lo : 0 ≤ t.lo ∧ t.lo ≤ 65535
  hi : 0 ≤ t.hi ∧ t.hi ≤ 65535
  filter : -9223372036854775808 ≤ t.filter ∧ t.filter ≤ 9223372036854775807
  sess : -9223372036854775808 ≤ t.sess ∧ t.sess ≤ 9223372036854775807
  queue : -9223372036854775808 ≤ t.queue ∧ t.queue ≤ 9223372036854775807
  rate : 0 ≤ t.rate ∧ t.rate ≤ 4294967295
  burst : 0 ≤ t.burst ∧ t.burst ≤ 4294967295
  pool : ∀ x ∈ t.pool, 0 ≤ x ∧ x ≤ 4294967295
  stat : ∀ x ∈ t.stat, (0 ≤ x.1 ∧ x.1 ≤ 4294967295) ∧ 0 ≤ x.2 ∧ x.2 ≤ 4294967295
  twi : ∀ x ∈ t.twi, (0 ≤ x.1 ∧ x.1 ≤ 4294967295) ∧ 0 ≤ x.2 ∧ x.2 ≤ 4294967295
section
variable {H : Type} {enc : TypeId × Value → H} {W : World} {base : Nat} {held : Bool}
/-- The numbers of settings. -/
structure CRg (c : Cgf) : Prop where
  ip : 0 ≤ c.ip ∧ c.ip ≤ 4294967295
  drain : 0 ≤ c.drain ∧ c.drain ≤ 4294967295
end
end Go.Proofs.YtneciccdiledfaaGreatDoor

namespace Go.Proofs.YtneciccdiledfaaGreatDoor
open Go.RowKit
open Ad
open Sm (IsBytes)
set_option linter.unusedVariables false
set_option linter.unusedSimpArgs false
set_option maxRecDepth 20000
namespace La
/-- A line of a tenant's behind its first. -/
inductive Pt where
  | pool (l : List Int)
  | ports (a b : Int)
  | filter (a : Int)
  | stat (a b : Int)
  | twi (a b : Int)
  | quota (a b : Int)
  | rate (a b : Int)
def Pt.ws : Pt → List (List UInt8)
  | .pool l => wPool :: l.map ipx
  | .ports a b => [wPorts, dec a, dec b]
  | .filter a => [wFilter, fw a]
  | .stat a b => [wStatic, ipx a, ipx b]
  | .twi a b => [wTwice, ipx a, ipx b]
  | .quota a b => [wQuota, dec a, dec b]
  | .rate a b => [wRate, dec a, dec b]
def Pt.app (t : Ten) : Pt → Ten
  | .pool l => { t with pool := t.pool ++ l }
  | .ports a b => { t with lo := a, hi := b }
  | .filter a => { t with filter := a }
  | .stat a b => { t with stat := t.stat ++ [(a, b)] }
  | .twi a b => { t with twi := t.twi ++ [(a, b)] }
  | .quota a b => { t with sess := a, queue := b }
  | .rate a b => { t with rate := a, burst := b }
def Pt.Ok : Pt → Prop
  | .pool l => l ≠ [] ∧ ∀ x ∈ l, R32 x
  | .ports a b => (0 ≤ a ∧ a ≤ 65535) ∧ 0 ≤ b ∧ b ≤ 65535
  | .filter a => 0 ≤ a ∧ a ≤ 2
  | .stat a b => R32 a ∧ R32 b
  | .twi a b => R32 a ∧ R32 b
  | .quota a b => (0 ≤ a ∧ a ≤ 65535) ∧ 0 ≤ b ∧ b ≤ 65535
  | .rate a b => R32 a ∧ R32 b
def Pt.pools : Pt → List Int
  | .pool l => l
  | _ => []
def Pt.stats : Pt → List (Int × Int)
  | .stat a b => [(a, b)]
  | _ => []
def Pt.twis : Pt → List (Int × Int)
  | .twi a b => [(a, b)]
  | _ => []
theorem toNats {l : List Int} (h : ∀ x ∈ l, R32 x) : ((l.map Int.toNat).map fun (n : Nat) => (n : Int)) = l := by
  rw [List.map_map]
  conv => rhs; rw [← List.map_id l]
  apply List.map_congr_left
  intro x hx
  exact toNat_eq (h x hx).1
theorem takes_pt (c : Cgf) (t : Ten) {p : Pt} (h : p.Ok) : Takes (some (cput c t)) p.ws (cput c (p.app t)) := by
  cases p with
  | pool l =>
    have := takes_pool (c := cput c t) (xs := l.map ipx) (l := l.map Int.toNat) (cput_last _ _) (by
      simp only [List.map_map]
      apply List.map_congr_left
      intro x hx
      exact ipx_ip (h.2 x hx))
    rw [cput_set, toNats h.2] at this
    exact this
  | ports a b => exact takes_lo c t h.1 h.2
  | filter a => exact takes_fl c t h
  | stat a b =>
    have := takes_static (c := cput c t) (cput_last _ _) (ipx_ip h.1) (ipx_ip h.2)
    rw [cput_set, toNat_eq h.1.1, toNat_eq h.2.1] at this
    exact this
  | twi a b =>
    have := takes_twice (c := cput c t) (cput_last _ _) (ipx_ip h.1) (ipx_ip h.2)
    rw [cput_set, toNat_eq h.1.1, toNat_eq h.2.1] at this
    exact this
  | quota a b => exact takes_qu c t h.1 h.2
  | rate a b => exact takes_ra c t h.1 h.2
theorem reads_pts (c : Cgf) : ∀ (l : List Pt) (t : Ten), (∀ p ∈ l, p.Ok) → Reads (some (cput c t)) (l.map Pt.ws) (some (cput c (l.foldl Pt.app t)))
  | [], t, _ => .nil _
  | p :: l, t, h => .cons (takes_pt c t (h p (by simp))) (reads_pts c l (p.app t) (fun q hq => h q (by simp [hq])))
/-- A tenant's lines. -/
def ptsOf (t : Ten) : List Pt := (if t.pool = [] then [] else [.pool t.pool]) ++ (.ports t.lo t.hi :: .filter t.filter :: (t.stat.map (fun p => .stat p.1 p.2) ++ (t.twi.map (fun p => .twi p.1 p.2) ++ [.quota t.sess t.queue, .rate t.rate t.burst])))
theorem ptsOf_ws (t : Ten) : (ptsOf t).map Pt.ws = txtR t := by
  unfold ptsOf txtR txtP txtS
  split <;> simp [Pt.ws, Function.comp_def]
theorem ptsOf_ok {t : Ten} (h : TFit t) : ∀ p ∈ ptsOf t, p.Ok := by
  intro p hp
  unfold ptsOf at hp
  rcases List.mem_append.1 hp with hp | hp
  · split at hp
    · simp at hp
    · rename_i hne
      rw [List.mem_singleton] at hp
      subst hp
      exact ⟨hne, h.pool⟩
  · simp only [List.mem_cons, List.mem_append, List.mem_map, List.not_mem_nil, or_false] at hp
    rcases hp with rfl | rfl | ⟨q, hq, rfl⟩ | ⟨q, hq, rfl⟩ | rfl | rfl
    · exact ⟨h.lo, h.hi⟩
    · exact h.filter
    · exact h.stat q hq
    · exact h.twi q hq
    · exact ⟨h.sess, h.queue⟩
    · exact ⟨h.rate, h.burst⟩
theorem fold_head (l : List Pt) : ∀ t : Ten, (l.foldl Pt.app t).name = t.name ∧ (l.foldl Pt.app t).vni = t.vni ∧ (l.foldl Pt.app t).key = t.key ∧ (l.foldl Pt.app t).vtep = t.vtep ∧ (l.foldl Pt.app t).vmac = t.vmac ∧ (l.foldl Pt.app t).host = t.host := by
  induction l with
  | nil => intro t; exact ⟨rfl, rfl, rfl, rfl, rfl, rfl⟩
  | cons p l ih =>
    intro t
    have := ih (p.app t)
    cases p <;> exact this
theorem fold_pool (l : List Pt) : ∀ t : Ten, (l.foldl Pt.app t).pool = t.pool ++ l.flatMap Pt.pools := by
  induction l with
  | nil => intro t; simp
  | cons p l ih =>
    intro t
    rw [List.foldl_cons, ih, List.flatMap_cons]
    cases p <;> simp [Pt.app, Pt.pools]
theorem fold_stat (l : List Pt) : ∀ t : Ten, (l.foldl Pt.app t).stat = t.stat ++ l.flatMap Pt.stats := by
  induction l with
  | nil => intro t; simp
  | cons p l ih =>
    intro t
    rw [List.foldl_cons, ih, List.flatMap_cons]
    cases p <;> simp [Pt.app, Pt.stats]
theorem fold_twi (l : List Pt) : ∀ t : Ten, (l.foldl Pt.app t).twi = t.twi ++ l.flatMap Pt.twis := by
  induction l with
  | nil => intro t; simp
  | cons p l ih =>
    intro t
    rw [List.foldl_cons, ih, List.flatMap_cons]
    cases p <;> simp [Pt.app, Pt.twis]
theorem fold_ports {x y : Int} (l : List Pt) : ∀ t : Ten, (∀ a b, Pt.ports a b ∈ l → a = x ∧ b = y) → ((∃ a b, Pt.ports a b ∈ l) ∨ (t.lo = x ∧ t.hi = y)) → (l.foldl Pt.app t).lo = x ∧ (l.foldl Pt.app t).hi = y := by
  induction l with
  | nil =>
    intro t _ h
    rcases h with ⟨a, b, h⟩ | h
    · simp at h
    · exact h
  | cons p l ih =>
    intro t h1 h2
    rw [List.foldl_cons]
    refine ih _ (fun a b h => h1 a b (List.mem_cons_of_mem _ h)) ?_
    cases p with
    | ports a b => exact Or.inr (h1 a b (List.mem_cons_self ..))
    | _ =>
      rcases h2 with ⟨a, b, h⟩ | h
      · rcases List.mem_cons.1 h with e | e
        · cases e
        · exact Or.inl ⟨a, b, e⟩
      · exact Or.inr h
theorem fold_quota {x y : Int} (l : List Pt) : ∀ t : Ten, (∀ a b, Pt.quota a b ∈ l → a = x ∧ b = y) → ((∃ a b, Pt.quota a b ∈ l) ∨ (t.sess = x ∧ t.queue = y)) → (l.foldl Pt.app t).sess = x ∧ (l.foldl Pt.app t).queue = y := by
  induction l with
  | nil =>
    intro t _ h
    rcases h with ⟨a, b, h⟩ | h
    · simp at h
    · exact h
  | cons p l ih =>
    intro t h1 h2
    rw [List.foldl_cons]
    refine ih _ (fun a b h => h1 a b (List.mem_cons_of_mem _ h)) ?_
    cases p with
    | quota a b => exact Or.inr (h1 a b (List.mem_cons_self ..))
    | _ =>
      rcases h2 with ⟨a, b, h⟩ | h
      · rcases List.mem_cons.1 h with e | e
        · cases e
        · exact Or.inl ⟨a, b, e⟩
      · exact Or.inr h
theorem fold_rate {x y : Int} (l : List Pt) : ∀ t : Ten, (∀ a b, Pt.rate a b ∈ l → a = x ∧ b = y) → ((∃ a b, Pt.rate a b ∈ l) ∨ (t.rate = x ∧ t.burst = y)) → (l.foldl Pt.app t).rate = x ∧ (l.foldl Pt.app t).burst = y := by
  induction l with
  | nil =>
    intro t _ h
    rcases h with ⟨a, b, h⟩ | h
    · simp at h
    · exact h
  | cons p l ih =>
    intro t h1 h2
    rw [List.foldl_cons]
    refine ih _ (fun a b h => h1 a b (List.mem_cons_of_mem _ h)) ?_
    cases p with
    | rate a b => exact Or.inr (h1 a b (List.mem_cons_self ..))
    | _ =>
      rcases h2 with ⟨a, b, h⟩ | h
      · rcases List.mem_cons.1 h with e | e
        · cases e
        · exact Or.inl ⟨a, b, e⟩
      · exact Or.inr h
theorem fold_filter {x : Int} (l : List Pt) : ∀ t : Ten, (∀ a, Pt.filter a ∈ l → a = x) → ((∃ a, Pt.filter a ∈ l) ∨ t.filter = x) → (l.foldl Pt.app t).filter = x := by
  induction l with
  | nil =>
    intro t _ h
    rcases h with ⟨a, h⟩ | h
    · simp at h
    · exact h
  | cons p l ih =>
    intro t h1 h2
    rw [List.foldl_cons]
    refine ih _ (fun a h => h1 a (List.mem_cons_of_mem _ h)) ?_
    cases p with
    | filter a => exact Or.inr (h1 a (List.mem_cons_self ..))
    | _ =>
      rcases h2 with ⟨a, h⟩ | h
      · rcases List.mem_cons.1 h with e | e
        · cases e
        · exact Or.inl ⟨a, e⟩
      · exact Or.inr h
theorem flat_nil {α : Type} (f : Pt → List α) (l : List Pt) (h : l.countP (fun p => !(f p).isEmpty) = 0) : l.flatMap f = [] := by
  rw [List.countP_eq_zero] at h
  rw [List.flatMap_eq_nil_iff]
  intro x hx
  have := h x hx
  simpa using this
theorem flat_rot {α : Type} (f : Pt → List α) (A B : List Pt) (h : (A ++ B).countP (fun p => !(f p).isEmpty) ≤ 1) : (B ++ A).flatMap f = (A ++ B).flatMap f := by
  rw [List.countP_append] at h
  rw [List.flatMap_append, List.flatMap_append]
  have : A.countP (fun p => !(f p).isEmpty) = 0 ∨ B.countP (fun p => !(f p).isEmpty) = 0 := by omega
  rcases this with h | h
  · rw [flat_nil f A h]; simp
  · rw [flat_nil f B h]; simp
theorem pools_one (t : Ten) : (ptsOf t).countP (fun p => !(Pt.pools p).isEmpty) ≤ 1 := by
  unfold ptsOf
  split <;> simp [List.countP_append, List.countP_cons, List.countP_map, Function.comp_def, Pt.pools]
  split <;> omega
theorem stats_one (t : Ten) (h : t.stat.length ≤ 1) : (ptsOf t).countP (fun p => !(Pt.stats p).isEmpty) ≤ 1 := by
  unfold ptsOf
  split <;> simp [List.countP_append, List.countP_cons, List.countP_map, Function.comp_def, Pt.stats] <;> exact h
theorem pools_of (t : Ten) : (ptsOf t).flatMap Pt.pools = t.pool := by
  unfold ptsOf
  split
  · rename_i h
    simp [List.flatMap_append, List.flatMap_cons, List.flatMap_map, Pt.pools, h]
  · simp [List.flatMap_append, List.flatMap_cons, List.flatMap_map, Pt.pools]
theorem stats_of (t : Ten) : (ptsOf t).flatMap Pt.stats = t.stat := by
  unfold ptsOf
  split <;> simp [List.flatMap_append, List.flatMap_cons, List.flatMap_map, Pt.stats]
theorem ptsOf_mem (t : Ten) : (∀ a b, Pt.ports a b ∈ ptsOf t ↔ a = t.lo ∧ b = t.hi) ∧ (∀ a, Pt.filter a ∈ ptsOf t ↔ a = t.filter) ∧ (∀ a b, Pt.quota a b ∈ ptsOf t ↔ a = t.sess ∧ b = t.queue) ∧ (∀ a b, Pt.rate a b ∈ ptsOf t ↔ a = t.rate ∧ b = t.burst) := by
  unfold ptsOf
  split <;> simp
theorem fold_rot {t : Ten} (hs : t.stat.length ≤ 1) (A B : List Pt) (e : ptsOf t = A ++ B) (t0 : Ten) (h0 : t0.name = t.name ∧ t0.vni = t.vni ∧ t0.key = t.key ∧ t0.vtep = t.vtep ∧ t0.vmac = t.vmac ∧ t0.host = t.host) (h1 : t0.pool = [] ∧ t0.stat = [] ∧ t0.twi = []) : (B ++ A).foldl Pt.app t0 = { t with twi := (B ++ A).flatMap Pt.twis } := by
  have hm : ∀ p, p ∈ B ++ A ↔ p ∈ ptsOf t := by
    intro p; rw [e]; simp only [List.mem_append]; exact Or.comm
  obtain ⟨m1, m2, m3, m4⟩ := ptsOf_mem t
  have f0 := fold_head (B ++ A) t0
  have f1 := fold_pool (B ++ A) t0
  have f2 := fold_stat (B ++ A) t0
  have f3 := fold_twi (B ++ A) t0
  have f4 := fold_ports (x := t.lo) (y := t.hi) (B ++ A) t0 (fun a b h => (m1 a b).1 ((hm _).1 h)) (Or.inl ⟨t.lo, t.hi, (hm _).2 ((m1 _ _).2 ⟨rfl, rfl⟩)⟩)
  have f5 := fold_filter (x := t.filter) (B ++ A) t0 (fun a h => (m2 a).1 ((hm _).1 h)) (Or.inl ⟨t.filter, (hm _).2 ((m2 _).2 rfl)⟩)
  have f6 := fold_quota (x := t.sess) (y := t.queue) (B ++ A) t0 (fun a b h => (m3 a b).1 ((hm _).1 h)) (Or.inl ⟨t.sess, t.queue, (hm _).2 ((m3 _ _).2 ⟨rfl, rfl⟩)⟩)
  have f7 := fold_rate (x := t.rate) (y := t.burst) (B ++ A) t0 (fun a b h => (m4 a b).1 ((hm _).1 h)) (Or.inl ⟨t.rate, t.burst, (hm _).2 ((m4 _ _).2 ⟨rfl, rfl⟩)⟩)
  rw [flat_rot Pt.pools A B (by rw [← e]; exact pools_one t), ← e, pools_of, h1.1, List.nil_append] at f1
  rw [flat_rot Pt.stats A B (by rw [← e]; exact stats_one t hs), ← e, stats_of, h1.2.1, List.nil_append] at f2
  rw [h1.2.2, List.nil_append] at f3
  obtain ⟨q1, q2, q3, q4, q5, q6⟩ := h0
  rw [q1, q2, q3, q4, q5, q6] at f0
  generalize (B ++ A).foldl Pt.app t0 = r at *
  generalize (B ++ A).flatMap Pt.twis = tw at *
  obtain ⟨r1, r2, r3, r4, r5, r6, r7, r8, r9, r10, r11, r12, r13, r14, r15, r16⟩ := r
  simp only at f0 f1 f2 f3 f4 f5 f6 f7
  obtain ⟨rfl, rfl, rfl, rfl, rfl, rfl⟩ := f0
  obtain ⟨rfl, rfl⟩ := f4
  obtain ⟨rfl, rfl⟩ := f6
  obtain ⟨rfl, rfl⟩ := f7
  rw [f1, f2, f3, f5]
/-- Lines that count no more, as others follow. -/
def preP : Bool → List Pt
  | true => [.ports 1 2, .filter 2, .quota 9 9, .rate 8 8]
  | false => []
theorem preP_ok (b : Bool) : ∀ p ∈ preP b, p.Ok := by
  intro p hp
  cases b
  · simp [preP] at hp
  · simp only [preP, List.mem_cons, List.not_mem_nil, or_false] at hp
    rcases hp with rfl | rfl | rfl | rfl
    · exact ⟨by omega, by omega⟩
    · exact ⟨by omega, by omega⟩
    · exact ⟨by omega, by omega⟩
    · exact ⟨⟨by omega, by omega⟩, by omega, by omega⟩
theorem pt_free {p : Pt} (h : p.Ok) : LFree p.ws := by
  have F : ∀ x : List UInt8, x ≠ [] → (∀ b ∈ x, b ≠ 10 ∧ b ≠ 32 ∧ b ≠ 35) → Free x := fun x a b => ⟨a, b⟩
  have two : ∀ b x y : List UInt8, Free b → Free x → Free y → LFree [b, x, y] := by
    intro b x y h1 h2 h3
    refine ⟨by simp, fun z hz => ?_⟩
    simp only [List.mem_cons, List.not_mem_nil, or_false] at hz
    rcases hz with rfl | rfl | rfl <;> assumption
  cases p with
  | pool l =>
    refine ⟨by simp [Pt.ws], fun z hz => ?_⟩
    rcases List.mem_cons.1 hz with rfl | hz
    · exact F _ (by decide) (by decide)
    · obtain ⟨x, -, rfl⟩ := List.mem_map.1 hz
      exact free_ipx _
  | ports a b => exact two _ _ _ (F _ (by decide) (by decide)) (free_dec _) (free_dec _)
  | filter a =>
    refine ⟨by simp [Pt.ws], fun z hz => ?_⟩
    simp only [Pt.ws, List.mem_cons, List.not_mem_nil, or_false] at hz
    rcases hz with rfl | rfl
    · exact F _ (by decide) (by decide)
    · exact free_fw _
  | stat a b => exact two _ _ _ (F _ (by decide) (by decide)) (free_ipx _) (free_ipx _)
  | twi a b => exact two _ _ _ (F _ (by decide) (by decide)) (free_ipx _) (free_ipx _)
  | quota a b => exact two _ _ _ (F _ (by decide) (by decide)) (free_dec _) (free_dec _)
  | rate a b => exact two _ _ _ (F _ (by decide) (by decide)) (free_dec _) (free_dec _)
theorem parse_rot {c : Cgf} {t : Ten} (hc : CFit c) (ht : c.ten = [t]) (hs : t.stat.length ≤ 1) (A B : List Pt) (e : ptsOf t = A ++ B) (tw : Bool) {o : List UInt8} (ho : o = (txtG c :: txtH t :: ((preP tw ++ (B ++ A)).map Pt.ws)).flatMap spc) (hl : o.length ≤ 32768) :
    parse ⟨o.toArray⟩ = .ok { c with ten := [{ t with twi := (B ++ A).flatMap Pt.twis }] } := by
  have htf := hc.ten t (by rw [ht]; simp)
  have hok : ∀ p ∈ preP tw ++ (B ++ A), p.Ok := by
    intro p hp
    rcases List.mem_append.1 hp with hp | hp
    · exact preP_ok tw p hp
    · refine ptsOf_ok htf p ?_
      rw [e]; simp only [List.mem_append] at hp ⊢; exact hp.symm
  have hall := lfree_cfg hc
  refine parse_of (by show o.toArray.size ≤ _; simpa using hl) (ts := txtG c :: txtH t :: ((preP tw ++ (B ++ A)).map Pt.ws)) ?_ ?_
  · show tk o [] [] false = _
    have := tk_lines [] (txtG c :: txtH t :: ((preP tw ++ (B ++ A)).map Pt.ws)) (by
      intro l hl
      rcases List.mem_cons.1 hl with rfl | hl
      · exact hall _ (by simp [lnsOf])
      · rcases List.mem_cons.1 hl with rfl | hl
        · exact hall _ (by simp [lnsOf, ht, txtT])
        · obtain ⟨p, hp, rfl⟩ := List.mem_map.1 hl
          exact pt_free (hok p hp))
    rw [List.append_nil, tk_nil] at this
    rw [ho, this]
    simp [tend, tln]
  · have h1 := takes_gw (xs := txtG c) rfl (ipx_ip hc.ip) (mac_six hc.len.mac hc.mac) (mac_six hc.len.omac hc.omac) (mac_six hc.len.nmac hc.nmac) (key_eight hc.len.key hc.key) (dec_num (m := 4294967295) hc.drain.1 (by have := hc.drain.2; omega))
    rw [toNat_eq hc.ip.1, toNat_eq hc.drain.1] at h1
    refine .cons h1 (.cons (takes_hd _ htf) ?_)
    have h2 := reads_pts ⟨c.ip, c.mac, c.omac, c.nmac, c.key, c.drain, []⟩ (preP tw ++ (B ++ A)) (thd t) hok
    rw [List.foldl_append, fold_rot hs A B e ((preP tw).foldl Pt.app (thd t)) (by cases tw <;> exact ⟨rfl, rfl, rfl, rfl, rfl, rfl⟩) (by cases tw <;> exact ⟨rfl, rfl, rfl⟩)] at h2
    exact h2
def lcut : List UInt8 → List UInt8 → List (List UInt8)
  | [], _ => []
  | b :: r, cur => if b = 10 then (cur ++ [10]) :: lcut r [] else lcut r (cur ++ [b])
theorem lcut_feed (r cur : List UInt8) : lcut (10 :: r) cur = (cur ++ [10]) :: lcut r [] := by rw [lcut, if_pos rfl]
theorem lcut_else {b : UInt8} (r cur : List UInt8) (h : b ≠ 10) : lcut (b :: r) cur = lcut r (cur ++ [b]) := by rw [lcut, if_neg h]
theorem lcut_free (r : List UInt8) : ∀ (x cur : List UInt8), (∀ b ∈ x, b ≠ 10) → lcut (x ++ 10 :: r) cur = (cur ++ (x ++ [10])) :: lcut r []
  | [], cur, _ => by rw [List.nil_append, lcut_feed]; simp
  | b :: x, cur, h => by
    rw [List.cons_append, lcut_else _ _ (h b (by simp)), lcut_free r x (cur ++ [b]) (fun b hb => h b (by simp [hb]))]
    simp
theorem lcut_lines : ∀ (ls : List (List (List UInt8))), (∀ l ∈ ls, LFree l) → lcut (ls.flatMap spc) [] = ls.map spc
  | [], _ => by simp [lcut]
  | l :: ls, h => by
    have h1 := h l (by simp)
    rw [List.flatMap_cons, List.map_cons]
    have e : spc l ++ ls.flatMap spc = Lib.join l [32] ++ 10 :: ls.flatMap spc := by unfold spc; simp
    rw [e, lcut_free _ _ _ (join_no10 h1.2), lcut_lines ls (fun x hx => h x (by simp [hx]))]
    rfl
theorem spc_two (b x y : List UInt8) : spc [b, x, y] = b ++ (32 :: (x ++ (32 :: (y ++ [10])))) := by
  unfold spc; rw [Lib.join_cons]; simp [Lib.joinTail]
theorem spc_head (b : List UInt8) (l : List (List UInt8)) : ∃ r, spc (b :: l) = b ++ r := by
  unfold spc; rw [Lib.join_cons]; exact ⟨_, List.append_assoc _ _ _⟩
theorem join_pos : ∀ (l : List (List UInt8)), (∀ y ∈ l, Free y) → l ≠ [] → 0 < (Lib.join l [32]).length
  | [], _, h => absurd rfl h
  | x :: l, h, _ => by
    have := (h x (by simp)).1
    rw [Lib.join_cons, List.length_append]
    have := List.length_pos_iff.2 this
    omega
theorem spc_long {b : List UInt8} {x : List UInt8} {l : List (List UInt8)} (hb : 4 ≤ b.length) (h : ∀ y ∈ x :: l, Free y) : 7 ≤ (spc (b :: x :: l)).length := by
  have e : Lib.join (b :: x :: l) [32] = b ++ (32 :: Lib.join (x :: l) [32]) := by
    rw [Lib.join_cons, Lib.join_cons]; simp [Lib.joinTail]
  have := join_pos (x :: l) h (by simp)
  unfold spc
  rw [e]
  simp only [List.length_append, List.length_cons, List.length_nil]
  omega
theorem pt_long {p : Pt} (h : p.Ok) : 6 ≤ (spc p.ws).length := by
  have hf := (pt_free h).2
  cases p with
  | pool l =>
    cases l with
    | nil => exact absurd rfl h.1
    | cons x l =>
      have := spc_long (b := wPool) (x := ipx x) (l := l.map ipx) (by decide) (fun y hy => hf y (by simp only [Pt.ws, List.map_cons, List.mem_cons] at hy ⊢; exact Or.inr hy))
      simp only [Pt.ws, List.map_cons]; omega
  | ports a b => have := spc_long (b := wPorts) (x := dec a) (l := [dec b]) (by decide) (fun y hy => hf y (by simp only [Pt.ws, List.mem_cons] at hy ⊢; exact Or.inr hy)); simp only [Pt.ws]; omega
  | filter a => have := spc_long (b := wFilter) (x := fw a) (l := []) (by decide) (fun y hy => hf y (by simp only [Pt.ws, List.mem_cons] at hy ⊢; exact Or.inr hy)); simp only [Pt.ws]; omega
  | stat a b => have := spc_long (b := wStatic) (x := ipx a) (l := [ipx b]) (by decide) (fun y hy => hf y (by simp only [Pt.ws, List.mem_cons] at hy ⊢; exact Or.inr hy)); simp only [Pt.ws]; omega
  | twi a b => have := spc_long (b := wTwice) (x := ipx a) (l := [ipx b]) (by decide) (fun y hy => hf y (by simp only [Pt.ws, List.mem_cons] at hy ⊢; exact Or.inr hy)); simp only [Pt.ws]; omega
  | quota a b => have := spc_long (b := wQuota) (x := dec a) (l := [dec b]) (by decide) (fun y hy => hf y (by simp only [Pt.ws, List.mem_cons] at hy ⊢; exact Or.inr hy)); simp only [Pt.ws]; omega
  | rate a b => have := spc_long (b := wRate) (x := dec a) (l := [dec b]) (by decide) (fun y hy => hf y (by simp only [Pt.ws, List.mem_cons] at hy ⊢; exact Or.inr hy)); simp only [Pt.ws]; omega
theorem take_ne {l r b : List UInt8} {n : Nat} {x y : UInt8} (h : l.head? = some x) (hr : r.head? = some y) (hn : 0 < n) (hxy : x ≠ y) : l.take n ≠ r := by
  intro e
  have := congrArg List.head? e
  rw [hr] at this
  cases l with
  | nil => simp at h
  | cons a l =>
    cases n with
    | zero => omega
    | succ n =>
      simp at h this
      exact hxy (h.symm.trans this)
theorem pt_first (p : Pt) : ((p.stats.length = 1 ∧ (spc p.ws).take 6 = wStatic) ∨ (p.stats.length = 0 ∧ (spc p.ws).take 6 ≠ wStatic)) ∧ ((p.twis.length = 1 ∧ (spc p.ws).take 5 = wTwice) ∨ (p.twis.length = 0 ∧ (spc p.ws).take 5 ≠ wTwice)) := by
  have N : ∀ (b : List UInt8) (l : List (List UInt8)) (x y : UInt8) (r : List UInt8) (n : Nat), b.head? = some x → r.head? = some y → 0 < n → x ≠ y → (spc (b :: l)).take n ≠ r := by
    intro b l x y r n h1 h2 h3 h4
    obtain ⟨q, e⟩ := spc_head b l
    refine take_ne (b := b) (x := x) (y := y) ?_ h2 h3 h4
    rw [e]
    cases b with
    | nil => simp at h1
    | cons z b => simpa using h1
  cases p with
  | pool l => exact ⟨Or.inr ⟨rfl, N _ _ 112 115 _ _ rfl rfl (by omega) (by decide)⟩, Or.inr ⟨rfl, N _ _ 112 116 _ _ rfl rfl (by omega) (by decide)⟩⟩
  | ports a b => exact ⟨Or.inr ⟨rfl, N _ _ 112 115 _ _ rfl rfl (by omega) (by decide)⟩, Or.inr ⟨rfl, N _ _ 112 116 _ _ rfl rfl (by omega) (by decide)⟩⟩
  | filter a => exact ⟨Or.inr ⟨rfl, N _ _ 102 115 _ _ rfl rfl (by omega) (by decide)⟩, Or.inr ⟨rfl, N _ _ 102 116 _ _ rfl rfl (by omega) (by decide)⟩⟩
  | stat a b => exact ⟨Or.inl ⟨rfl, by rw [Pt.ws, spc_two]; rfl⟩, Or.inr ⟨rfl, N _ _ 115 116 _ _ rfl rfl (by omega) (by decide)⟩⟩
  | twi a b => exact ⟨Or.inr ⟨rfl, N _ _ 116 115 _ _ rfl rfl (by omega) (by decide)⟩, Or.inl ⟨rfl, by rw [Pt.ws, spc_two]; rfl⟩⟩
  | quota a b => exact ⟨Or.inr ⟨rfl, N _ _ 113 115 _ _ rfl rfl (by omega) (by decide)⟩, Or.inr ⟨rfl, N _ _ 113 116 _ _ rfl rfl (by omega) (by decide)⟩⟩
  | rate a b => exact ⟨Or.inr ⟨rfl, N _ _ 114 115 _ _ rfl rfl (by omega) (by decide)⟩, Or.inr ⟨rfl, N _ _ 114 116 _ _ rfl rfl (by omega) (by decide)⟩⟩
theorem rot_at {α : Type} (l : List α) (P j : Nat) (hP : P < l.length) (hj : j < l.length) : (l.drop P ++ l.take P)[j]? = l[(j + P) % l.length]? := by
  by_cases h : j + P < l.length
  · rw [Nat.mod_eq_of_lt h, List.getElem?_append_left (by rw [List.length_drop]; omega), List.getElem?_drop, Nat.add_comm]
  · have e : (j + P) % l.length = j + P - l.length := by
      rw [Nat.mod_eq_sub_mod (by omega), Nat.mod_eq_of_lt (by omega)]
    rw [e, List.getElem?_append_right (by rw [List.length_drop]; omega), List.length_drop, List.getElem?_take, if_pos (by omega)]
    congr 1
    omega
end La
end Go.Proofs.YtneciccdiledfaaGreatDoor

namespace Go.Proofs.YtneciccdiledfaaGreatDoor
open Go.RowKit
open Sm
open Cf
set_option linter.unusedVariables false
set_option linter.unusedSimpArgs false
set_option maxRecDepth 20000

end Go.Proofs.YtneciccdiledfaaGreatDoor

namespace Go.Proofs.YtneciccdiledfaaGreatDoor
open Go.RowKit
open Sm
open Cf
set_option linter.unusedVariables false
set_option linter.unusedSimpArgs false
set_option maxRecDepth 20000

theorem tsv_at {V : World} {a : Option Addr} {n c : Nat} {zs : List Tv} (hr : Rw V 33 (.slice a n c) (zs.map zc)) (hz : ∀ z ∈ zs, TLen z.1 ∧ Rws V z) (i : Nat) (hi : i < zs.length) : ∃ b off x, a = some ⟨b, off, none⟩ ∧ V.rangeAt b (off + i * 33) x ∧ x.length = 33 ∧ x.toArray.all (·.oneCell') = true ∧ TV V (.agg x.toArray) ((zs.map Prod.fst).getD i ten0) := by
  obtain ⟨b, off, rfl, hc⟩ := rw_at hr i (by rw [List.length_map]; exact hi)
  obtain ⟨z, hx⟩ : ∃ z, zs[i]? = some z := ⟨_, List.getElem?_eq_getElem hi⟩
  have hzm := hz z (List.mem_of_getElem? hx)
  have ex : (zs.map zc).getD i [] = zc z := by simp [List.getD, hx]
  rw [ex] at hc
  have et : (zs.map Prod.fst).getD i ten0 = z.1 := by simp [List.getD, hx]
  rw [et]
  exact ⟨b, off, zc z, rfl, fun j u hj => hc j u hj, tc_len hzm.1 _ _ _, zc_one hzm.2, hzm.1, z.2.1, z.2.2.1, z.2.2.2, rfl, hzm.2⟩
theorem Ob.none {w W : World} {u : Value} {l : List Int} {K : List (Nat × Obj)} {n : Nat} (h : Ob w W u l K n) : Ob w W u l [] n := ⟨h.1.none, h.2⟩
end Go.Proofs.YtneciccdiledfaaGreatDoor

