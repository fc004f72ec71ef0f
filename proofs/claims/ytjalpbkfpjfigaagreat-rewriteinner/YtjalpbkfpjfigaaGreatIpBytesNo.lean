/-
  What ip.Bytes and lychref1.IpBytes answer where a packet is not written; and what ip.Bytes answers, whatever it is handed.
-/
import Derived.Test.YtjalpbkfpjfigaaGreatIpBytesOk
namespace Go.Proofs.YtjalpbkfpjfigaaGreat
open Go.RowKit
open Sm
set_option linter.unusedVariables false
set_option maxRecDepth 20000

theorem form_cases {o : Nat} {flags off : Int} (h : o % 4 ≠ 0 ∨ 40 < o ∨ 7 < flags ∨ 8191 < off) :
    ((o : Int) % 4 ≠ 0) ∨ ((o : Int) % 4 = 0 ∧ (40 : Int) < o) ∨ ((o : Int) % 4 = 0 ∧ (o : Int) ≤ 40 ∧ 7 < flags) ∨ ((o : Int) % 4 = 0 ∧ (o : Int) ≤ 40 ∧ flags ≤ 7 ∧ 8191 < off) := by omega

set_option maxRecDepth 20000 in
set_option maxHeartbeats 2000000 in
theorem bytes_form (w : World) (ao bo : Option Addr) (o bl co cb : Nat) (tos ttl proto id flags off src dst : Int) (h : o % 4 ≠ 0 ∨ 40 < o ∨ 7 < flags ∨ 8191 < off) :
    Calls Tryz.prog 30 #[.agg (ipA tos ttl proto id flags off src dst (.slice ao o co) (.slice bo bl cb))] w fun r w' => r = .returned (.tuple #[.slice none 0 0, .int .i64 21]) ∧ Below w.heap.size w w' := by
  have ht : (o : Int).tmod 4 = (o : Int) % 4 := Int.tmod_eq_emod_of_nonneg (by omega)
  rcases form_cases h with h1 | ⟨h1, h2⟩ | ⟨h1, h2, h3⟩ | ⟨h1, h2, h3, h4⟩
  all_goals
    clear h
    go_enter Tryz.func30, Tryz.ntmps30
    go_wp2_with fail
    go_ret2
    exact ⟨rfl, (Below.refl _ _).alloc (Nat.le_refl _) _⟩

set_option maxRecDepth 20000 in
set_option maxHeartbeats 2000000 in
theorem rbytes_form (w : World) (ao bo : Option Addr) (o bl co cb : Nat) (tos ttl proto id flags off src dst : Int) (h : o % 4 ≠ 0 ∨ 40 < o ∨ 7 < flags ∨ 8191 < off) :
    Calls Tryz.prog 24 #[.agg (ipA tos ttl proto id flags off src dst (.slice ao o co) (.slice bo bl cb))] w fun r w' => r = .returned (.tuple #[.slice none 0 0, .int .i64 21]) ∧ Below w.heap.size w w' := by
  have ht : (o : Int).tmod 4 = (o : Int) % 4 := Int.tmod_eq_emod_of_nonneg (by omega)
  rcases form_cases h with h1 | ⟨h1, h2⟩ | ⟨h1, h2, h3⟩ | ⟨h1, h2, h3, h4⟩
  all_goals
    clear h
    go_enter Tryz.func24, Tryz.ntmps24
    go_wp2_with fail
    go_ret2
    exact ⟨rfl, (Below.refl _ _).alloc (Nat.le_refl _) _⟩

set_option maxRecDepth 20000 in
set_option maxHeartbeats 2000000 in
theorem bytes_big (w : World) (ao bo : Option Addr) (o bl co cb : Nat) (tos ttl proto id flags off src dst : Int) (h1 : o % 4 = 0) (h2 : o ≤ 40) (h3 : flags ≤ 7) (h4 : off ≤ 8191) (h5 : 65535 < 20 + o + bl) :
    Calls Tryz.prog 30 #[.agg (ipA tos ttl proto id flags off src dst (.slice ao o co) (.slice bo bl cb))] w fun r w' => r = .returned (.tuple #[.slice none 0 0, .int .i64 23]) ∧ Below w.heap.size w w' := by
  have ht : (o : Int).tmod 4 = 0 := by rw [Int.tmod_eq_emod_of_nonneg (by omega)]; omega
  have h1' : (o : Int) % 4 = 0 := by omega
  have h2' : (o : Int) ≤ 40 := by omega
  have h5' : (65535 : Int) - (20 + (o : Int)) < bl := by omega
  clear h1 h2 h5
  go_enter Tryz.func30, Tryz.ntmps30
  go_wp2_with fail
  go_ret2
  exact ⟨rfl, (Below.refl _ _).alloc (Nat.le_refl _) _⟩

set_option maxRecDepth 20000 in
set_option maxHeartbeats 2000000 in
theorem rbytes_big (w : World) (ao bo : Option Addr) (o bl co cb : Nat) (tos ttl proto id flags off src dst : Int) (h1 : o % 4 = 0) (h2 : o ≤ 40) (h3 : flags ≤ 7) (h4 : off ≤ 8191) (h5 : 65535 < 20 + o + bl) :
    Calls Tryz.prog 24 #[.agg (ipA tos ttl proto id flags off src dst (.slice ao o co) (.slice bo bl cb))] w fun r w' => r = .returned (.tuple #[.slice none 0 0, .int .i64 23]) ∧ Below w.heap.size w w' := by
  have ht : (o : Int).tmod 4 = 0 := by rw [Int.tmod_eq_emod_of_nonneg (by omega)]; omega
  have h1' : (o : Int) % 4 = 0 := by omega
  have h2' : (o : Int) ≤ 40 := by omega
  have h5' : (65535 : Int) - (20 + (o : Int)) < bl := by omega
  clear h1 h2 h5
  go_enter Tryz.func24, Tryz.ntmps24
  go_wp2_with fail
  go_ret2
  exact ⟨rfl, (Below.refl _ _).alloc (Nat.le_refl _) _⟩

theorem hdw_h20 (p : Pk) (x y : Int) : hdw p x y = h20 (20 + p.opts.length) (20 + p.opts.length + p.body.length) p.tos p.ttl p.proto p.id (p.flags * 8192 + p.off) p.src p.dst x y ++ p.opts := rfl

/-- What ip.Bytes answers, whatever it is handed. -/
theorem bytes_any {w : World} {B : Nat} {v : Value} {p : Pk} (hp : p.Ok) (hv : IpV w B v p) :
    Calls Tryz.prog 30 #[v] w fun r w' => ∃ u, r = .returned (.tuple #[u, .int .i64 (ipbErr p)]) ∧ w'.ownsRow w.heap.size 5 1 u (ipOut p).length ((ipOut p).map (Value.int .u8)) ∧ Below w.heap.size w w' := by
  obtain ⟨ao, co, bo, cb, rfl, ho, hb, -⟩ := hv
  by_cases h1 : p.opts.length % 4 ≠ 0 ∨ 40 < p.opts.length ∨ 7 < p.flags ∨ 8191 < p.off
  · have e : ipbErr p = 21 := by unfold ipbErr; rw [if_pos h1]
    have e2 : ipOut p = [] := by unfold ipOut; rw [e]; rfl
    rw [e, e2]
    refine (bytes_form w ao bo p.opts.length p.body.length co cb p.tos p.ttl p.proto p.id p.flags p.off p.src p.dst h1).mono ?_
    rintro r w' ⟨rfl, hbel⟩
    exact ⟨_, rfl, World.ownsRow_nil _ _ _ _, hbel⟩
  · by_cases h2 : 65535 < 20 + p.opts.length + p.body.length
    · have e : ipbErr p = 23 := by unfold ipbErr; rw [if_neg h1, if_pos h2]
      have e2 : ipOut p = [] := by unfold ipOut; rw [e]; rfl
      rw [e, e2]
      refine (bytes_big w ao bo p.opts.length p.body.length co cb p.tos p.ttl p.proto p.id p.flags p.off p.src p.dst (by omega) (by omega) (by omega) (by omega) h2).mono ?_
      rintro r w' ⟨rfl, hbel⟩
      exact ⟨_, rfl, World.ownsRow_nil _ _ _ _, hbel⟩
    · have e : ipbErr p = 0 := by unfold ipbErr; rw [if_neg h1, if_neg h2]
      have f : Fits p := (fits_iff p).mp e
      have e2 : ipOut p = ipb p := if_pos e
      rw [e, e2, ipb_len]
      have hby := bytes_append (hdw_bytes hp f (x := 0) (y := 0) (by omega) (by omega)) hp.body
      obtain ⟨g1, g2, g3, g4, g5⟩ := f
      obtain ⟨q1, q2, q3, q4, q5, q6, q7, q8, -, -⟩ := hp
      have := bytes_ok ho hb p.opts.length p.body.length (20 + p.opts.length) (20 + p.opts.length + p.body.length) ((20 + p.opts.length) / 4) rfl rfl rfl rfl (by omega) g2 g5 co cb p.tos p.ttl p.proto p.id p.flags p.off p.src p.dst q4 ⟨q5.1, g3⟩ ⟨q6.1, g4⟩ q7 q8 hby (ipc p) rfl
      exact this
end Go.Proofs.YtjalpbkfpjfigaaGreat
