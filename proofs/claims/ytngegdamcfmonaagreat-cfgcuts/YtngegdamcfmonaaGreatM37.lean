/-
  Settings as bytes: a tenant that was written is read back, but for what was cut off, and no part of it is read.
  Settings held against one another: lychhelp.Tenant, at any two tenants.
-/
import Derived.Test.YtngegdamcfmonaaGreatM35
import Derived.Test.YtngegdamcfmonaaGreatM34
namespace Go.Proofs.YtngegdamcfmonaaGreat
open Go.RowKit
open Sm
open Cf
set_option linter.unusedVariables false
set_option maxRecDepth 20000

theorem rb_pair (y z : Int × Int) : RB spP.dec (spP.enc y) z (num (be 4 y.1), num (be 4 y.2)) := by
  obtain ⟨x', h, e⟩ := sq_rb (dec := fun i => ([spA, spB].getD i sp0).dec) (enc := fun i => ([spA, spB].getD i sp0).enc y)
    (Inv := fun k x => x = (if 0 < k then num (be 4 y.1) else z.1, if 1 < k then num (be 4 y.2) else z.2)) 2 0 z (fun k _ hk x hx => by
      subst hx
      match k, hk with
      | 0, _ => exact ⟨_, (rb_num 4 _ _ y _ : RB spA.dec (spA.enc y) _ _), rfl⟩
      | 1, _ => exact ⟨_, (rb_num 4 _ _ y _ : RB spB.dec (spB.enc y) _ _), rfl⟩) rfl
  subst e
  rw [← cat_eq] at h
  exact h
theorem rb_u (y z : Int) : RB spU.dec (spU.enc y) z (num (be 4 y)) := rb_num 4 id (fun _ y => y) y z
/-- A tenant as it is read back. -/
def tcut (t : Ten) : Ten := ⟨strOfNums ((sb t.name).take 255), num (be 4 t.vni), t.key, num (be 4 t.vtep), t.vmac, t.host, (t.pool.take 255).map (fun v => num (be 4 v)), num (be 2 t.lo), num (be 2 t.hi), num (be 1 t.filter),
  (t.stat.take 255).map (fun v => (num (be 4 v.1), num (be 4 v.2))), (t.twi.take 255).map (fun v => (num (be 4 v.1), num (be 4 v.2))), num (be 2 t.sess), num (be 2 t.queue), num (be 4 t.rate), num (be 4 t.burst)⟩
/-- What is read of it behind k fields. -/
def stt (t : Ten) (k : Nat) : Ten := ⟨if 0 < k then (tcut t).name else ten0.name, if 1 < k then (tcut t).vni else ten0.vni, if 2 < k then t.key else ten0.key, if 3 < k then (tcut t).vtep else ten0.vtep, if 4 < k then t.vmac else ten0.vmac, if 5 < k then t.host else ten0.host,
  if 16 < k then (tcut t).pool else if 13 < k then List.replicate (min t.pool.length 255) 0 else [], if 6 < k then (tcut t).lo else ten0.lo, if 7 < k then (tcut t).hi else ten0.hi, if 8 < k then (tcut t).filter else ten0.filter,
  if 17 < k then (tcut t).stat else if 14 < k then List.replicate (min t.stat.length 255) (0, 0) else [], if 18 < k then (tcut t).twi else if 15 < k then List.replicate (min t.twi.length 255) (0, 0) else [],
  if 9 < k then (tcut t).sess else ten0.sess, if 10 < k then (tcut t).queue else ten0.queue, if 11 < k then (tcut t).rate else ten0.rate, if 12 < k then (tcut t).burst else ten0.burst⟩
theorem set_pool_eq (x : Ten) (m : Nat) (h : x.pool = []) : set_pool x m = { x with pool := List.replicate m 0 } := by
  unfold set_pool
  split
  · rename_i e; subst e; cases x; simp only at h; subst h; rfl
  · rfl
theorem set_stat_eq (x : Ten) (m : Nat) (h : x.stat = []) : set_stat x m = { x with stat := List.replicate m (0, 0) } := by
  unfold set_stat
  split
  · rename_i e; subst e; cases x; simp only at h; subst h; rfl
  · rfl
theorem set_twi_eq (x : Ten) (m : Nat) (h : x.twi = []) : set_twi x m = { x with twi := List.replicate m (0, 0) } := by
  unfold set_twi
  split
  · rename_i e; subst e; cases x; simp only at h; subst h; rfl
  · rfl
set_option maxHeartbeats 4000000 in
theorem tenc_rb (t : Ten) (hl : TLen t) : RB spT.dec (spT.enc t) ten0 (tcut t) := by
  obtain ⟨x', h, e⟩ := sq_rb (dec := fun i => (tsp.getD i sp0).dec) (enc := fun i => (tsp.getD i sp0).enc t) (Inv := fun k x => x = stt t k) 19 0 ten0 (fun k _ hk x hx => by
      subst hx
      match k, hk with
      | 0, _ => exact ⟨_, (rb_txt _ _ t _ (sb_len _) : RB spName.dec (spName.enc t) _ _), rfl⟩
      | 1, _ => exact ⟨_, (rb_num 4 _ _ t _ : RB spVni.dec (spVni.enc t) _ _), rfl⟩
      | 2, _ => exact ⟨_, (rb_oct 8 _ _ t _ hl.key : RB spKey.dec (spKey.enc t) _ _), rfl⟩
      | 3, _ => exact ⟨_, (rb_num 4 _ _ t _ : RB spVtep.dec (spVtep.enc t) _ _), rfl⟩
      | 4, _ => exact ⟨_, (rb_oct 6 _ _ t _ hl.vmac : RB spVtepMac.dec (spVtepMac.enc t) _ _), rfl⟩
      | 5, _ => exact ⟨_, (rb_oct 6 _ _ t _ hl.host : RB spHost.dec (spHost.enc t) _ _), rfl⟩
      | 6, _ => exact ⟨_, (rb_num 2 _ _ t _ : RB spLo.dec (spLo.enc t) _ _), rfl⟩
      | 7, _ => exact ⟨_, (rb_num 2 _ _ t _ : RB spHi.dec (spHi.enc t) _ _), rfl⟩
      | 8, _ => exact ⟨_, (rb_num 1 _ _ t _ : RB spFilter.dec (spFilter.enc t) _ _), rfl⟩
      | 9, _ => exact ⟨_, (rb_num 2 _ _ t _ : RB spSess.dec (spSess.enc t) _ _), rfl⟩
      | 10, _ => exact ⟨_, (rb_num 2 _ _ t _ : RB spQueue.dec (spQueue.enc t) _ _), rfl⟩
      | 11, _ => exact ⟨_, (rb_num 4 _ _ t _ : RB spRate.dec (spRate.enc t) _ _), rfl⟩
      | 12, _ => exact ⟨_, (rb_num 4 _ _ t _ : RB spBurst.dec (spBurst.enc t) _ _), rfl⟩
      | 13, _ => exact ⟨_, (rb_cnt _ _ t _ : RB spPool.dec (spPool.enc t) _ _), set_pool_eq _ _ rfl⟩
      | 14, _ => exact ⟨_, (rb_cnt _ _ t _ : RB spStatics.dec (spStatics.enc t) _ _), set_stat_eq _ _ rfl⟩
      | 15, _ => exact ⟨_, (rb_cnt _ _ t _ : RB spTwices.dec (spTwices.enc t) _ _), set_twi_eq _ _ rfl⟩
      | 16, _ => exact ⟨_, (rb_itm 0 spU _ rb_u _ _ t _ (List.length_replicate ..) : RB spPoolI.dec (spPoolI.enc t) _ _), rfl⟩
      | 17, _ => exact ⟨_, (rb_itm (0, 0) spP _ rb_pair _ _ t _ (List.length_replicate ..) : RB spStaticsI.dec (spStaticsI.enc t) _ _), rfl⟩
      | 18, _ => exact ⟨_, (rb_itm (0, 0) spP _ rb_pair _ _ t _ (List.length_replicate ..) : RB spTwicesI.dec (spTwicesI.enc t) _ _), rfl⟩
      | n + 19, h => exact absurd (show n + 19 < 0 + 19 from h) (by omega)) rfl
  subst e
  rw [← cat_eq] at h
  exact h
/-- A tenant that was written is read back. -/
theorem tdec_back (t : Ten) (hl : TLen t) (r : List Int) : tdec (tenc t ++ r) = some (tcut t, r) := (tenc_rb t hl).1 r
/-- No part of it is read. -/
theorem tdec_cut (t : Ten) (hl : TLen t) (l : List Int) (h : l <+: tenc t) (hs : l.length < (tenc t).length) : tdec l = none := (tenc_rb t hl).2 l h hs
end Go.Proofs.YtngegdamcfmonaaGreat

namespace Go.Proofs.YtngegdamcfmonaaGreat
open Go.RowKit
open Sm
open Cf
set_option linter.unusedVariables false
set_option maxRecDepth 20000

/-- All fields are the same. -/
def TSame (t z : Ten) : Prop := sb t.name = sb z.name ∧ t.vni = z.vni ∧ t.key = z.key ∧ t.vtep = z.vtep ∧ t.vmac = z.vmac ∧ t.host = z.host ∧ t.pool = z.pool ∧ t.lo = z.lo ∧ t.hi = z.hi ∧ t.filter = z.filter ∧ t.stat = z.stat ∧ t.twi = z.twi ∧ t.sess = z.sess ∧ t.queue = z.queue ∧ t.rate = z.rate ∧ t.burst = z.burst
end Go.Proofs.YtngegdamcfmonaaGreat

