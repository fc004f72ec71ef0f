/-
  Settings as text: the words of settings, and that they are read back.
  Settings as bytes: what the document's reader reads of a tenant is what the program's fields read.
  Settings held against one another: lychhelp.Tenant and the program's Same tell the same.
  Settings as bytes: the program's whole (lych/api.Config): what all bytes are.
-/
import Derived.Test.YtneciccdiledfaaGreatDoorM28
import Derived.Lib.SpaceUEq
import Derived.Test.YtneciccdiledfaaGreatDoorM23
import Derived.Test.YtneciccdiledfaaGreatDoorM25
import Derived.Test.YtneciccdiledfaaGreatDoorM26
import Derived.Test.YtneciccdiledfaaGreatDoorM27
import Derived.Test.YtneciccdiledfaaGreatDoorM21
namespace Go.Proofs.YtneciccdiledfaaGreatDoor
open Go.RowKit
open Ad
open Go.Lib (decDigits)
open Sm (IsBytes)
set_option linter.unusedVariables false
set_option linter.unusedSimpArgs false
set_option maxRecDepth 20000
namespace La
def dec (n : Int) : List UInt8 := decDigits n.toNat
def ipx (n : Int) : List UInt8 := ipt n.toNat
def fw (n : Int) : List UInt8 := if n = 1 then wAddress else if n = 2 then wPort else wAny
def txtG (c : Cgf) : List (List UInt8) := [wGateway, ipx c.ip, mact c.mac, mact c.omac, mact c.nmac, keyt c.key, wDrain, dec c.drain]
def txtH (t : Ten) : List (List UInt8) := [wTenant, t.name.data.toList, wVni, dec t.vni, wKey, keyt t.key, wVtep, ipx t.vtep, mact t.vmac, wHost, mact t.host]
def txtP (t : Ten) : List (List (List UInt8)) := if t.pool = [] then [] else [wPool :: t.pool.map ipx]
def txtS (b : List UInt8) (l : List (Int × Int)) : List (List (List UInt8)) := l.map fun p => [b, ipx p.1, ipx p.2]
def txtR (t : Ten) : List (List (List UInt8)) := txtP t ++ ([wPorts, dec t.lo, dec t.hi] :: [wFilter, fw t.filter] :: (txtS wStatic t.stat ++ (txtS wTwice t.twi ++ [[wQuota, dec t.sess, dec t.queue], [wRate, dec t.rate, dec t.burst]])))
def txtT (t : Ten) : List (List (List UInt8)) := txtH t :: txtR t
def lnsOf (c : Cgf) : List (List (List UInt8)) := txtG c :: c.ten.flatMap txtT
def txt (c : Cgf) : List UInt8 := (lnsOf c).flatMap spc
def R32 (x : Int) : Prop := 0 ≤ x ∧ x < 4294967296
structure TFit (t : Ten) : Prop where
  len : TLen t
  name : nam t.name.data.toList = true
  vni : 0 ≤ t.vni ∧ t.vni ≤ 16777215
  key : IsBytes t.key
  vtep : R32 t.vtep
  vmac : IsBytes t.vmac
  host : IsBytes t.host
  pool : ∀ x ∈ t.pool, R32 x
  lo : 0 ≤ t.lo ∧ t.lo ≤ 65535
  hi : 0 ≤ t.hi ∧ t.hi ≤ 65535
  filter : 0 ≤ t.filter ∧ t.filter ≤ 2
  stat : ∀ p ∈ t.stat, R32 p.1 ∧ R32 p.2
  twi : ∀ p ∈ t.twi, R32 p.1 ∧ R32 p.2
  sess : 0 ≤ t.sess ∧ t.sess ≤ 65535
  queue : 0 ≤ t.queue ∧ t.queue ≤ 65535
  rate : R32 t.rate
  burst : R32 t.burst
structure CFit (c : Cgf) : Prop where
  len : CLen c
  ip : R32 c.ip
  mac : IsBytes c.mac
  omac : IsBytes c.omac
  nmac : IsBytes c.nmac
  key : IsBytes c.key
  drain : R32 c.drain
  ten : ∀ t ∈ c.ten, TFit t
/-! ### Each word is read back -/
theorem dec_num {n : Int} {m : Nat} (h0 : 0 ≤ n) (h1 : n ≤ m) : num (dec n) m = some n.toNat := by
  unfold dec; rw [num_dec, if_pos (by omega)]
theorem ipx_ip {n : Int} (h : R32 n) : ip (ipx n) = some n.toNat := ip_ipt (by have := h.1; have := h.2; omega)
theorem toNat_eq {n : Int} (h : 0 ≤ n) : ((n.toNat : Nat) : Int) = n := Int.toNat_of_nonneg h
theorem mac_six {l : List Int} (h : l.length = 6) (hb : IsBytes l) : mac (mact l) = some l := by
  obtain ⟨a, b, c, d, e, f, rfl⟩ := six h
  have := fun i => hb i
  exact mac_mact (by simpa using hb 0) (by simpa using hb 1) (by simpa using hb 2) (by simpa using hb 3) (by simpa using hb 4) (by simpa using hb 5)
theorem bytes_mem {l : List Int} (hb : IsBytes l) : ∀ x ∈ l, 0 ≤ x ∧ x ≤ 255 := by
  intro x hx
  obtain ⟨i, hi, rfl⟩ := List.getElem_of_mem hx
  have := hb i
  rwa [getD_eq hi] at this
theorem key_eight {l : List Int} (h : l.length = 8) (hb : IsBytes l) : key (keyt l) = some l := by
  unfold key
  rw [if_pos (by rw [keyt_len, h]), twos_keyt l (bytes_mem hb)]
theorem flt_fw {n : Int} (h : 0 ≤ n ∧ n ≤ 2) : flt (fw n) = some n.toNat := by
  have : n = 0 ∨ n = 1 ∨ n = 2 := by omega
  rcases this with rfl | rfl | rfl <;> decide
/-! ### Each word is free of signs -/
theorem free_low {l : List UInt8} (hne : l ≠ []) (h : ∀ b ∈ l, 36 ≤ b.toNat) : Free l := by
  refine ⟨hne, fun b hb => ?_⟩
  have := h b hb
  refine ⟨?_, ?_, ?_⟩ <;> (rintro rfl; simp at this)
theorem free_dec (n : Int) : Free (dec n) := by
  obtain ⟨h1, -, h3, -⟩ := dec_facts n.toNat
  exact free_low h3 (fun b hb => by have := h1 b hb; omega)
theorem join_low {c : UInt8} (hc : 36 ≤ c.toNat) : ∀ {l : List (List UInt8)}, (∀ x ∈ l, ∀ b ∈ x, 36 ≤ b.toNat) → ∀ b ∈ Lib.join l [c], 36 ≤ b.toNat
  | [], _ => by simp [Lib.join_nil]
  | [x], h => by rw [Lib.join_one]; exact h x (by simp)
  | x :: y :: r, h => by
    have e : Lib.join (x :: y :: r) [c] = x ++ (c :: Lib.join (y :: r) [c]) := by
      rw [Lib.join_cons, Lib.join_cons]; simp [Lib.joinTail]
    rw [e]
    intro b hb
    rcases List.mem_append.1 hb with hb | hb
    · exact h x (by simp) b hb
    · rcases List.mem_cons.1 hb with rfl | hb
      · exact hc
      · exact join_low hc (fun z hz => h z (by simp only [List.mem_cons] at hz ⊢; exact Or.inr hz)) b hb
theorem free_ipx (n : Int) : Free (ipx n) := by
  unfold ipx ipt
  refine free_low ?_ (join_low (by decide) ?_)
  · rw [Lib.join_cons]
    have := (dec_facts (n.toNat / 16777216)).2.2.1
    simp [this]
  · intro x hx b hb
    simp only [List.mem_cons, List.not_mem_nil, or_false] at hx
    rcases hx with rfl | rfl | rfl | rfl <;> (have := (dec_facts _).1 b hb; omega)
theorem hex2_low (x : Int) : ∀ b ∈ hex2 x, x.toNat < 256 → 36 ≤ b.toNat := by
  intro b hb hx
  unfold hex2 at hb
  simp only [List.mem_cons, List.not_mem_nil, or_false] at hb
  have h1 := hdg_ge (x.toNat / 16)
  have h2 := hdg_ge (x.toNat % 16)
  have h3 := hdg_small (show x.toNat / 16 < 16 by omega)
  have h4 := hdg_small (show x.toNat % 16 < 16 by omega)
  rcases hb with rfl | rfl <;> (rw [ofNat_toNat (by omega)]; omega)
theorem free_mact {l : List Int} (h : l.length = 6) (hb : IsBytes l) : Free (mact l) := by
  have hm := bytes_mem hb
  obtain ⟨a, b, c, d, e, f, rfl⟩ := six h
  unfold mact
  refine free_low ?_ (join_low (by decide) ?_)
  · rw [List.map_cons, Lib.join_cons]; simp [hex2]
  · intro x hx y hy
    obtain ⟨z, hz, rfl⟩ := List.mem_map.1 hx
    have := hm z hz
    exact hex2_low z y hy (by omega)
theorem free_keyt {l : List Int} (h : l.length = 8) (hb : IsBytes l) : Free (keyt l) := by
  have hm := bytes_mem hb
  refine free_low ?_ ?_
  · intro e
    have := congrArg List.length e
    rw [keyt_len, h] at this
    simp at this
  · intro y hy
    unfold keyt at hy
    obtain ⟨z, hz, hy⟩ := List.mem_flatMap.1 hy
    have := hm z hz
    exact hex2_low z y hy (by omega)
theorem free_fw (n : Int) : Free (fw n) := by
  unfold fw
  split
  · exact ⟨by decide, by decide⟩
  · split
    · exact ⟨by decide, by decide⟩
    · exact ⟨by decide, by decide⟩
theorem rn_free : ∀ (f : Nat) (first : Bool) (l : List UInt8), l.length ≤ f → rn f first l = true → ∀ b ∈ l, 36 ≤ b.toNat
  | 0, first, l, h, _ => by
    have : l = [] := List.eq_nil_of_length_eq_zero (by omega)
    subst this; simp
  | f + 1, first, [], h, _ => by simp
  | f + 1, first, b :: t, h, hr => by
    by_cases ha : b.toNat < 128
    · rw [rn, if_pos ha] at hr
      split at hr
      · rename_i ho
        intro x hx
        rcases List.mem_cons.1 hx with rfl | hx
        · unfold okr mb mf at ho
          simp at ho
          omega
        · exact rn_free f false t (by simp at h; omega) hr x hx
      · cases hr
    · rw [rn, if_neg ha] at hr
      split at hr
      · cases hr
      · rename_i hbad
        intro x hx
        -- the rune's own bytes are no signs; what follows is a name's rest
        have hw := Lib.decodeL_width (b :: t)
        have hN := Lib.decodeL_N (b :: t)
        have hc := Lib.decodeN_conts (b :: t).length ((b :: t).getD 0 0).toNat ((b :: t).getD 1 0).toNat ((b :: t).getD 2 0).toNat ((b :: t).getD 3 0).toNat
        rw [← hN] at hc
        generalize hk : (Lib.decodeL (b :: t)).2 = k at *
        have hrest := rn_free f false ((b :: t).drop k) (by rw [List.length_drop]; simp at h ⊢; omega) hr
        rw [← List.take_append_drop k (b :: t)] at hx
        rcases List.mem_append.1 hx with hx | hx
        · obtain ⟨i, hi, e⟩ := List.getElem_of_mem hx
          have hi' : i < k ∧ i < (b :: t).length := by
            rw [List.length_take] at hi; omega
          have e2 : (b :: t).getD i 0 = x := by
            rw [← e, List.getElem_take]
            simp [List.getD, List.getElem?_eq_getElem hi'.2]
          match i, hi', e2 with
          | 0, _, e2 => simp at e2; subst e2; omega
          | 1, hi', e2 => rw [e2] at hc; have := (hc.1 (by omega)).1; omega
          | 2, hi', e2 => rw [e2] at hc; have := (hc.2.1 (by omega)).1; omega
          | 3, hi', e2 => rw [e2] at hc; have := (hc.2.2.1 (by omega)).1; omega
          | i + 4, hi', e2 => have := hc.2.2.2; omega
        · exact hrest x hx
theorem free_name {l : List UInt8} (h : nam l = true) : Free l := by
  unfold nam at h
  simp only [Bool.and_eq_true, decide_eq_true_eq] at h
  refine free_low ?_ (rn_free l.length true l (Nat.le_refl _) h.2)
  intro e; subst e; simp at h
/-! ### Lines -/
def cput (c : Cgf) (t : Ten) : Cgf := { c with ten := c.ten ++ [t] }
theorem cput_last (c : Cgf) (t : Ten) : (cput c t).ten.getLast? = some t := by simp [cput]
theorem cput_set (c : Cgf) (t t' : Ten) : { cput c t with ten := (cput c t).ten.dropLast ++ [t'] } = cput c t' := by simp [cput]
theorem reads_one {o : Option Cgf} {l : List (List UInt8)} {c : Cgf} (h : Takes o l c) : Reads o [l] (some c) := .cons h (.nil _)
theorem reads_pool {c : Cgf} {t : Ten} (h : ∀ x ∈ t.pool, R32 x) (p : List Int) (hp : t.pool = p) : Reads (some (cput c { t with pool := [] })) (txtP t) (some (cput c t)) := by
  unfold txtP
  by_cases e : t.pool = []
  · rw [if_pos e]
    have : ({ t with pool := [] } : Ten) = t := by rw [← e]
    rw [this]; exact .nil _
  · rw [if_neg e]
    refine reads_one ?_
    have := takes_pool (c := cput c { t with pool := [] }) (xs := t.pool.map ipx) (l := t.pool.map Int.toNat) (cput_last _ _) (by
      simp only [List.map_map]
      apply List.map_congr_left
      intro x hx
      exact ipx_ip (h x hx))
    rw [cput_set] at this
    have e2 : ((t.pool.map Int.toNat).map fun (n : Nat) => (n : Int)) = t.pool := by
      rw [List.map_map]
      conv => rhs; rw [← List.map_id t.pool]
      apply List.map_congr_left
      intro x hx
      exact toNat_eq (h x hx).1
    rw [e2] at this
    simpa using this
theorem reads_stat {c : Cgf} (t : Ten) : ∀ (l a : List (Int × Int)), (∀ p ∈ l, R32 p.1 ∧ R32 p.2) → Reads (some (cput c { t with stat := a })) (txtS wStatic l) (some (cput c { t with stat := a ++ l }))
  | [], a, _ => by simp only [txtS, List.map_nil, List.append_nil]; exact .nil _
  | p :: l, a, h => by
    have hp := h p (by simp)
    have := takes_static (c := cput c { t with stat := a }) (cput_last _ _) (ipx_ip hp.1) (ipx_ip hp.2)
    rw [cput_set, toNat_eq hp.1.1, toNat_eq hp.2.1] at this
    refine .cons this ?_
    have ih := reads_stat (c := c) t l (a ++ [p]) (fun q hq => h q (by simp [hq]))
    rw [List.append_assoc] at ih
    exact ih
theorem reads_twi {c : Cgf} (t : Ten) : ∀ (l a : List (Int × Int)), (∀ p ∈ l, R32 p.1 ∧ R32 p.2) → Reads (some (cput c { t with twi := a })) (txtS wTwice l) (some (cput c { t with twi := a ++ l }))
  | [], a, _ => by simp only [txtS, List.map_nil, List.append_nil]; exact .nil _
  | p :: l, a, h => by
    have hp := h p (by simp)
    have := takes_twice (c := cput c { t with twi := a }) (cput_last _ _) (ipx_ip hp.1) (ipx_ip hp.2)
    rw [cput_set, toNat_eq hp.1.1, toNat_eq hp.2.1] at this
    refine .cons this ?_
    have ih := reads_twi (c := c) t l (a ++ [p]) (fun q hq => h q (by simp [hq]))
    rw [List.append_assoc] at ih
    exact ih
theorem takes_lo (c : Cgf) (t : Ten) {lo hi : Int} (h1 : 0 ≤ lo ∧ lo ≤ 65535) (h2 : 0 ≤ hi ∧ hi ≤ 65535) : Takes (some (cput c t)) [wPorts, dec lo, dec hi] (cput c { t with lo := lo, hi := hi }) := by
  have := takes_ports (c := cput c t) (cput_last _ _) (dec_num (m := 65535) h1.1 h1.2) (dec_num (m := 65535) h2.1 h2.2)
  rw [cput_set, toNat_eq h1.1, toNat_eq h2.1] at this
  exact this
theorem takes_fl (c : Cgf) (t : Ten) {f : Int} (h : 0 ≤ f ∧ f ≤ 2) : Takes (some (cput c t)) [wFilter, fw f] (cput c { t with filter := f }) := by
  have := takes_filter (c := cput c t) (cput_last _ _) (flt_fw h)
  rw [cput_set, toNat_eq h.1] at this
  exact this
theorem takes_qu (c : Cgf) (t : Ten) {a b : Int} (h1 : 0 ≤ a ∧ a ≤ 65535) (h2 : 0 ≤ b ∧ b ≤ 65535) : Takes (some (cput c t)) [wQuota, dec a, dec b] (cput c { t with sess := a, queue := b }) := by
  have := takes_quota (c := cput c t) (cput_last _ _) (dec_num (m := 65535) h1.1 h1.2) (dec_num (m := 65535) h2.1 h2.2)
  rw [cput_set, toNat_eq h1.1, toNat_eq h2.1] at this
  exact this
theorem takes_ra (c : Cgf) (t : Ten) {a b : Int} (h1 : R32 a) (h2 : R32 b) : Takes (some (cput c t)) [wRate, dec a, dec b] (cput c { t with rate := a, burst := b }) := by
  have := takes_rate (c := cput c t) (cput_last _ _) (dec_num (m := 4294967295) h1.1 (by have := h1.2; omega)) (dec_num (m := 4294967295) h2.1 (by have := h2.2; omega))
  rw [cput_set, toNat_eq h1.1, toNat_eq h2.1] at this
  exact this
/-- A tenant of its first line alone. -/
def thd (t : Ten) : Ten := { ten0 with name := t.name, vni := t.vni, key := t.key, vtep := t.vtep, vmac := t.vmac, host := t.host }
theorem takes_hd (c : Cgf) {t : Ten} (h : TFit t) : Takes (some c) (txtH t) (cput c (thd t)) := by
  have := takes_tn (c := c) (xs := txtH t) rfl h.name (dec_num (m := 16777215) h.vni.1 h.vni.2) (key_eight h.len.key h.key) (ipx_ip h.vtep) (mac_six h.len.vmac h.vmac) (mac_six h.len.host h.host)
  rw [toNat_eq h.vni.1, toNat_eq h.vtep.1] at this
  exact this
theorem reads_ten (c : Cgf) {t : Ten} (h : TFit t) : Reads (some c) (txtT t) (some (cput c t)) := by
  have hd := takes_hd c h
  obtain ⟨nm, vn, ke, vt, vm, ho, po, lo, hi, fi, st, tw, se, qu, ra, bu⟩ := t
  have s1 : Reads (some (cput c ⟨nm, vn, ke, vt, vm, ho, [], 0, 0, 0, [], [], 0, 0, 0, 0⟩)) (txtP ⟨nm, vn, ke, vt, vm, ho, po, lo, hi, fi, st, tw, se, qu, ra, bu⟩) (some (cput c ⟨nm, vn, ke, vt, vm, ho, po, 0, 0, 0, [], [], 0, 0, 0, 0⟩)) := reads_pool (t := ⟨nm, vn, ke, vt, vm, ho, po, 0, 0, 0, [], [], 0, 0, 0, 0⟩) h.pool _ rfl
  have s2 : Takes (some (cput c ⟨nm, vn, ke, vt, vm, ho, po, 0, 0, 0, [], [], 0, 0, 0, 0⟩)) [wPorts, dec lo, dec hi] (cput c ⟨nm, vn, ke, vt, vm, ho, po, lo, hi, 0, [], [], 0, 0, 0, 0⟩) := takes_lo c _ h.lo h.hi
  have s3 : Takes (some (cput c ⟨nm, vn, ke, vt, vm, ho, po, lo, hi, 0, [], [], 0, 0, 0, 0⟩)) [wFilter, fw fi] (cput c ⟨nm, vn, ke, vt, vm, ho, po, lo, hi, fi, [], [], 0, 0, 0, 0⟩) := takes_fl c _ h.filter
  have s4 : Reads (some (cput c ⟨nm, vn, ke, vt, vm, ho, po, lo, hi, fi, [], [], 0, 0, 0, 0⟩)) (txtS wStatic st) (some (cput c ⟨nm, vn, ke, vt, vm, ho, po, lo, hi, fi, st, [], 0, 0, 0, 0⟩)) := reads_stat (c := c) ⟨nm, vn, ke, vt, vm, ho, po, lo, hi, fi, [], [], 0, 0, 0, 0⟩ st [] h.stat
  have s5 : Reads (some (cput c ⟨nm, vn, ke, vt, vm, ho, po, lo, hi, fi, st, [], 0, 0, 0, 0⟩)) (txtS wTwice tw) (some (cput c ⟨nm, vn, ke, vt, vm, ho, po, lo, hi, fi, st, tw, 0, 0, 0, 0⟩)) := reads_twi (c := c) ⟨nm, vn, ke, vt, vm, ho, po, lo, hi, fi, st, [], 0, 0, 0, 0⟩ tw [] h.twi
  have s6 : Takes (some (cput c ⟨nm, vn, ke, vt, vm, ho, po, lo, hi, fi, st, tw, 0, 0, 0, 0⟩)) [wQuota, dec se, dec qu] (cput c ⟨nm, vn, ke, vt, vm, ho, po, lo, hi, fi, st, tw, se, qu, 0, 0⟩) := takes_qu c _ h.sess h.queue
  have s7 : Takes (some (cput c ⟨nm, vn, ke, vt, vm, ho, po, lo, hi, fi, st, tw, se, qu, 0, 0⟩)) [wRate, dec ra, dec bu] (cput c ⟨nm, vn, ke, vt, vm, ho, po, lo, hi, fi, st, tw, se, qu, ra, bu⟩) := takes_ra c _ h.rate h.burst
  exact .cons hd (s1.app (.cons s2 (.cons s3 (s4.app (s5.app (.cons s6 (.cons s7 (.nil _))))))))
theorem reads_tens : ∀ (l : List Ten) (c : Cgf), (∀ t ∈ l, TFit t) → Reads (some c) (l.flatMap txtT) (some { c with ten := c.ten ++ l })
  | [], c, _ => by simp only [List.flatMap_nil, List.append_nil]; exact .nil _
  | t :: l, c, h => by
    rw [List.flatMap_cons]
    have ih := reads_tens l (cput c t) (fun x hx => h x (by simp [hx]))
    refine (reads_ten c (h t (by simp))).app ?_
    simpa [cput] using ih
theorem reads_cfg {c : Cgf} (h : CFit c) : Reads none (lnsOf c) (some c) := by
  have h1 := takes_gw (xs := txtG c) rfl (ipx_ip h.ip) (mac_six h.len.mac h.mac) (mac_six h.len.omac h.omac) (mac_six h.len.nmac h.nmac) (key_eight h.len.key h.key) (dec_num (m := 4294967295) h.drain.1 (by have := h.drain.2; omega))
  rw [toNat_eq h.ip.1, toNat_eq h.drain.1] at h1
  refine .cons h1 ?_
  exact reads_tens c.ten ⟨c.ip, c.mac, c.omac, c.nmac, c.key, c.drain, []⟩ h.ten
/-! ### Each line is of words free of signs -/
def LFree (l : List (List UInt8)) : Prop := l ≠ [] ∧ ∀ y ∈ l, Free y
theorem lfree_ten {t : Ten} (h : TFit t) : ∀ l ∈ txtT t, LFree l := by
  intro l hl
  unfold txtT txtR at hl
  have two : ∀ b x y : List UInt8, Free b → Free x → Free y → LFree [b, x, y] := by
    intro b x y h1 h2 h3
    refine ⟨by simp, fun z hz => ?_⟩
    simp only [List.mem_cons, List.not_mem_nil, or_false] at hz
    rcases hz with rfl | rfl | rfl <;> assumption
  have F : ∀ x : List UInt8, x ≠ [] → (∀ b ∈ x, b ≠ 10 ∧ b ≠ 32 ∧ b ≠ 35) → Free x := fun x a b => ⟨a, b⟩
  rcases List.mem_cons.1 hl with rfl | hl
  · refine ⟨by simp [txtH], fun z hz => ?_⟩
    simp only [txtH, List.mem_cons, List.not_mem_nil, or_false] at hz
    rcases hz with rfl | rfl | rfl | rfl | rfl | rfl | rfl | rfl | rfl | rfl | rfl
    · exact F _ (by decide) (by decide)
    · exact free_name h.name
    · exact F _ (by decide) (by decide)
    · exact free_dec _
    · exact F _ (by decide) (by decide)
    · exact free_keyt h.len.key h.key
    · exact F _ (by decide) (by decide)
    · exact free_ipx _
    · exact free_mact h.len.vmac h.vmac
    · exact F _ (by decide) (by decide)
    · exact free_mact h.len.host h.host
  · rcases List.mem_append.1 hl with hl | hl
    · unfold txtP at hl
      split at hl
      · simp at hl
      · simp only [List.mem_singleton] at hl
        subst hl
        refine ⟨by simp, fun z hz => ?_⟩
        rcases List.mem_cons.1 hz with rfl | hz
        · exact F _ (by decide) (by decide)
        · obtain ⟨x, -, rfl⟩ := List.mem_map.1 hz
          exact free_ipx _
    · simp only [List.mem_cons, List.mem_append, List.not_mem_nil, or_false] at hl
      rcases hl with rfl | rfl | hl | hl | rfl | rfl
      · exact two _ _ _ (F _ (by decide) (by decide)) (free_dec _) (free_dec _)
      · refine ⟨by simp, fun z hz => ?_⟩
        simp only [List.mem_cons, List.not_mem_nil, or_false] at hz
        rcases hz with rfl | rfl
        · exact F _ (by decide) (by decide)
        · exact free_fw _
      · unfold txtS at hl
        obtain ⟨p, -, rfl⟩ := List.mem_map.1 hl
        exact two _ _ _ (F _ (by decide) (by decide)) (free_ipx _) (free_ipx _)
      · unfold txtS at hl
        obtain ⟨p, -, rfl⟩ := List.mem_map.1 hl
        exact two _ _ _ (F _ (by decide) (by decide)) (free_ipx _) (free_ipx _)
      · exact two _ _ _ (F _ (by decide) (by decide)) (free_dec _) (free_dec _)
      · exact two _ _ _ (F _ (by decide) (by decide)) (free_dec _) (free_dec _)
theorem lfree_cfg {c : Cgf} (h : CFit c) : ∀ l ∈ lnsOf c, LFree l := by
  intro l hl
  unfold lnsOf at hl
  rcases List.mem_cons.1 hl with rfl | hl
  · refine ⟨by simp [txtG], fun z hz => ?_⟩
    simp only [txtG, List.mem_cons, List.not_mem_nil, or_false] at hz
    rcases hz with rfl | rfl | rfl | rfl | rfl | rfl | rfl | rfl
    · exact ⟨by decide, by decide⟩
    · exact free_ipx _
    · exact free_mact h.len.mac h.mac
    · exact free_mact h.len.omac h.omac
    · exact free_mact h.len.nmac h.nmac
    · exact free_keyt h.len.key h.key
    · exact ⟨by decide, by decide⟩
    · exact free_dec _
  · obtain ⟨t, ht, hl⟩ := List.mem_flatMap.1 hl
    exact lfree_ten (h.ten t ht) l hl
theorem tk_txt {c : Cgf} (h : CFit c) : tk (txt c) [] [] false = lnsOf c := by
  have := tk_lines [] (lnsOf c) (lfree_cfg h)
  rw [List.append_nil, tk_nil] at this
  simpa [txt, tend, tln] using this
/-- The text of settings is read back. -/
theorem parse_txt {c : Cgf} (h : CFit c) (hl : (txt c).length ≤ 32768) : parse ⟨(txt c).toArray⟩ = .ok c :=
  parse_of (by show (txt c).toArray.size ≤ _; simpa using hl) (tk_txt h) (reads_cfg h)
end La
end Go.Proofs.YtneciccdiledfaaGreatDoor

namespace Go.Proofs.YtneciccdiledfaaGreatDoor
open Go.RowKit
open Sm
open Cf
set_option linter.unusedVariables false
set_option linter.unusedSimpArgs false
set_option maxRecDepth 20000

set_option maxHeartbeats 4000000 in
theorem tdec_rt (l0 : List Int) : (tdec l0 = none ∧ (rt (some l0)).2 = none) ∨ ∃ t r, tdec l0 = some (t, r) ∧ (rt (some l0)).2 = some r ∧ (rt (some l0)).1 = t := by
  obtain ⟨dec, hdec⟩ : ∃ dec, (fun i => (tsp.getD i sp0).dec) = dec := ⟨_, rfl⟩
  have T : tdec l0 = sq dec 0 19 l0 ten0 := by rw [← hdec]; rfl
  rw [T]
  rcases name_step l0 with ⟨h1, h2⟩ | ⟨l1, h1, h2⟩
  · refine Or.inl ⟨sq_none ?_, rt_dead ?_⟩
    · rw [← hdec]
      show (dtxt l0).map _ = none
      rw [h1]
      rfl
    · have e1 : s1 (some l0) = none := h2
      simp only [s16, s15, s14, s13, s12, s11, s10, s9, s8, s7, s6, s5, s4, s3, s2, e1, nx]
  have e1 : s1 (some l0) = some l1 := h2
  obtain ⟨x1, hx1⟩ : ∃ x, { ten0 with name := rnm (some l0) } = x := ⟨_, rfl⟩
  have q0 : dec 0 l0 ten0 = some (x1, l1) := by
    rw [← hdec, ← hx1]
    show (dtxt l0).map _ = _
    rw [h1]
    rfl
  rw [sq_some q0]
  rcases num_step 4 l1 with ⟨a1, b1⟩ | ⟨a1, b1, c1⟩
  · refine Or.inl ⟨sq_none ?_, rt_dead ?_⟩
    · rw [← hdec]
      show (if l1.length < 4 then none else some _) = none
      rw [if_pos a1]
    · have e : s2 (some l0) = none := by show nx 4 (s1 (some l0)) = none; rw [e1]; exact b1
      simp only [s16, s15, s14, s13, s12, s11, s10, s9, s8, s7, s6, s5, s4, s3, e, nx]
  obtain ⟨l2, hl2⟩ : ∃ l', l1.drop 4 = l' := ⟨_, rfl⟩
  obtain ⟨v1, hv1⟩ : ∃ v, num (l1.take 4) = v := ⟨_, rfl⟩
  have e2 : s2 (some l0) = some l2 := by show nx 4 (s1 (some l0)) = _; rw [e1, c1, hl2]
  have f1 : num (tk 4 (s1 (some l0))) = v1 := by rw [e1, b1, hv1]
  obtain ⟨x2, hx2⟩ : ∃ x, { x1 with vni := v1 } = x := ⟨_, rfl⟩
  have q1 : dec 1 l1 x1 = some (x2, l2) := by
    rw [← hdec, ← hx2, ← hl2, ← hv1]
    show (if l1.length < 4 then none else some _) = _
    rw [if_neg a1]
  rw [sq_some q1]
  rcases num_step 8 l2 with ⟨a2, b2⟩ | ⟨a2, b2, c2⟩
  · refine Or.inl ⟨sq_none ?_, rt_dead ?_⟩
    · rw [← hdec]
      show (if l2.length < 8 then none else some _) = none
      rw [if_pos a2]
    · have e : s3 (some l0) = none := by show nx 8 (s2 (some l0)) = none; rw [e2]; exact b2
      simp only [s16, s15, s14, s13, s12, s11, s10, s9, s8, s7, s6, s5, s4, e, nx]
  obtain ⟨l3, hl3⟩ : ∃ l', l2.drop 8 = l' := ⟨_, rfl⟩
  obtain ⟨v2, hv2⟩ : ∃ v, l2.take 8 = v := ⟨_, rfl⟩
  have e3 : s3 (some l0) = some l3 := by show nx 8 (s2 (some l0)) = _; rw [e2, c2, hl3]
  have f2 : tk 8 (s2 (some l0)) = v2 := by rw [e2, b2, hv2]
  obtain ⟨x3, hx3⟩ : ∃ x, { x2 with key := v2 } = x := ⟨_, rfl⟩
  have q2 : dec 2 l2 x2 = some (x3, l3) := by
    rw [← hdec, ← hx3, ← hl3, ← hv2]
    show (if l2.length < 8 then none else some _) = _
    rw [if_neg a2]
  rw [sq_some q2]
  rcases num_step 4 l3 with ⟨a3, b3⟩ | ⟨a3, b3, c3⟩
  · refine Or.inl ⟨sq_none ?_, rt_dead ?_⟩
    · rw [← hdec]
      show (if l3.length < 4 then none else some _) = none
      rw [if_pos a3]
    · have e : s4 (some l0) = none := by show nx 4 (s3 (some l0)) = none; rw [e3]; exact b3
      simp only [s16, s15, s14, s13, s12, s11, s10, s9, s8, s7, s6, s5, e, nx]
  obtain ⟨l4, hl4⟩ : ∃ l', l3.drop 4 = l' := ⟨_, rfl⟩
  obtain ⟨v3, hv3⟩ : ∃ v, num (l3.take 4) = v := ⟨_, rfl⟩
  have e4 : s4 (some l0) = some l4 := by show nx 4 (s3 (some l0)) = _; rw [e3, c3, hl4]
  have f3 : num (tk 4 (s3 (some l0))) = v3 := by rw [e3, b3, hv3]
  obtain ⟨x4, hx4⟩ : ∃ x, { x3 with vtep := v3 } = x := ⟨_, rfl⟩
  have q3 : dec 3 l3 x3 = some (x4, l4) := by
    rw [← hdec, ← hx4, ← hl4, ← hv3]
    show (if l3.length < 4 then none else some _) = _
    rw [if_neg a3]
  rw [sq_some q3]
  rcases num_step 6 l4 with ⟨a4, b4⟩ | ⟨a4, b4, c4⟩
  · refine Or.inl ⟨sq_none ?_, rt_dead ?_⟩
    · rw [← hdec]
      show (if l4.length < 6 then none else some _) = none
      rw [if_pos a4]
    · have e : s5 (some l0) = none := by show nx 6 (s4 (some l0)) = none; rw [e4]; exact b4
      simp only [s16, s15, s14, s13, s12, s11, s10, s9, s8, s7, s6, e, nx]
  obtain ⟨l5, hl5⟩ : ∃ l', l4.drop 6 = l' := ⟨_, rfl⟩
  obtain ⟨v4, hv4⟩ : ∃ v, l4.take 6 = v := ⟨_, rfl⟩
  have e5 : s5 (some l0) = some l5 := by show nx 6 (s4 (some l0)) = _; rw [e4, c4, hl5]
  have f4 : tk 6 (s4 (some l0)) = v4 := by rw [e4, b4, hv4]
  obtain ⟨x5, hx5⟩ : ∃ x, { x4 with vmac := v4 } = x := ⟨_, rfl⟩
  have q4 : dec 4 l4 x4 = some (x5, l5) := by
    rw [← hdec, ← hx5, ← hl5, ← hv4]
    show (if l4.length < 6 then none else some _) = _
    rw [if_neg a4]
  rw [sq_some q4]
  rcases num_step 6 l5 with ⟨a5, b5⟩ | ⟨a5, b5, c5⟩
  · refine Or.inl ⟨sq_none ?_, rt_dead ?_⟩
    · rw [← hdec]
      show (if l5.length < 6 then none else some _) = none
      rw [if_pos a5]
    · have e : s6 (some l0) = none := by show nx 6 (s5 (some l0)) = none; rw [e5]; exact b5
      simp only [s16, s15, s14, s13, s12, s11, s10, s9, s8, s7, e, nx]
  obtain ⟨l6, hl6⟩ : ∃ l', l5.drop 6 = l' := ⟨_, rfl⟩
  obtain ⟨v5, hv5⟩ : ∃ v, l5.take 6 = v := ⟨_, rfl⟩
  have e6 : s6 (some l0) = some l6 := by show nx 6 (s5 (some l0)) = _; rw [e5, c5, hl6]
  have f5 : tk 6 (s5 (some l0)) = v5 := by rw [e5, b5, hv5]
  obtain ⟨x6, hx6⟩ : ∃ x, { x5 with host := v5 } = x := ⟨_, rfl⟩
  have q5 : dec 5 l5 x5 = some (x6, l6) := by
    rw [← hdec, ← hx6, ← hl6, ← hv5]
    show (if l5.length < 6 then none else some _) = _
    rw [if_neg a5]
  rw [sq_some q5]
  rcases num_step 2 l6 with ⟨a6, b6⟩ | ⟨a6, b6, c6⟩
  · refine Or.inl ⟨sq_none ?_, rt_dead ?_⟩
    · rw [← hdec]
      show (if l6.length < 2 then none else some _) = none
      rw [if_pos a6]
    · have e : s7 (some l0) = none := by show nx 2 (s6 (some l0)) = none; rw [e6]; exact b6
      simp only [s16, s15, s14, s13, s12, s11, s10, s9, s8, e, nx]
  obtain ⟨l7, hl7⟩ : ∃ l', l6.drop 2 = l' := ⟨_, rfl⟩
  obtain ⟨v6, hv6⟩ : ∃ v, num (l6.take 2) = v := ⟨_, rfl⟩
  have e7 : s7 (some l0) = some l7 := by show nx 2 (s6 (some l0)) = _; rw [e6, c6, hl7]
  have f6 : num (tk 2 (s6 (some l0))) = v6 := by rw [e6, b6, hv6]
  obtain ⟨x7, hx7⟩ : ∃ x, { x6 with lo := v6 } = x := ⟨_, rfl⟩
  have q6 : dec 6 l6 x6 = some (x7, l7) := by
    rw [← hdec, ← hx7, ← hl7, ← hv6]
    show (if l6.length < 2 then none else some _) = _
    rw [if_neg a6]
  rw [sq_some q6]
  rcases num_step 2 l7 with ⟨a7, b7⟩ | ⟨a7, b7, c7⟩
  · refine Or.inl ⟨sq_none ?_, rt_dead ?_⟩
    · rw [← hdec]
      show (if l7.length < 2 then none else some _) = none
      rw [if_pos a7]
    · have e : s8 (some l0) = none := by show nx 2 (s7 (some l0)) = none; rw [e7]; exact b7
      simp only [s16, s15, s14, s13, s12, s11, s10, s9, e, nx]
  obtain ⟨l8, hl8⟩ : ∃ l', l7.drop 2 = l' := ⟨_, rfl⟩
  obtain ⟨v7, hv7⟩ : ∃ v, num (l7.take 2) = v := ⟨_, rfl⟩
  have e8 : s8 (some l0) = some l8 := by show nx 2 (s7 (some l0)) = _; rw [e7, c7, hl8]
  have f7 : num (tk 2 (s7 (some l0))) = v7 := by rw [e7, b7, hv7]
  obtain ⟨x8, hx8⟩ : ∃ x, { x7 with hi := v7 } = x := ⟨_, rfl⟩
  have q7 : dec 7 l7 x7 = some (x8, l8) := by
    rw [← hdec, ← hx8, ← hl8, ← hv7]
    show (if l7.length < 2 then none else some _) = _
    rw [if_neg a7]
  rw [sq_some q7]
  rcases num_step 1 l8 with ⟨a8, b8⟩ | ⟨a8, b8, c8⟩
  · refine Or.inl ⟨sq_none ?_, rt_dead ?_⟩
    · rw [← hdec]
      show (if l8.length < 1 then none else some _) = none
      rw [if_pos a8]
    · have e : s9 (some l0) = none := by show nx 1 (s8 (some l0)) = none; rw [e8]; exact b8
      simp only [s16, s15, s14, s13, s12, s11, s10, e, nx]
  obtain ⟨l9, hl9⟩ : ∃ l', l8.drop 1 = l' := ⟨_, rfl⟩
  obtain ⟨v8, hv8⟩ : ∃ v, num (l8.take 1) = v := ⟨_, rfl⟩
  have e9 : s9 (some l0) = some l9 := by show nx 1 (s8 (some l0)) = _; rw [e8, c8, hl9]
  have f8 : num (tk 1 (s8 (some l0))) = v8 := by rw [e8, b8, hv8]
  obtain ⟨x9, hx9⟩ : ∃ x, { x8 with filter := v8 } = x := ⟨_, rfl⟩
  have q8 : dec 8 l8 x8 = some (x9, l9) := by
    rw [← hdec, ← hx9, ← hl9, ← hv8]
    show (if l8.length < 1 then none else some _) = _
    rw [if_neg a8]
  rw [sq_some q8]
  rcases num_step 2 l9 with ⟨a9, b9⟩ | ⟨a9, b9, c9⟩
  · refine Or.inl ⟨sq_none ?_, rt_dead ?_⟩
    · rw [← hdec]
      show (if l9.length < 2 then none else some _) = none
      rw [if_pos a9]
    · have e : s10 (some l0) = none := by show nx 2 (s9 (some l0)) = none; rw [e9]; exact b9
      simp only [s16, s15, s14, s13, s12, s11, e, nx]
  obtain ⟨l10, hl10⟩ : ∃ l', l9.drop 2 = l' := ⟨_, rfl⟩
  obtain ⟨v9, hv9⟩ : ∃ v, num (l9.take 2) = v := ⟨_, rfl⟩
  have e10 : s10 (some l0) = some l10 := by show nx 2 (s9 (some l0)) = _; rw [e9, c9, hl10]
  have f9 : num (tk 2 (s9 (some l0))) = v9 := by rw [e9, b9, hv9]
  obtain ⟨x10, hx10⟩ : ∃ x, { x9 with sess := v9 } = x := ⟨_, rfl⟩
  have q9 : dec 9 l9 x9 = some (x10, l10) := by
    rw [← hdec, ← hx10, ← hl10, ← hv9]
    show (if l9.length < 2 then none else some _) = _
    rw [if_neg a9]
  rw [sq_some q9]
  rcases num_step 2 l10 with ⟨a10, b10⟩ | ⟨a10, b10, c10⟩
  · refine Or.inl ⟨sq_none ?_, rt_dead ?_⟩
    · rw [← hdec]
      show (if l10.length < 2 then none else some _) = none
      rw [if_pos a10]
    · have e : s11 (some l0) = none := by show nx 2 (s10 (some l0)) = none; rw [e10]; exact b10
      simp only [s16, s15, s14, s13, s12, e, nx]
  obtain ⟨l11, hl11⟩ : ∃ l', l10.drop 2 = l' := ⟨_, rfl⟩
  obtain ⟨v10, hv10⟩ : ∃ v, num (l10.take 2) = v := ⟨_, rfl⟩
  have e11 : s11 (some l0) = some l11 := by show nx 2 (s10 (some l0)) = _; rw [e10, c10, hl11]
  have f10 : num (tk 2 (s10 (some l0))) = v10 := by rw [e10, b10, hv10]
  obtain ⟨x11, hx11⟩ : ∃ x, { x10 with queue := v10 } = x := ⟨_, rfl⟩
  have q10 : dec 10 l10 x10 = some (x11, l11) := by
    rw [← hdec, ← hx11, ← hl11, ← hv10]
    show (if l10.length < 2 then none else some _) = _
    rw [if_neg a10]
  rw [sq_some q10]
  rcases num_step 4 l11 with ⟨a11, b11⟩ | ⟨a11, b11, c11⟩
  · refine Or.inl ⟨sq_none ?_, rt_dead ?_⟩
    · rw [← hdec]
      show (if l11.length < 4 then none else some _) = none
      rw [if_pos a11]
    · have e : s12 (some l0) = none := by show nx 4 (s11 (some l0)) = none; rw [e11]; exact b11
      simp only [s16, s15, s14, s13, e, nx]
  obtain ⟨l12, hl12⟩ : ∃ l', l11.drop 4 = l' := ⟨_, rfl⟩
  obtain ⟨v11, hv11⟩ : ∃ v, num (l11.take 4) = v := ⟨_, rfl⟩
  have e12 : s12 (some l0) = some l12 := by show nx 4 (s11 (some l0)) = _; rw [e11, c11, hl12]
  have f11 : num (tk 4 (s11 (some l0))) = v11 := by rw [e11, b11, hv11]
  obtain ⟨x12, hx12⟩ : ∃ x, { x11 with rate := v11 } = x := ⟨_, rfl⟩
  have q11 : dec 11 l11 x11 = some (x12, l12) := by
    rw [← hdec, ← hx12, ← hl12, ← hv11]
    show (if l11.length < 4 then none else some _) = _
    rw [if_neg a11]
  rw [sq_some q11]
  rcases num_step 4 l12 with ⟨a12, b12⟩ | ⟨a12, b12, c12⟩
  · refine Or.inl ⟨sq_none ?_, rt_dead ?_⟩
    · rw [← hdec]
      show (if l12.length < 4 then none else some _) = none
      rw [if_pos a12]
    · have e : s13 (some l0) = none := by show nx 4 (s12 (some l0)) = none; rw [e12]; exact b12
      simp only [s16, s15, s14, e, nx]
  obtain ⟨l13, hl13⟩ : ∃ l', l12.drop 4 = l' := ⟨_, rfl⟩
  obtain ⟨v12, hv12⟩ : ∃ v, num (l12.take 4) = v := ⟨_, rfl⟩
  have e13 : s13 (some l0) = some l13 := by show nx 4 (s12 (some l0)) = _; rw [e12, c12, hl13]
  have f12 : num (tk 4 (s12 (some l0))) = v12 := by rw [e12, b12, hv12]
  obtain ⟨x13, hx13⟩ : ∃ x, { x12 with burst := v12 } = x := ⟨_, rfl⟩
  have q12 : dec 12 l12 x12 = some (x13, l13) := by
    rw [← hdec, ← hx13, ← hl13, ← hv12]
    show (if l12.length < 4 then none else some _) = _
    rw [if_neg a12]
  rw [sq_some q12]
  rcases cnt_step l13 with ⟨a13, b13⟩ | ⟨m13, l14, a13, b13, c13⟩
  · refine Or.inl ⟨sq_none ?_, rt_dead ?_⟩
    · rw [← hdec, a13]
      rfl
    · have e : s14 (some l0) = none := by show nx 1 (s13 (some l0)) = none; rw [e13]; exact b13
      simp only [s16, s15, e, nx]
  have e14 : s14 (some l0) = some l14 := by show nx 1 (s13 (some l0)) = _; rw [e13]; exact c13
  have f13 : rx (some l0) = m13.toNat := by show (num (tk 1 (s13 (some l0)))).toNat = _; rw [e13, b13]
  obtain ⟨x14, hx14⟩ : ∃ x, { x13 with pool := List.replicate m13.toNat 0 } = x := ⟨_, rfl⟩
  have p13 : x13.pool = [] := by simp only [← hx13, ← hx12, ← hx11, ← hx10, ← hx9, ← hx8, ← hx7, ← hx6, ← hx5, ← hx4, ← hx3, ← hx2, ← hx1]; rfl
  have q13 : dec 13 l13 x13 = some (x14, l14) := by
    rw [← hdec, ← hx14, a13, ← set_pool_eq x13 m13.toNat p13]
    rfl
  rw [sq_some q13]
  rcases cnt_step l14 with ⟨a14, b14⟩ | ⟨m14, l15, a14, b14, c14⟩
  · refine Or.inl ⟨sq_none ?_, rt_dead ?_⟩
    · rw [← hdec, a14]
      rfl
    · have e : s15 (some l0) = none := by show nx 1 (s14 (some l0)) = none; rw [e14]; exact b14
      simp only [s16, e, nx]
  have e15 : s15 (some l0) = some l15 := by show nx 1 (s14 (some l0)) = _; rw [e14]; exact c14
  have f14 : ry (some l0) = m14.toNat := by show (num (tk 1 (s14 (some l0)))).toNat = _; rw [e14, b14]
  obtain ⟨x15, hx15⟩ : ∃ x, { x14 with stat := List.replicate m14.toNat (0, 0) } = x := ⟨_, rfl⟩
  have p14 : x14.stat = [] := by simp only [← hx14, ← hx13, ← hx12, ← hx11, ← hx10, ← hx9, ← hx8, ← hx7, ← hx6, ← hx5, ← hx4, ← hx3, ← hx2, ← hx1]; rfl
  have q14 : dec 14 l14 x14 = some (x15, l15) := by
    rw [← hdec, ← hx15, a14, ← set_stat_eq x14 m14.toNat p14]
    rfl
  rw [sq_some q14]
  rcases cnt_step l15 with ⟨a15, b15⟩ | ⟨m15, l16, a15, b15, c15⟩
  · refine Or.inl ⟨sq_none ?_, rt_dead ?_⟩
    · rw [← hdec, a15]
      rfl
    · have e : s16 (some l0) = none := by show nx 1 (s15 (some l0)) = none; rw [e15]; exact b15
      simp only [e, nx]
  have e16 : s16 (some l0) = some l16 := by show nx 1 (s15 (some l0)) = _; rw [e15]; exact c15
  have f15 : rz (some l0) = m15.toNat := by show (num (tk 1 (s15 (some l0)))).toNat = _; rw [e15, b15]
  obtain ⟨x16, hx16⟩ : ∃ x, { x15 with twi := List.replicate m15.toNat (0, 0) } = x := ⟨_, rfl⟩
  have p15 : x15.twi = [] := by simp only [← hx15, ← hx14, ← hx13, ← hx12, ← hx11, ← hx10, ← hx9, ← hx8, ← hx7, ← hx6, ← hx5, ← hx4, ← hx3, ← hx2, ← hx1]; rfl
  have q15 : dec 15 l15 x15 = some (x16, l16) := by
    rw [← hdec, ← hx16, a15, ← set_twi_eq x15 m15.toNat p15]
    rfl
  rw [sq_some q15]
  have hp : x16.pool = List.replicate m13.toNat 0 := by simp only [← hx16, ← hx15, ← hx14]
  have hs : x16.stat = List.replicate m14.toNat (0, 0) := by simp only [← hx16, ← hx15]
  have hq : x16.twi = List.replicate m15.toNat (0, 0) := by simp only [← hx16]
  rcases pls_dec m13.toNat 0 l16 (List.replicate m13.toNat 0) (by simp) with ⟨u1, u2⟩ | ⟨r1, u1, u2⟩
  · refine Or.inl ⟨sq_none ?_, ?_⟩
    · rw [← hdec]
      show (sq (itd 0 spU) 0 x16.pool.length l16 x16.pool).map _ = none
      rw [hp, List.length_replicate, u1]
      rfl
    · simp only [rt, f13, e16, u2, prs_none]
  obtain ⟨x17, hx17⟩ : ∃ x, { x16 with pool := (pls m13.toNat (some l16)).1 } = x := ⟨_, rfl⟩
  have q16 : dec 16 l16 x16 = some (x17, r1) := by
    rw [← hdec, ← hx17]
    show (sq (itd 0 spU) 0 x16.pool.length l16 x16.pool).map _ = _
    rw [hp, List.length_replicate, u1]
    rfl
  rw [sq_some q16]
  have hs2 : x17.stat = List.replicate m14.toNat (0, 0) := by rw [← hx17]; exact hs
  have hq2 : x17.twi = List.replicate m15.toNat (0, 0) := by rw [← hx17]; exact hq
  rcases prs_dec m14.toNat 0 r1 (List.replicate m14.toNat (0, 0)) (by simp) with ⟨w1, w2⟩ | ⟨r2, w1, w2⟩
  · refine Or.inl ⟨sq_none ?_, ?_⟩
    · rw [← hdec]
      show (sq (itd (0, 0) spP) 0 x17.stat.length r1 x17.stat).map _ = none
      rw [hs2, List.length_replicate, w1]
      rfl
    · simp only [rt, f13, f14, e16, u2, w2, prs_none]
  obtain ⟨x18, hx18⟩ : ∃ x, { x17 with stat := (prs m14.toNat (some r1)).1 } = x := ⟨_, rfl⟩
  have q17 : dec 17 r1 x17 = some (x18, r2) := by
    rw [← hdec, ← hx18]
    show (sq (itd (0, 0) spP) 0 x17.stat.length r1 x17.stat).map _ = _
    rw [hs2, List.length_replicate, w1]
    rfl
  rw [sq_some q17]
  have hq3 : x18.twi = List.replicate m15.toNat (0, 0) := by rw [← hx18]; exact hq2
  rcases prs_dec m15.toNat 0 r2 (List.replicate m15.toNat (0, 0)) (by simp) with ⟨y1, y2⟩ | ⟨r3, y1, y2⟩
  · refine Or.inl ⟨sq_none ?_, ?_⟩
    · rw [← hdec]
      show (sq (itd (0, 0) spP) 0 x18.twi.length r2 x18.twi).map _ = none
      rw [hq3, List.length_replicate, y1]
      rfl
    · simp only [rt, f13, f14, f15, e16, u2, w2, y2]
  obtain ⟨x19, hx19⟩ : ∃ x, { x18 with twi := (prs m15.toNat (some r2)).1 } = x := ⟨_, rfl⟩
  have q18 : dec 18 r2 x18 = some (x19, r3) := by
    rw [← hdec, ← hx19]
    show (sq (itd (0, 0) spP) 0 x18.twi.length r2 x18.twi).map _ = _
    rw [hq3, List.length_replicate, y1]
    rfl
  rw [sq_some q18]
  refine Or.inr ⟨x19, r3, rfl, ?_, ?_⟩
  · simp only [rt, f13, f14, f15, e16, u2, w2, y2]
  · simp only [rt, rhd, f1, f2, f3, f4, f5, f6, f7, f8, f9, f10, f11, f12, f13, f14, f15, e16, u2, w2, y2, ← hx19, ← hx18, ← hx17, ← hx16, ← hx15, ← hx14, ← hx13, ← hx12, ← hx11, ← hx10, ← hx9, ← hx8, ← hx7, ← hx6, ← hx5, ← hx4, ← hx3, ← hx2, ← hx1]
    try rfl
end Go.Proofs.YtneciccdiledfaaGreatDoor

namespace Go.Proofs.YtneciccdiledfaaGreatDoor
open Go.RowKit
open Sm
open Cf
set_option linter.unusedVariables false
set_option maxRecDepth 20000

instance (t z : Ten) : Decidable (TSame t z) := by unfold TSame; infer_instance
theorem eq_same (t z : Ten) : spT.eq t z = decide (TSame t z) := by
  by_cases h : TSame t z
  · rw [decide_eq_true h]
    obtain ⟨h0, h1, h2, h3, h4, h5, h6, h7, h8, h9, h10, h11, h12, h13, h14, h15⟩ := h
    apply decide_eq_true
    intro i hi
    match i, hi with
    | 0, _ => exact decide_eq_true h0
    | 1, _ => exact decide_eq_true h1
    | 2, _ => exact decide_eq_true h2
    | 3, _ => exact decide_eq_true h3
    | 4, _ => exact decide_eq_true h4
    | 5, _ => exact decide_eq_true h5
    | 6, _ => exact decide_eq_true h7
    | 7, _ => exact decide_eq_true h8
    | 8, _ => exact decide_eq_true h9
    | 9, _ => exact decide_eq_true h12
    | 10, _ => exact decide_eq_true h13
    | 11, _ => exact decide_eq_true h14
    | 12, _ => exact decide_eq_true h15
    | 13, _ => exact decide_eq_true (congrArg List.length h6)
    | 14, _ => exact decide_eq_true (congrArg List.length h10)
    | 15, _ => exact decide_eq_true (congrArg List.length h11)
    | 16, _ => exact decide_eq_true h6
    | 17, _ => exact decide_eq_true h10
    | 18, _ => exact decide_eq_true h11
    | n + 19, h => exact absurd (show n + 19 < 19 from h) (by omega)
  · rw [decide_eq_false h]
    apply decide_eq_false
    intro hc
    apply h
    exact ⟨of_decide_eq_true (hc 0 (by decide)), of_decide_eq_true (hc 1 (by decide)), of_decide_eq_true (hc 2 (by decide)), of_decide_eq_true (hc 3 (by decide)), of_decide_eq_true (hc 4 (by decide)), of_decide_eq_true (hc 5 (by decide)), of_decide_eq_true (hc 16 (by decide)), of_decide_eq_true (hc 6 (by decide)), of_decide_eq_true (hc 7 (by decide)), of_decide_eq_true (hc 8 (by decide)), of_decide_eq_true (hc 17 (by decide)), of_decide_eq_true (hc 18 (by decide)), of_decide_eq_true (hc 9 (by decide)), of_decide_eq_true (hc 10 (by decide)), of_decide_eq_true (hc 11 (by decide)), of_decide_eq_true (hc 12 (by decide))⟩
theorem Rw.at_ {w V : World} {n : Nat} {v : Value} {xs : List (List Value)} (h : Rw w n v xs) (hne : ∀ x ∈ xs, x ≠ []) (hb : Below w.heap.size w V) : Rw V n v xs := h.below hne hb (Nat.le_refl _)
set_option maxHeartbeats 8000000 in
theorem htenant_any {w : World} {va vb : Value} {t z : Ten} (ha : TV w va t) (hb : TV w vb z) (hp : t.pool.length ≤ 1000000) (hs : t.stat.length ≤ 1000000) (hq : t.twi.length ≤ 1000000) :
    Calls Tryz.prog 57 #[va, vb] w fun e w' => e = .returned (.bool (decide (TSame t z))) ∧ Below w.heap.size w w' := by
  obtain ⟨hl, p, s, q, rfl, r1, r2, r3⟩ := ha
  obtain ⟨hl', p', s', q', rfl, r1', r2', r3'⟩ := hb
  have CN := fun V (hV : Below w.heap.size w V) => nums_any p p' t.pool z.pool (r1.at_ ux_ne hV) (r1'.at_ ux_ne hV) hp
  have CP := fun V (hV : Below w.heap.size w V) => pairs_any s s' t.stat z.stat (r2.at_ px_ne hV) (r2'.at_ px_ne hV) hs
  have CQ := fun V (hV : Below w.heap.size w V) => pairs_any q q' t.twi z.twi (r3.at_ px_ne hV) (r3'.at_ px_ne hV) hq
  obtain ⟨pa, pc, rfl, -⟩ := r1
  obtain ⟨sa, sc, rfl, -⟩ := r2
  obtain ⟨qa, qc, rfl, -⟩ := r3
  obtain ⟨pa', pc', rfl, -⟩ := r1'
  obtain ⟨sa', sc', rfl, -⟩ := r2'
  obtain ⟨qa', qc', rfl, -⟩ := r3'
  generalize (ux t.pool).length = pn at *
  generalize (px t.stat).length = sn at *
  generalize (px t.twi).length = qn at *
  generalize (ux z.pool).length = pn' at *
  generalize (px z.stat).length = sn' at *
  generalize (px z.twi).length = qn' at *
  obtain ⟨n, vn, key, vt, vm, ho, po, lo, hi, fi, st, tw, se, qu, ra, bu⟩ := t
  obtain ⟨n', vn', key', vt', vm', ho', po', lo', hi', fi', st', tw', se', qu', ra', bu'⟩ := z
  obtain ⟨h1, h2, h3⟩ := hl
  obtain ⟨a, b, c, d, f, g, x, y, rfl⟩ := eight8 h1
  obtain ⟨a1, b1, c1, d1, f1, g1, rfl⟩ := six6 h2
  obtain ⟨a2, b2, c2, d2, f2, g2, rfl⟩ := six6 h3
  obtain ⟨h1', h2', h3'⟩ := hl'
  obtain ⟨a', b', c', d', f', g', x', y', rfl⟩ := eight8 h1'
  obtain ⟨a1', b1', c1', d1', f1', g1', rfl⟩ := six6 h2'
  obtain ⟨a2', b2', c2', d2', f2', g2', rfl⟩ := six6 h3'
  simp only at CN CP CQ
  by_cases h10 : (sb n = sb n')
  rotate_left
  · rw [decide_eq_false (fun e => h10 e.1)]
    exact ht_0 h10 CN CP CQ
  by_cases h11 : (vn = vn')
  rotate_left
  · rw [decide_eq_false (fun e => h11 e.2.1)]
    exact ht_1 h10 h11 CN CP CQ
  by_cases h12 : ([a, b, c, d, f, g, x, y] = [a', b', c', d', f', g', x', y'])
  rotate_left
  · rw [decide_eq_false (fun e => h12 e.2.2.1)]
    exact ht_2 h10 h11 h12 CN CP CQ
  by_cases h13 : (vt = vt')
  rotate_left
  · rw [decide_eq_false (fun e => h13 e.2.2.2.1)]
    exact ht_3 h10 h11 h12 h13 CN CP CQ
  by_cases h14 : ([a1, b1, c1, d1, f1, g1] = [a1', b1', c1', d1', f1', g1'])
  rotate_left
  · rw [decide_eq_false (fun e => h14 e.2.2.2.2.1)]
    exact ht_4 h10 h11 h12 h13 h14 CN CP CQ
  by_cases h15 : ([a2, b2, c2, d2, f2, g2] = [a2', b2', c2', d2', f2', g2'])
  rotate_left
  · rw [decide_eq_false (fun e => h15 e.2.2.2.2.2.1)]
    exact ht_5 h10 h11 h12 h13 h14 h15 CN CP CQ
  by_cases h16 : (po = po')
  rotate_left
  · rw [decide_eq_false (fun e => h16 e.2.2.2.2.2.2.1)]
    exact ht_6 h10 h11 h12 h13 h14 h15 h16 CN CP CQ
  by_cases h17 : (lo = lo')
  rotate_left
  · rw [decide_eq_false (fun e => h17 e.2.2.2.2.2.2.2.1)]
    exact ht_7 h10 h11 h12 h13 h14 h15 h16 h17 CN CP CQ
  by_cases h18 : (hi = hi')
  rotate_left
  · rw [decide_eq_false (fun e => h18 e.2.2.2.2.2.2.2.2.1)]
    exact ht_8 h10 h11 h12 h13 h14 h15 h16 h17 h18 CN CP CQ
  by_cases h19 : (fi = fi')
  rotate_left
  · rw [decide_eq_false (fun e => h19 e.2.2.2.2.2.2.2.2.2.1)]
    exact ht_9 h10 h11 h12 h13 h14 h15 h16 h17 h18 h19 CN CP CQ
  by_cases h20 : (st = st')
  rotate_left
  · rw [decide_eq_false (fun e => h20 e.2.2.2.2.2.2.2.2.2.2.1)]
    exact ht_10 h10 h11 h12 h13 h14 h15 h16 h17 h18 h19 h20 CN CP CQ
  by_cases h21 : (tw = tw')
  rotate_left
  · rw [decide_eq_false (fun e => h21 e.2.2.2.2.2.2.2.2.2.2.2.1)]
    exact ht_11 h10 h11 h12 h13 h14 h15 h16 h17 h18 h19 h20 h21 CN CP CQ
  by_cases h22 : (se = se')
  rotate_left
  · rw [decide_eq_false (fun e => h22 e.2.2.2.2.2.2.2.2.2.2.2.2.1)]
    exact ht_12 h10 h11 h12 h13 h14 h15 h16 h17 h18 h19 h20 h21 h22 CN CP CQ
  by_cases h23 : (qu = qu')
  rotate_left
  · rw [decide_eq_false (fun e => h23 e.2.2.2.2.2.2.2.2.2.2.2.2.2.1)]
    exact ht_13 h10 h11 h12 h13 h14 h15 h16 h17 h18 h19 h20 h21 h22 h23 CN CP CQ
  by_cases h24 : (ra = ra')
  rotate_left
  · rw [decide_eq_false (fun e => h24 e.2.2.2.2.2.2.2.2.2.2.2.2.2.2.1)]
    exact ht_14 h10 h11 h12 h13 h14 h15 h16 h17 h18 h19 h20 h21 h22 h23 h24 CN CP CQ
  by_cases h25 : (bu = bu')
  rotate_left
  · rw [decide_eq_false (fun e => h25 e.2.2.2.2.2.2.2.2.2.2.2.2.2.2.2)]
    exact ht_15 h10 h11 h12 h13 h14 h15 h16 h17 h18 h19 h20 h21 h22 h23 h24 h25 CN CP CQ
  rw [decide_eq_true ⟨h10, h11, h12, h13, h14, h15, h16, h17, h18, h19, h20, h21, h22, h23, h24, h25⟩]
  exact ht_16 h10 h11 h12 h13 h14 h15 h16 h17 h18 h19 h20 h21 h22 h23 h24 h25 CN CP CQ
end Go.Proofs.YtneciccdiledfaaGreatDoor

namespace Go.Proofs.YtneciccdiledfaaGreatDoor
open Go.RowKit
open Sm
open Cf
set_option linter.unusedVariables false
set_option maxRecDepth 20000

end Go.Proofs.YtneciccdiledfaaGreatDoor

