/-
  Settings as text: the words of settings, and that they are read back.
  Settings as bytes: what the document's reader reads of a tenant is what the program's fields read.
  Settings held against one another: lychhelp.Tenant and the program's Same tell the same.
  Settings as bytes: the program's whole (lych/api.Config): what all bytes are.
-/
import Derived.Test.YtneciccdiledfaaGreatDoorMx29
import Derived.Lib.SpaceUEq
import Derived.Test.YtneciccdiledfaaGreatDoorMx25
import Derived.Test.YtneciccdiledfaaGreatDoorMx28
import Derived.Test.YtneciccdiledfaaGreatDoorMx27
import Derived.Test.YtneciccdiledfaaGreatDoorMx26
import Derived.Test.YtneciccdiledfaaGreatDoorMx22
set_option linter.unusedVariables false
set_option linter.unusedSimpArgs false
set_option maxRecDepth 20000
namespace Go.Proofs.YtneciccdiledfaaGreatDoor
open Go.RowKit
open Ad
open Go.Lib (decDigits)
open Sm (IsBytes)
namespace La
def dec (n : Int) : List UInt8 := decDigits n.toNat
def ipx (n : Int) : List UInt8 := ipt n.toNat
def fw (n : Int) : List UInt8 := if n = 1 then wAddress else if n = 2 then wPort else wAny
def txtG (c : Cgf) : List (List UInt8) := [wGateway, ipx c.ip, mact c.mac, mact c.omac, mact c.nmac, keyt c.key, wDrain, dec c.drain]
def txtH (t : Ten) : List (List UInt8) := [wTenant, t.name.data.toList, wVni, dec t.vni, wKey, keyt t.key, wVtep, ipx t.vtep, mact t.vmac, wHost, mact t.host]
def txtP (t : Ten) : List (List (List UInt8)) := if t.pool = [] then [] else [wPool :: t.pool.map ipx]
def txtS (b : List UInt8) (l : List (Int × Int)) : List (List (List UInt8)) := l.map fun p => [b, ipx p.1, ipx p.2]
def txtR (t : Ten) : List (List (List UInt8)) := txtP t ++ ([wPorts, dec t.lo, dec t.hi] :: [wFilter, fw t.filter] :: (txtS wStatic t.stat ++ (txtS wTwice t.twi ++ [[wQuota, dec t.sess, dec t.queue], [wRate, dec t.rate, dec t.burst]])))
def txtT (t : Ten) : List (List (List UInt8)) := txtH t :: txtR t
def lnsOf (c : Cgf) : List (List (List UInt8)) := txtG c :: c.ten.flatMap txtT
def txt (c : Cgf) : List UInt8 := (lnsOf c).flatMap spc
def R32 (x : Int) : Prop := 0 ≤ x ∧ x < 4294967296
structure TFit (t : Ten) : Prop where
 len : TLen t
 name : nam t.name.data.toList = true
 vni : 0 ≤ t.vni ∧ t.vni ≤ 16777215
 key : IsBytes t.key
 vtep : R32 t.vtep
 vmac : IsBytes t.vmac
 host : IsBytes t.host
 pool : ∀ x ∈ t.pool, R32 x
 lo : 0 ≤ t.lo ∧ t.lo ≤ 65535
 hi : 0 ≤ t.hi ∧ t.hi ≤ 65535
 filter : 0 ≤ t.filter ∧ t.filter ≤ 2
 stat : ∀ p ∈ t.stat, R32 p.1 ∧ R32 p.2
 twi : ∀ p ∈ t.twi, R32 p.1 ∧ R32 p.2
 sess : 0 ≤ t.sess ∧ t.sess ≤ 65535
 queue : 0 ≤ t.queue ∧ t.queue ≤ 65535
 rate : R32 t.rate
 burst : R32 t.burst
structure CFit (c : Cgf) : Prop where
 len : CLen c
 ip : R32 c.ip
 mac : IsBytes c.mac
 omac : IsBytes c.omac
 nmac : IsBytes c.nmac
 key : IsBytes c.key
 drain : R32 c.drain
 ten : ∀ t ∈ c.ten, TFit t
theorem dec_num {n : Int} {m : Nat} (h0 : 0 ≤ n) (h1 : n ≤ m) : num (dec n) m = some n.toNat := by
 unfold dec; rw [num_dec, if_pos (by omega)]
theorem ipx_ip {n : Int} (h : R32 n) : ip (ipx n) = some n.toNat := ip_ipt (by have := h.1; have := h.2; omega)
theorem toNat_eq {n : Int} (h : 0 ≤ n) : ((n.toNat : Nat) : Int) = n := Int.toNat_of_nonneg h
theorem mac_six {l : List Int} (h : l.length = 6) (hb : IsBytes l) : mac (mact l) = some l := by
 obtain ⟨a, b, c, d, e, f, rfl⟩ := six h
 have := fun i => hb i
 exact mac_mact (by simpa using hb 0) (by simpa using hb 1) (by simpa using hb 2) (by simpa using hb 3) (by simpa using hb 4) (by simpa using hb 5)
theorem bytes_mem {l : List Int} (hb : IsBytes l) : ∀ x ∈ l, 0 ≤ x ∧ x ≤ 255 := by
 intro x hx
 obtain ⟨i, hi, rfl⟩ := List.getElem_of_mem hx
 have := hb i
 rwa [getD_eq hi] at this
theorem key_eight {l : List Int} (h : l.length = 8) (hb : IsBytes l) : key (keyt l) = some l := by
 unfold key
 rw [if_pos (by rw [keyt_len, h]), twos_keyt l (bytes_mem hb)]
theorem flt_fw {n : Int} (h : 0 ≤ n ∧ n ≤ 2) : flt (fw n) = some n.toNat := by
 have : n = 0 ∨ n = 1 ∨ n = 2 := by omega
 rcases this with rfl | rfl | rfl <;> decide
theorem free_low {l : List UInt8} (hne : l ≠ []) (h : ∀ b ∈ l, 36 ≤ b.toNat) : Free l := by
 refine ⟨hne, fun b hb => ?_⟩
 have := h b hb
 refine ⟨?_, ?_, ?_⟩ <;> (rintro rfl; simp at this)
theorem free_dec (n : Int) : Free (dec n) := by
 obtain ⟨h1, -, h3, -⟩ := dec_facts n.toNat
 exact free_low h3 (fun b hb => by have := h1 b hb; omega)
theorem join_low {c : UInt8} (hc : 36 ≤ c.toNat) : ∀ {l : List (List UInt8)}, (∀ x ∈ l, ∀ b ∈ x, 36 ≤ b.toNat) → ∀ b ∈ Lib.join l [c], 36 ≤ b.toNat
 | [], _ => by simp [Lib.join_nil]
 | [x], h => by rw [Lib.join_one]; exact h x (by simp)
 | x :: y :: r, h => by
  have e : Lib.join (x :: y :: r) [c] = x ++ (c :: Lib.join (y :: r) [c]) := by
   rw [Lib.join_cons, Lib.join_cons]; simp [Lib.joinTail]
  rw [e]
  intro b hb
  rcases List.mem_append.1 hb with hb | hb
  ·exact h x (by simp) b hb
  ·rcases List.mem_cons.1 hb with rfl | hb
   ·exact hc
   ·exact join_low hc (fun z hz => h z (by simp only [List.mem_cons] at hz ⊢; exact Or.inr hz)) b hb
theorem free_ipx (n : Int) : Free (ipx n) := by
 unfold ipx ipt
 refine free_low ?_ (join_low (by decide) ?_)
 ·rw [Lib.join_cons]
  have := (dec_facts (n.toNat / 16777216)).2.2.1
  simp [this]
 ·intro x hx b hb
  simp only [List.mem_cons, List.not_mem_nil, or_false] at hx
  rcases hx with rfl | rfl | rfl | rfl <;> (have := (dec_facts _).1 b hb; omega)
theorem hex2_low (x : Int) : ∀ b ∈ hex2 x, x.toNat < 256 → 36 ≤ b.toNat := by
 intro b hb hx
 unfold hex2 at hb
 simp only [List.mem_cons, List.not_mem_nil, or_false] at hb
 have h1 := hdg_ge (x.toNat / 16)
 have h2 := hdg_ge (x.toNat % 16)
 have h3 := hdg_small (show x.toNat / 16 < 16 by omega)
 have h4 := hdg_small (show x.toNat % 16 < 16 by omega)
 rcases hb with rfl | rfl <;> (rw [ofNat_toNat (by omega)]; omega)
theorem free_mact {l : List Int} (h : l.length = 6) (hb : IsBytes l) : Free (mact l) := by
 have hm := bytes_mem hb
 obtain ⟨a, b, c, d, e, f, rfl⟩ := six h
 unfold mact
 refine free_low ?_ (join_low (by decide) ?_)
 ·rw [List.map_cons, Lib.join_cons]; simp [hex2]
 ·intro x hx y hy
  obtain ⟨z, hz, rfl⟩ := List.mem_map.1 hx
  have := hm z hz
  exact hex2_low z y hy (by omega)
theorem free_keyt {l : List Int} (h : l.length = 8) (hb : IsBytes l) : Free (keyt l) := by
 have hm := bytes_mem hb
 refine free_low ?_ ?_
 ·intro e
  have := congrArg List.length e
  rw [keyt_len, h] at this
  simp at this
 ·intro y hy
  unfold keyt at hy
  obtain ⟨z, hz, hy⟩ := List.mem_flatMap.1 hy
  have := hm z hz
  exact hex2_low z y hy (by omega)
theorem free_fw (n : Int) : Free (fw n) := by
 unfold fw
 split
 ·exact ⟨by decide, by decide⟩
 ·split
  ·exact ⟨by decide, by decide⟩
  ·exact ⟨by decide, by decide⟩
theorem rn_free : ∀ (f : Nat) (first : Bool) (l : List UInt8), l.length ≤ f → rn f first l = true → ∀ b ∈ l, 36 ≤ b.toNat
 | 0, first, l, h, _ => by
  have : l = [] := List.eq_nil_of_length_eq_zero (by omega)
  subst this; simp
 | f + 1, first, [], h, _ => by simp
 | f + 1, first, b :: t, h, hr => by
  by_cases ha : b.toNat < 128
  ·rw [rn, if_pos ha] at hr
   split at hr
   ·rename_i ho
    intro x hx
    rcases List.mem_cons.1 hx with rfl | hx
    ·unfold okr mb mf at ho
     simp at ho
     omega
    ·exact rn_free f false t (by simp at h; omega) hr x hx
   ·cases hr
  ·rw [rn, if_neg ha] at hr
   split at hr
   ·cases hr
   ·rename_i hbad
    intro x hx
    have hw := Lib.decodeL_width (b :: t)
    have hN := Lib.decodeL_N (b :: t)
    have hc := Lib.decodeN_conts (b :: t).length ((b :: t).getD 0 0).toNat ((b :: t).getD 1 0).toNat ((b :: t).getD 2 0).toNat ((b :: t).getD 3 0).toNat
    rw [← hN] at hc
    generalize hk : (Lib.decodeL (b :: t)).2 = k at *
    have hrest := rn_free f false ((b :: t).drop k) (by rw [List.length_drop]; simp at h ⊢; omega) hr
    rw [← List.take_append_drop k (b :: t)] at hx
    rcases List.mem_append.1 hx with hx | hx
    ·obtain ⟨i, hi, e⟩ := List.getElem_of_mem hx
     have hi' : i < k ∧ i < (b :: t).length := by
      rw [List.length_take] at hi; omega
     have e2 : (b :: t).getD i 0 = x := by
      rw [← e, List.getElem_take]
      simp [List.getD, List.getElem?_eq_getElem hi'.2]
     match i, hi', e2 with
     | 0, _, e2 => simp at e2; subst e2; omega
     | 1, hi', e2 => rw [e2] at hc; have := (hc.1 (by omega)).1; omega
     | 2, hi', e2 => rw [e2] at hc; have := (hc.2.1 (by omega)).1; omega
     | 3, hi', e2 => rw [e2] at hc; have := (hc.2.2.1 (by omega)).1; omega
     | i + 4, hi', e2 => have := hc.2.2.2; omega
    ·exact hrest x hx
theorem free_name {l : List UInt8} (h : nam l = true) : Free l := by
 unfold nam at h
 simp only [Bool.and_eq_true, decide_eq_true_eq] at h
 refine free_low ?_ (rn_free l.length true l (Nat.le_refl _) h.2)
 intro e; subst e; simp at h
def cput (c : Cgf) (t : Ten) : Cgf := { c with ten := c.ten ++ [t] }
theorem cput_last (c : Cgf) (t : Ten) : (cput c t).ten.getLast? = some t := by simp [cput]
theorem cput_set (c : Cgf) (t t' : Ten) : { cput c t with ten := (cput c t).ten.dropLast ++ [t'] } = cput c t' := by simp [cput]
theorem reads_one {o : Option Cgf} {l : List (List UInt8)} {c : Cgf} (h : Takes o l c) : Reads o [l] (some c) := .cons h (.nil _)
theorem reads_pool {c : Cgf} {t : Ten} (h : ∀ x ∈ t.pool, R32 x) (p : List Int) (hp : t.pool = p) : Reads (some (cput c { t with pool := [] })) (txtP t) (some (cput c t)) := by
 unfold txtP
 by_cases e : t.pool = []
 ·rw [if_pos e]
  have : ({ t with pool := [] } : Ten) = t := by rw [← e]
  rw [this]; exact .nil _
 ·rw [if_neg e]
  refine reads_one ?_
  have := takes_pool (c := cput c { t with pool := [] }) (xs := t.pool.map ipx) (l := t.pool.map Int.toNat) (cput_last _ _) (by
   simp only [List.map_map]
   apply List.map_congr_left
   intro x hx
   exact ipx_ip (h x hx))
  rw [cput_set] at this
  have e2 : ((t.pool.map Int.toNat).map fun (n : Nat) => (n : Int)) = t.pool := by
   rw [List.map_map]
   conv => rhs; rw [← List.map_id t.pool]
   apply List.map_congr_left
   intro x hx
   exact toNat_eq (h x hx).1
  rw [e2] at this
  simpa using this
theorem reads_stat {c : Cgf} (t : Ten) : ∀ (l a : List (Int × Int)), (∀ p ∈ l, R32 p.1 ∧ R32 p.2) → Reads (some (cput c { t with stat := a })) (txtS wStatic l) (some (cput c { t with stat := a ++ l }))
 | [], a, _ => by simp only [txtS, List.map_nil, List.append_nil]; exact .nil _
 | p :: l, a, h => by
  have hp := h p (by simp)
  have := takes_static (c := cput c { t with stat := a }) (cput_last _ _) (ipx_ip hp.1) (ipx_ip hp.2)
  rw [cput_set, toNat_eq hp.1.1, toNat_eq hp.2.1] at this
  refine .cons this ?_
  have ih := reads_stat (c := c) t l (a ++ [p]) (fun q hq => h q (by simp [hq]))
  rw [List.append_assoc] at ih
  exact ih
theorem reads_twi {c : Cgf} (t : Ten) : ∀ (l a : List (Int × Int)), (∀ p ∈ l, R32 p.1 ∧ R32 p.2) → Reads (some (cput c { t with twi := a })) (txtS wTwice l) (some (cput c { t with twi := a ++ l }))
 | [], a, _ => by simp only [txtS, List.map_nil, List.append_nil]; exact .nil _
 | p :: l, a, h => by
  have hp := h p (by simp)
  have := takes_twice (c := cput c { t with twi := a }) (cput_last _ _) (ipx_ip hp.1) (ipx_ip hp.2)
  rw [cput_set, toNat_eq hp.1.1, toNat_eq hp.2.1] at this
  refine .cons this ?_
  have ih := reads_twi (c := c) t l (a ++ [p]) (fun q hq => h q (by simp [hq]))
  rw [List.append_assoc] at ih
  exact ih
theorem takes_lo (c : Cgf) (t : Ten) {lo hi : Int} (h1 : 0 ≤ lo ∧ lo ≤ 65535) (h2 : 0 ≤ hi ∧ hi ≤ 65535) : Takes (some (cput c t)) [wPorts, dec lo, dec hi] (cput c { t with lo := lo, hi := hi }) := by
 have := takes_ports (c := cput c t) (cput_last _ _) (dec_num (m := 65535) h1.1 h1.2) (dec_num (m := 65535) h2.1 h2.2)
 rw [cput_set, toNat_eq h1.1, toNat_eq h2.1] at this
 exact this
theorem takes_fl (c : Cgf) (t : Ten) {f : Int} (h : 0 ≤ f ∧ f ≤ 2) : Takes (some (cput c t)) [wFilter, fw f] (cput c { t with filter := f }) := by
 have := takes_filter (c := cput c t) (cput_last _ _) (flt_fw h)
 rw [cput_set, toNat_eq h.1] at this
 exact this
theorem takes_qu (c : Cgf) (t : Ten) {a b : Int} (h1 : 0 ≤ a ∧ a ≤ 65535) (h2 : 0 ≤ b ∧ b ≤ 65535) : Takes (some (cput c t)) [wQuota, dec a, dec b] (cput c { t with sess := a, queue := b }) := by
 have := takes_quota (c := cput c t) (cput_last _ _) (dec_num (m := 65535) h1.1 h1.2) (dec_num (m := 65535) h2.1 h2.2)
 rw [cput_set, toNat_eq h1.1, toNat_eq h2.1] at this
 exact this
theorem takes_ra (c : Cgf) (t : Ten) {a b : Int} (h1 : R32 a) (h2 : R32 b) : Takes (some (cput c t)) [wRate, dec a, dec b] (cput c { t with rate := a, burst := b }) := by
 have := takes_rate (c := cput c t) (cput_last _ _) (dec_num (m := 4294967295) h1.1 (by have := h1.2; omega)) (dec_num (m := 4294967295) h2.1 (by have := h2.2; omega))
 rw [cput_set, toNat_eq h1.1, toNat_eq h2.1] at this
 exact this
def thd (t : Ten) : Ten := { ten0 with name := t.name, vni := t.vni, key := t.key, vtep := t.vtep, vmac := t.vmac, host := t.host }
theorem takes_hd (c : Cgf) {t : Ten} (h : TFit t) : Takes (some c) (txtH t) (cput c (thd t)) := by
 have := takes_tn (c := c) (xs := txtH t) rfl h.name (dec_num (m := 16777215) h.vni.1 h.vni.2) (key_eight h.len.key h.key) (ipx_ip h.vtep) (mac_six h.len.vmac h.vmac) (mac_six h.len.host h.host)
 rw [toNat_eq h.vni.1, toNat_eq h.vtep.1] at this
 exact this
theorem reads_ten (c : Cgf) {t : Ten} (h : TFit t) : Reads (some c) (txtT t) (some (cput c t)) := by
 have hd := takes_hd c h
 obtain ⟨nm, vn, ke, vt, vm, ho, po, lo, hi, fi, st, tw, se, qu, ra, bu⟩ := t
 have s1 : Reads (some (cput c ⟨nm, vn, ke, vt, vm, ho, [], 0, 0, 0, [], [], 0, 0, 0, 0⟩)) (txtP ⟨nm, vn, ke, vt, vm, ho, po, lo, hi, fi, st, tw, se, qu, ra, bu⟩) (some (cput c ⟨nm, vn, ke, vt, vm, ho, po, 0, 0, 0, [], [], 0, 0, 0, 0⟩)) := reads_pool (t := ⟨nm, vn, ke, vt, vm, ho, po, 0, 0, 0, [], [], 0, 0, 0, 0⟩) h.pool _ rfl
 have s2 : Takes (some (cput c ⟨nm, vn, ke, vt, vm, ho, po, 0, 0, 0, [], [], 0, 0, 0, 0⟩)) [wPorts, dec lo, dec hi] (cput c ⟨nm, vn, ke, vt, vm, ho, po, lo, hi, 0, [], [], 0, 0, 0, 0⟩) := takes_lo c _ h.lo h.hi
 have s3 : Takes (some (cput c ⟨nm, vn, ke, vt, vm, ho, po, lo, hi, 0, [], [], 0, 0, 0, 0⟩)) [wFilter, fw fi] (cput c ⟨nm, vn, ke, vt, vm, ho, po, lo, hi, fi, [], [], 0, 0, 0, 0⟩) := takes_fl c _ h.filter
 have s4 : Reads (some (cput c ⟨nm, vn, ke, vt, vm, ho, po, lo, hi, fi, [], [], 0, 0, 0, 0⟩)) (txtS wStatic st) (some (cput c ⟨nm, vn, ke, vt, vm, ho, po, lo, hi, fi, st, [], 0, 0, 0, 0⟩)) := reads_stat (c := c) ⟨nm, vn, ke, vt, vm, ho, po, lo, hi, fi, [], [], 0, 0, 0, 0⟩ st [] h.stat
 have s5 : Reads (some (cput c ⟨nm, vn, ke, vt, vm, ho, po, lo, hi, fi, st, [], 0, 0, 0, 0⟩)) (txtS wTwice tw) (some (cput c ⟨nm, vn, ke, vt, vm, ho, po, lo, hi, fi, st, tw, 0, 0, 0, 0⟩)) := reads_twi (c := c) ⟨nm, vn, ke, vt, vm, ho, po, lo, hi, fi, st, [], 0, 0, 0, 0⟩ tw [] h.twi
 have s6 : Takes (some (cput c ⟨nm, vn, ke, vt, vm, ho, po, lo, hi, fi, st, tw, 0, 0, 0, 0⟩)) [wQuota, dec se, dec qu] (cput c ⟨nm, vn, ke, vt, vm, ho, po, lo, hi, fi, st, tw, se, qu, 0, 0⟩) := takes_qu c _ h.sess h.queue
 have s7 : Takes (some (cput c ⟨nm, vn, ke, vt, vm, ho, po, lo, hi, fi, st, tw, se, qu, 0, 0⟩)) [wRate, dec ra, dec bu] (cput c ⟨nm, vn, ke, vt, vm, ho, po, lo, hi, fi, st, tw, se, qu, ra, bu⟩) := takes_ra c _ h.rate h.burst
 exact .cons hd (s1.app (.cons s2 (.cons s3 (s4.app (s5.app (.cons s6 (.cons s7 (.nil _))))))))
theorem reads_tens : ∀ (l : List Ten) (c : Cgf), (∀ t ∈ l, TFit t) → Reads (some c) (l.flatMap txtT) (some { c with ten := c.ten ++ l })
 | [], c, _ => by simp only [List.flatMap_nil, List.append_nil]; exact .nil _
 | t :: l, c, h => by
  rw [List.flatMap_cons]
  have ih := reads_tens l (cput c t) (fun x hx => h x (by simp [hx]))
  refine (reads_ten c (h t (by simp))).app ?_
  simpa [cput] using ih
theorem reads_cfg {c : Cgf} (h : CFit c) : Reads none (lnsOf c) (some c) := by
 have h1 := takes_gw (xs := txtG c) rfl (ipx_ip h.ip) (mac_six h.len.mac h.mac) (mac_six h.len.omac h.omac) (mac_six h.len.nmac h.nmac) (key_eight h.len.key h.key) (dec_num (m := 4294967295) h.drain.1 (by have := h.drain.2; omega))
 rw [toNat_eq h.ip.1, toNat_eq h.drain.1] at h1
 refine .cons h1 ?_
 exact reads_tens c.ten ⟨c.ip, c.mac, c.omac, c.nmac, c.key, c.drain, []⟩ h.ten
def LFree (l : List (List UInt8)) : Prop := l ≠ [] ∧ ∀ y ∈ l, Free y
theorem lfree_ten {t : Ten} (h : TFit t) : ∀ l ∈ txtT t, LFree l := by
 intro l hl
 unfold txtT txtR at hl
 have two : ∀ b x y : List UInt8, Free b → Free x → Free y → LFree [b, x, y] := by
  intro b x y h1 h2 h3
  refine ⟨by simp, fun z hz => ?_⟩
  simp only [List.mem_cons, List.not_mem_nil, or_false] at hz
  rcases hz with rfl | rfl | rfl <;> assumption
 have F : ∀ x : List UInt8, x ≠ [] → (∀ b ∈ x, b ≠ 10 ∧ b ≠ 32 ∧ b ≠ 35) → Free x := fun x a b => ⟨a, b⟩
 rcases List.mem_cons.1 hl with rfl | hl
 ·refine ⟨by simp [txtH], fun z hz => ?_⟩
  simp only [txtH, List.mem_cons, List.not_mem_nil, or_false] at hz
  rcases hz with rfl | rfl | rfl | rfl | rfl | rfl | rfl | rfl | rfl | rfl | rfl
  ·exact F _ (by decide) (by decide)
  ·exact free_name h.name
  ·exact F _ (by decide) (by decide)
  ·exact free_dec _
  ·exact F _ (by decide) (by decide)
  ·exact free_keyt h.len.key h.key
  ·exact F _ (by decide) (by decide)
  ·exact free_ipx _
  ·exact free_mact h.len.vmac h.vmac
  ·exact F _ (by decide) (by decide)
  ·exact free_mact h.len.host h.host
 ·rcases List.mem_append.1 hl with hl | hl
  ·unfold txtP at hl
   split at hl
   ·simp at hl
   ·simp only [List.mem_singleton] at hl
    subst hl
    refine ⟨by simp, fun z hz => ?_⟩
    rcases List.mem_cons.1 hz with rfl | hz
    ·exact F _ (by decide) (by decide)
    ·obtain ⟨x, -, rfl⟩ := List.mem_map.1 hz
     exact free_ipx _
  ·simp only [List.mem_cons, List.mem_append, List.not_mem_nil, or_false] at hl
   rcases hl with rfl | rfl | hl | hl | rfl | rfl
   ·exact two _ _ _ (F _ (by decide) (by decide)) (free_dec _) (free_dec _)
   ·refine ⟨by simp, fun z hz => ?_⟩
    simp only [List.mem_cons, List.not_mem_nil, or_false] at hz
    rcases hz with rfl | rfl
    ·exact F _ (by decide) (by decide)
    ·exact free_fw _
   ·unfold txtS at hl
    obtain ⟨p, -, rfl⟩ := List.mem_map.1 hl
    exact two _ _ _ (F _ (by decide) (by decide)) (free_ipx _) (free_ipx _)
   ·unfold txtS at hl
    obtain ⟨p, -, rfl⟩ := List.mem_map.1 hl
    exact two _ _ _ (F _ (by decide) (by decide)) (free_ipx _) (free_ipx _)
   ·exact two _ _ _ (F _ (by decide) (by decide)) (free_dec _) (free_dec _)
   ·exact two _ _ _ (F _ (by decide) (by decide)) (free_dec _) (free_dec _)
theorem lfree_cfg {c : Cgf} (h : CFit c) : ∀ l ∈ lnsOf c, LFree l := by
 intro l hl
 unfold lnsOf at hl
 rcases List.mem_cons.1 hl with rfl | hl
 ·refine ⟨by simp [txtG], fun z hz => ?_⟩
  simp only [txtG, List.mem_cons, List.not_mem_nil, or_false] at hz
  rcases hz with rfl | rfl | rfl | rfl | rfl | rfl | rfl | rfl
  ·exact ⟨by decide, by decide⟩
  ·exact free_ipx _
  ·exact free_mact h.len.mac h.mac
  ·exact free_mact h.len.omac h.omac
  ·exact free_mact h.len.nmac h.nmac
  ·exact free_keyt h.len.key h.key
  ·exact ⟨by decide, by decide⟩
  ·exact free_dec _
 ·obtain ⟨t, ht, hl⟩ := List.mem_flatMap.1 hl
  exact lfree_ten (h.ten t ht) l hl
theorem tk_txt {c : Cgf} (h : CFit c) : tk (txt c) [] [] false = lnsOf c := by
 have := tk_lines [] (lnsOf c) (lfree_cfg h)
 rw [List.append_nil, tk_nil] at this
 simpa [txt, tend, tln] using this
theorem parse_txt {c : Cgf} (h : CFit c) (hl : (txt c).length ≤ 32768) : parse ⟨(txt c).toArray⟩ = .ok c :=
 parse_of (by show (txt c).toArray.size ≤ _; simpa using hl) (tk_txt h) (reads_cfg h)
end La
end Go.Proofs.YtneciccdiledfaaGreatDoor
namespace Go.Proofs.YtneciccdiledfaaGreatDoor
open Go.RowKit
open Sm
open Cf
end Go.Proofs.YtneciccdiledfaaGreatDoor
namespace Go.Proofs.YtneciccdiledfaaGreatDoor
open Go.RowKit
open Sm
open Cf
instance (t z : Ten) : Decidable (TSame t z) := by unfold TSame; infer_instance
theorem Rw.at_ {w V : World} {n : Nat} {v : Value} {xs : List (List Value)} (h : Rw w n v xs) (hne : ∀ x ∈ xs, x ≠ []) (hb : Below w.heap.size w V) : Rw V n v xs := h.below hne hb (Nat.le_refl _)
end Go.Proofs.YtneciccdiledfaaGreatDoor
namespace Go.Proofs.YtneciccdiledfaaGreatDoor
open Go.RowKit
open Sm
open Cf
end Go.Proofs.YtneciccdiledfaaGreatDoor
