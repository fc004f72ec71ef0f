/-
  The statements' seat of settings: addresses, names; what its tenants and settings are, in plain numbers.
  Settings as text: the program's writer: a line of words; numbers; the words of filters; where settings' and tenants' fields lie.
  Settings as text: the program's reader: an address, a number, a key, a name, a filter.
-/
import Derived.Test.YtneciccdiledfaaGreatDoorMl29
import Derived.Test.YtneciccdiledfaaGreatDoorMl37
import Derived.Test.YtneciccdiledfaaGreatDoorMl30
import Derived.Test.YtneciccdiledfaaGreatDoorMl18
namespace Go.Proofs.YtneciccdiledfaaGreatDoor
open Go.RowKit
open La
open Ad
open Sm (IsBytes)
set_option linter.unusedVariables false
set_option linter.unusedSimpArgs false
set_option maxRecDepth 20000

namespace La
def adr (a b c d : Int) : Int := a * 16777216 + b * 65536 + c * 256 + d
theorem adr_range {a b c d : Int} (ha : 0 ≤ a ∧ a ≤ 255) (hb : 0 ≤ b ∧ b ≤ 255) (hc : 0 ≤ c ∧ c ≤ 255) (hd : 0 ≤ d ∧ d ≤ 255) : R32 (adr a b c d) := by unfold R32 adr; omega
/-- The seat's tenant. -/
def mkS (i : Nat) (p2 st tw : Bool) (lo hi fi se qu ra bu : Int) : Ten :=
  ⟨⟨#[UInt8.ofNat (97 + i)]⟩, 100 + (i : Int), [(i : Int) + 1, 0, 0, 0, 0, 0, 0, 0], adr 10 9 0 ((i : Int) + 1), [2, 9, (i : Int), 0, 0, 0], [2, 7, (i : Int), 0, 0, 0],
   if p2 then [adr 5 5 i 1, adr 5 5 i 2] else [adr 5 5 i 1], lo, hi, fi, if st then [(adr 10 0 0 9, adr 5 6 i 9)] else [], if tw then [(adr 192 168 0 5, adr 8 8 8 8), (adr 192 168 0 6, adr 5 5 i 1)] else [], se, qu, ra, bu⟩
structure SRg (lo hi fi se qu ra bu : Int) : Prop where
  lo : 0 ≤ lo ∧ lo ≤ 9999
  hi : 0 ≤ hi ∧ hi ≤ 9999
  fi : 0 ≤ fi ∧ fi ≤ 2
  se : 0 ≤ se ∧ se ≤ 99
  qu : 0 ≤ qu ∧ qu ≤ 99
  ra : 0 ≤ ra ∧ ra ≤ 99
  bu : 0 ≤ bu ∧ bu ≤ 99
def SeatT (i : Nat) (t : Ten) : Prop := ∃ p2 st tw lo hi fi se qu ra bu, t = mkS i p2 st tw lo hi fi se qu ra bu ∧ SRg lo hi fi se qu ra bu
/-- The seat's settings. -/
def SeatC (n : Nat) (c : Cgf) : Prop := ∃ (d : Int) (ts : List Ten), 0 ≤ d ∧ d ≤ 7 ∧ c = ⟨adr 10 9 0 200, [2, 1, 0, 0, 0, 0], [2, 2, 0, 0, 0, 0], [2, 3, 0, 0, 0, 0], [200, 0, 0, 0, 0, 0, 0, 0], d, ts⟩ ∧ ts.length = n ∧ n ≤ 4 ∧ ∀ i t, ts[i]? = some t → SeatT i t
theorem bytes_of (l : List Int) (h : ∀ x ∈ l, 0 ≤ x ∧ x ≤ 255) : IsBytes l := by
  intro i
  by_cases hi : i < l.length
  · rw [getD_eq hi]; exact h _ (List.getElem_mem _)
  · have : l.getD i 0 = 0 := by simp [List.getD, List.getElem?_eq_none (Nat.le_of_not_lt hi)]
    rw [this]; omega
theorem nam_one (i : Nat) (h : i < 4) : nam [UInt8.ofNat (97 + i)] = true := by
  have : i = 0 ∨ i = 1 ∨ i = 2 ∨ i = 3 := by omega
  rcases this with rfl | rfl | rfl | rfl <;> decide
theorem SeatT.fit {i : Nat} {t : Ten} (h : SeatT i t) (hi : i < 4) : TFit t := by
  obtain ⟨p2, st, tw, lo, hi2, fi, se, qu, ra, bu, rfl, r⟩ := h
  have b : ∀ x : Int, 0 ≤ x ∧ x ≤ 255 → 0 ≤ x ∧ x ≤ 255 := fun x h => h
  refine ⟨⟨rfl, rfl, rfl⟩, nam_one i hi, ⟨by show 0 ≤ 100 + (i : Int); omega, by show 100 + (i : Int) ≤ 16777215; omega⟩, bytes_of _ ?_, adr_range (by omega) (by omega) (by omega) (by omega), bytes_of _ ?_, bytes_of _ ?_, ?_, ⟨r.lo.1, by have := r.lo.2; show lo ≤ _; omega⟩, ⟨r.hi.1, by have := r.hi.2; show hi2 ≤ _; omega⟩, r.fi, ?_, ?_, ⟨r.se.1, by have := r.se.2; show se ≤ _; omega⟩, ⟨r.qu.1, by have := r.qu.2; show qu ≤ _; omega⟩, ⟨r.ra.1, by have := r.ra.2; show ra < _; omega⟩, ⟨r.bu.1, by have := r.bu.2; show bu < _; omega⟩⟩
  · intro x hx
    simp only [mkS, List.mem_cons, List.not_mem_nil, or_false] at hx
    omega
  · intro x hx
    simp only [mkS, List.mem_cons, List.not_mem_nil, or_false] at hx
    omega
  · intro x hx
    simp only [mkS, List.mem_cons, List.not_mem_nil, or_false] at hx
    omega
  · intro x hx
    have hx' : x = adr 5 5 i 1 ∨ x = adr 5 5 i 2 := by
      cases p2
      · left; simpa [mkS] using hx
      · simpa [mkS] using hx
    rcases hx' with rfl | rfl <;> exact adr_range (by omega) (by omega) (by omega) (by omega)
  · intro x hx
    have hx' : x = (adr 10 0 0 9, adr 5 6 i 9) := by
      cases st
      · simp [mkS] at hx
      · simpa [mkS] using hx
    subst hx'
    exact ⟨adr_range (by omega) (by omega) (by omega) (by omega), adr_range (by omega) (by omega) (by omega) (by omega)⟩
  · intro x hx
    have hx' : x = (adr 192 168 0 5, adr 8 8 8 8) ∨ x = (adr 192 168 0 6, adr 5 5 i 1) := by
      cases tw
      · simp [mkS] at hx
      · simpa [mkS] using hx
    rcases hx' with rfl | rfl <;> exact ⟨adr_range (by omega) (by omega) (by omega) (by omega), adr_range (by omega) (by omega) (by omega) (by omega)⟩
theorem SeatC.fit {n : Nat} {c : Cgf} (h : SeatC n c) : CFit c := by
  obtain ⟨d, ts, h0, h1, rfl, hl, hn, ht⟩ := h
  refine ⟨⟨rfl, rfl, rfl, rfl⟩, adr_range (by omega) (by omega) (by omega) (by omega), bytes_of [2, 1, 0, 0, 0, 0] (by decide), bytes_of [2, 2, 0, 0, 0, 0] (by decide), bytes_of [2, 3, 0, 0, 0, 0] (by decide), bytes_of [200, 0, 0, 0, 0, 0, 0, 0] (by decide), ⟨h0, by show d < _; omega⟩, ?_⟩
  intro t hm
  obtain ⟨i, hi, e⟩ := List.getElem_of_mem hm
  have hi' : i < ts.length := hi
  exact (ht i t (by rw [List.getElem?_eq_getElem hi', ← e])).fit (by omega)
theorem dec_le {n : Int} (k : Nat) (h : n.toNat < 10 ^ (k + 1)) : (dec n).length ≤ k + 1 := by
  have : ∀ k n, n < 10 ^ (k + 1) → (Lib.decDigits n).length ≤ k + 1 := by
    intro k
    induction k with
    | zero => intro n h; rw [dec_small (by omega)]; simp
    | succ k ih =>
      intro n h
      by_cases h10 : n < 10
      · rw [dec_small h10]; simp
      · rw [dec_big h10, List.length_append]
        have := ih (n / 10) (by rw [Nat.pow_succ] at h; omega)
        simp only [List.length_cons, List.length_nil]; omega
  exact this k _ h
theorem ipx_le {n : Int} (h : R32 n) : (ipx n).length ≤ 15 := by
  unfold ipx ipt
  have d : ∀ m : Nat, m < 1000 → (Lib.decDigits m).length ≤ 3 := fun m hm => by
    have := dec_le (n := (m : Int)) 2 (by simpa using hm)
    simpa [dec] using this
  have h1 := d (n.toNat / 16777216) (by have := h.2; omega)
  have h2 := d (n.toNat / 65536 % 256) (by omega)
  have h3 := d (n.toNat / 256 % 256) (by omega)
  have h4 := d (n.toNat % 256) (by omega)
  simp only [Lib.join_cons, Lib.joinTail, List.length_append, List.length_cons, List.length_nil]
  simp [Lib.joinTail]
  omega
theorem mact_six {l : List Int} (h : l.length = 6) : (mact l).length = 17 := by
  obtain ⟨a, b, c, d, e, f, rfl⟩ := six h
  simp [mact, Lib.join_cons, Lib.joinTail, hex2]
theorem spc_le (b : List UInt8) : ∀ xs : List (List UInt8), (spc (b :: xs)).length = b.length + (xs.map (fun x => x.length + 1)).sum + 1 := by
  intro xs
  have : ∀ (xs : List (List UInt8)) (b : List UInt8), (Lib.join (b :: xs) [32]).length = b.length + (xs.map (fun x => x.length + 1)).sum := by
    intro xs
    induction xs with
    | nil => intro b; simp [Lib.join_one]
    | cons x xs ih =>
      intro b
      have e : Lib.join (b :: x :: xs) [32] = b ++ (32 :: Lib.join (x :: xs) [32]) := by
        rw [Lib.join_cons, Lib.join_cons]; simp [Lib.joinTail]
      rw [e, List.length_append, List.length_cons, ih x, List.map_cons, List.sum_cons]
      omega
  unfold spc
  rw [List.length_append, this xs b]
  rfl
theorem SeatT.len {i : Nat} {t : Ten} (h : SeatT i t) (hi : i < 4) : ((txtT t).flatMap spc).length ≤ 340 := by
  obtain ⟨p2, st, tw, lo, hi2, fi, se, qu, ra, bu, rfl, r⟩ := h
  have A : ∀ a b c d : Int, 0 ≤ a ∧ a ≤ 255 → 0 ≤ b ∧ b ≤ 255 → 0 ≤ c ∧ c ≤ 255 → 0 ≤ d ∧ d ≤ 255 → (ipx (adr a b c d)).length ≤ 15 := fun a b c d h1 h2 h3 h4 => ipx_le (adr_range h1 h2 h3 h4)
  have a1 := A 10 9 0 ((i : Int) + 1) (by omega) (by omega) (by omega) (by omega)
  have a2 := A 5 5 i 1 (by omega) (by omega) (by omega) (by omega)
  have a3 := A 5 5 i 2 (by omega) (by omega) (by omega) (by omega)
  have a4 := A 10 0 0 9 (by omega) (by omega) (by omega) (by omega)
  have a5 := A 5 6 i 9 (by omega) (by omega) (by omega) (by omega)
  have a6 := A 192 168 0 5 (by omega) (by omega) (by omega) (by omega)
  have a7 := A 8 8 8 8 (by omega) (by omega) (by omega) (by omega)
  have a8 := A 192 168 0 6 (by omega) (by omega) (by omega) (by omega)
  have d1 := dec_le (n := 100 + (i : Int)) 2 (by omega)
  have d2 := dec_le (n := lo) 3 (by have := r.lo; omega)
  have d3 := dec_le (n := hi2) 3 (by have := r.hi; omega)
  have d4 := dec_le (n := se) 1 (by have := r.se; omega)
  have d5 := dec_le (n := qu) 1 (by have := r.qu; omega)
  have d6 := dec_le (n := ra) 1 (by have := r.ra; omega)
  have d7 := dec_le (n := bu) 1 (by have := r.bu; omega)
  have m1 : (mact [2, 9, (i : Int), 0, 0, 0]).length = 17 := mact_six rfl
  have m2 : (mact [2, 7, (i : Int), 0, 0, 0]).length = 17 := mact_six rfl
  have k1 : (keyt [(i : Int) + 1, 0, 0, 0, 0, 0, 0, 0]).length = 16 := by rw [keyt_len]; rfl
  have f1 : (fw fi).length ≤ 7 := by
    have := r.fi
    have : fi = 0 ∨ fi = 1 ∨ fi = 2 := by omega
    rcases this with rfl | rfl | rfl <;> decide
  have hp : ((txtP (mkS i p2 st tw lo hi2 fi se qu ra bu)).flatMap spc).length ≤ 37 := by
    cases p2
    · show ((if [adr 5 5 i 1] = [] then [] else [wPool :: [adr 5 5 i 1].map ipx]).flatMap spc).length ≤ 37
      rw [if_neg (by simp)]
      simp only [List.flatMap_cons, List.flatMap_nil, List.append_nil, spc_le, List.map_cons, List.map_nil, List.sum_cons, List.sum_nil]
      have : wPool.length = 4 := rfl
      omega
    · show ((if [adr 5 5 i 1, adr 5 5 i 2] = [] then [] else [wPool :: [adr 5 5 i 1, adr 5 5 i 2].map ipx]).flatMap spc).length ≤ 37
      rw [if_neg (by simp)]
      simp only [List.flatMap_cons, List.flatMap_nil, List.append_nil, spc_le, List.map_cons, List.map_nil, List.sum_cons, List.sum_nil]
      have : wPool.length = 4 := rfl
      omega
  have hs : ((txtS wStatic (mkS i p2 st tw lo hi2 fi se qu ra bu).stat).flatMap spc).length ≤ 39 := by
    cases st
    · show ((txtS wStatic []).flatMap spc).length ≤ 39
      decide
    · show ((txtS wStatic [(adr 10 0 0 9, adr 5 6 i 9)]).flatMap spc).length ≤ 39
      simp only [txtS, List.flatMap_cons, List.flatMap_nil, List.append_nil, spc_le, List.map_cons, List.map_nil, List.sum_cons, List.sum_nil]
      have : wStatic.length = 6 := rfl
      omega
  have ht : ((txtS wTwice (mkS i p2 st tw lo hi2 fi se qu ra bu).twi).flatMap spc).length ≤ 76 := by
    cases tw
    · show ((txtS wTwice []).flatMap spc).length ≤ 76
      decide
    · show ((txtS wTwice [(adr 192 168 0 5, adr 8 8 8 8), (adr 192 168 0 6, adr 5 5 i 1)]).flatMap spc).length ≤ 76
      simp only [txtS, List.flatMap_cons, List.flatMap_nil, List.append_nil, spc_le, List.map_cons, List.map_nil, List.sum_cons, List.sum_nil, List.length_append]
      have : wTwice.length = 5 := rfl
      omega
  unfold txtT txtR
  rw [List.flatMap_cons, List.flatMap_append, List.flatMap_cons, List.flatMap_cons, List.flatMap_append, List.flatMap_append]
  simp only [List.length_append, List.flatMap_cons, List.flatMap_nil, List.append_nil, List.length_nil]
  have q1 : (spc (txtH (mkS i p2 st tw lo hi2 fi se qu ra bu))).length ≤ 108 := by
    show (spc [wTenant, [UInt8.ofNat (97 + i)], wVni, dec (100 + (i : Int)), wKey, keyt [(i : Int) + 1, 0, 0, 0, 0, 0, 0, 0], wVtep, ipx (adr 10 9 0 ((i : Int) + 1)), mact [2, 9, (i : Int), 0, 0, 0], wHost, mact [2, 7, (i : Int), 0, 0, 0]]).length ≤ 108
    rw [spc_le]
    simp only [List.map_cons, List.map_nil, List.sum_cons, List.sum_nil, List.length_cons, List.length_nil, wTenant, wVni, wKey, wVtep, wHost]
    omega
  have q2 : (spc [wPorts, dec lo, dec hi2]).length ≤ 16 := by
    rw [spc_le]; simp only [List.map_cons, List.map_nil, List.sum_cons, List.sum_nil, wPorts, List.length_cons, List.length_nil]; omega
  have q3 : (spc [wFilter, fw fi]).length ≤ 15 := by
    rw [spc_le]; simp only [List.map_cons, List.map_nil, List.sum_cons, List.sum_nil, wFilter, List.length_cons, List.length_nil]; omega
  have q4 : (spc [wQuota, dec se, dec qu]).length ≤ 12 := by
    rw [spc_le]; simp only [List.map_cons, List.map_nil, List.sum_cons, List.sum_nil, wQuota, List.length_cons, List.length_nil]; omega
  have q5 : (spc [wRate, dec ra, dec bu]).length ≤ 11 := by
    rw [spc_le]; simp only [List.map_cons, List.map_nil, List.sum_cons, List.sum_nil, wRate, List.length_cons, List.length_nil]; omega
  have e1 : (mkS i p2 st tw lo hi2 fi se qu ra bu).lo = lo := rfl
  have e2 : (mkS i p2 st tw lo hi2 fi se qu ra bu).hi = hi2 := rfl
  have e3 : (mkS i p2 st tw lo hi2 fi se qu ra bu).filter = fi := rfl
  have e4 : (mkS i p2 st tw lo hi2 fi se qu ra bu).sess = se := rfl
  have e5 : (mkS i p2 st tw lo hi2 fi se qu ra bu).queue = qu := rfl
  have e6 : (mkS i p2 st tw lo hi2 fi se qu ra bu).rate = ra := rfl
  have e7 : (mkS i p2 st tw lo hi2 fi se qu ra bu).burst = bu := rfl
  rw [e1, e2, e3, e4, e5, e6, e7]
  omega
theorem SeatC.len {n : Nat} {c : Cgf} (h : SeatC n c) : (txt c).length ≤ 110 + 340 * n := by
  obtain ⟨d, ts, h0, h1, rfl, hl, hn, ht⟩ := h
  unfold txt lnsOf
  rw [List.flatMap_cons, List.length_append]
  have q : (spc (txtG ⟨adr 10 9 0 200, [2, 1, 0, 0, 0, 0], [2, 2, 0, 0, 0, 0], [2, 3, 0, 0, 0, 0], [200, 0, 0, 0, 0, 0, 0, 0], d, ts⟩)).length ≤ 110 := by
    show (spc [wGateway, ipx (adr 10 9 0 200), mact [2, 1, 0, 0, 0, 0], mact [2, 2, 0, 0, 0, 0], mact [2, 3, 0, 0, 0, 0], keyt [200, 0, 0, 0, 0, 0, 0, 0], wDrain, dec d]).length ≤ 110
    have a1 : (ipx (adr 10 9 0 200)).length ≤ 15 := ipx_le (adr_range (by omega) (by omega) (by omega) (by omega))
    have m1 : (mact [2, 1, 0, 0, 0, 0]).length = 17 := mact_six rfl
    have m2 : (mact [2, 2, 0, 0, 0, 0]).length = 17 := mact_six rfl
    have m3 : (mact [2, 3, 0, 0, 0, 0]).length = 17 := mact_six rfl
    have k1 : (keyt [200, 0, 0, 0, 0, 0, 0, 0]).length = 16 := by rw [keyt_len]; rfl
    have d1 := dec_le (n := d) 0 (by omega)
    rw [spc_le]
    simp only [List.map_cons, List.map_nil, List.sum_cons, List.sum_nil, wGateway, wDrain, List.length_cons, List.length_nil]
    omega
  have key : ∀ (k : Nat) (us : List Ten), (∀ i t, us[i]? = some t → SeatT (k + i) t) → k + us.length ≤ 4 → ((us.flatMap txtT).flatMap spc).length ≤ 340 * us.length := by
    intro k us
    induction us generalizing k with
    | nil => intro _ _; simp
    | cons t us ih =>
      intro hu hk
      rw [List.flatMap_cons, List.flatMap_append, List.length_append, List.length_cons]
      have h1 := (hu 0 t rfl).len (by simp at hk; omega)
      have h2 := ih (k + 1) (fun i t ht => by have := hu (i + 1) t ht; rw [show k + (i + 1) = k + 1 + i by omega] at this; exact this) (by simp at hk; omega)
      omega
  have := key 0 ts (fun i t hh => by rw [Nat.zero_add]; exact ht i t hh) (by omega)
  rw [hl] at this
  show (spc (txtG ⟨adr 10 9 0 200, [2, 1, 0, 0, 0, 0], [2, 2, 0, 0, 0, 0], [2, 3, 0, 0, 0, 0], [200, 0, 0, 0, 0, 0, 0, 0], d, ts⟩)).length + ((ts.flatMap txtT).flatMap spc).length ≤ _
  omega
end La
set_option maxHeartbeats 1000000 in
theorem addr_any (w : World) (a b c d : Int) (ha : 0 ≤ a ∧ a ≤ 255) (hb : 0 ≤ b ∧ b ≤ 255) (hc : 0 ≤ c ∧ c ≤ 255) (hd : 0 ≤ d ∧ d ≤ 255) :
    Calls Tryz.prog 41 #[.int .u8 a, .int .u8 b, .int .u8 c, .int .u8 d] w fun e w' => e = .returned (.int .u32 (adr a b c d)) ∧ w = w' := by
  have o1 : bits .or .u32 (a * 16777216) (b * 65536) = a * 16777216 + b * 65536 :=
    bits_join .u32 32 (by decide) wraps_u32 24 (a * 16777216) (b * 65536) (by omega) (by omega) (by omega) (by omega) (by omega) (by omega)
  have o2 : bits .or .u32 (a * 16777216 + b * 65536) (c * 256) = a * 16777216 + b * 65536 + c * 256 :=
    bits_join .u32 32 (by decide) wraps_u32 16 (a * 16777216 + b * 65536) (c * 256) (by omega) (by omega) (by omega) (by omega) (by omega) (by omega)
  have o3 : bits .or .u32 (a * 16777216 + b * 65536 + c * 256) d = a * 16777216 + b * 65536 + c * 256 + d :=
    bits_join .u32 32 (by decide) wraps_u32 8 (a * 16777216 + b * 65536 + c * 256) d (by omega) (by omega) (by omega) (by omega) (by omega) (by omega)
  have v1 := wrap32_small a ha.1 (by omega)
  have v2 := wrap32_small b hb.1 (by omega)
  have v3 := wrap32_small c hc.1 (by omega)
  have v4 := wrap32_small d hd.1 (by omega)
  have u1 := wrap32_small (a * 16777216) (by omega) (by omega)
  have u2 := wrap32_small (b * 65536) (by omega) (by omega)
  have u3 := wrap32_small (c * 256) (by omega) (by omega)
  clear ha hb hc hd
  go_enter Tryz.func41, Tryz.ntmps41
  go_wp2
  go_ret
  exact ⟨rfl, rfl⟩
theorem sname_any (w : World) (i : Nat) (h : i < 4) : Calls Tryz.prog 69 #[.int .i64 (i : Int)] w fun e w' => e = .returned (.string ⟨#[UInt8.ofNat (97 + i)]⟩) ∧ w = w' := by
  have hsl : ∀ W, (Instr.slice 9 (.string ⟨#[97, 98, 99, 100, 101, 102, 103, 104]⟩) (some (.int .i64 (i : Int))) (some (.int .i64 ((i : Int) + 1))) none).run Tryz.prog W = .ok (.string ⟨#[UInt8.ofNat (97 + i)]⟩) W := by
    intro W
    rw [run_slice_string W 9 _ .i64 .i64 (i : Int) ((i : Int) + 1) Tryz.underlying9 (by omega) (by omega) (by show ((i : Int) + 1) ≤ ((8 : Nat) : Int); omega)]
    have e : (⟨#[97, 98, 99, 100, 101, 102, 103, 104]⟩ : ByteArray).extract (i : Int).toNat ((i : Int) + 1).toNat = ⟨#[UInt8.ofNat (97 + i)]⟩ := by
      have : i = 0 ∨ i = 1 ∨ i = 2 ∨ i = 3 := by omega
      rcases this with rfl | rfl | rfl | rfl <;> rfl
    rw [e]
  have e1 : (i : Int) % 8 = i := by omega
  have e2 : IntKind.i64.wrap ((i : Int) + 1) = (i : Int) + 1 := wrap64 (by omega) (by omega)
  have e3 : Int.tmod (i : Int) 8 = i := by rw [Int.tmod_eq_emod_of_nonneg (by omega)]; exact e1
  generalize (⟨#[UInt8.ofNat (97 + i)]⟩ : ByteArray) = T at hsl ⊢
  clear h
  go_enter Tryz.func69, Tryz.ntmps69
  go_wp2
  go_ret
  exact ⟨rfl, rfl⟩
end Go.Proofs.YtneciccdiledfaaGreatDoor

namespace Go.Proofs.YtneciccdiledfaaGreatDoor
open Go.RowKit
open La
open Ad
open Sm (IsBytes)
set_option linter.unusedVariables false
set_option linter.unusedSimpArgs false
set_option maxRecDepth 20000

set_option maxHeartbeats 2000000 in
theorem wline_any {w V : World} {g : Nat} {l : List UInt8} {K : List (Nat × Obj)} (h : Bu w V g l K) {gs c n : Nat} (xs : List ByteArray) (hn : xs.length = n) (hcells : ∀ (j : Nat) x, xs[j]? = some x → V.cell? ⟨gs, 0 + j, none⟩ = some (.string x)) (hg : gs < V.heap.size) (hc : n ≤ c) (hN : n ≤ 100000)
    (hlen : l.length + (spc (xs.map (·.data.toList))).length ≤ 90000000) :
    Calls Tryz.prog 58 #[.pointer (some ⟨g, 0, none⟩), .slice (some ⟨gs, 0, none⟩) n c] V fun e V' => e = .returned (.tuple #[]) ∧ Bu w V' g (l ++ spc (xs.map (·.data.toList))) K := by
  have hl2 : (spc (xs.map (·.data.toList))).length = (Lib.join (xs.map (·.data.toList)) [32]).length + 1 := by unfold spc; simp
  have CJ := join_any (w := V.drew) (g := gs) (c := c) xs hn ⟨#[32]⟩ hcells hg hc hN (by show (Lib.join (xs.map (·.data.toList)) [32]).length ≤ _; omega)
  obtain ⟨J, hJ⟩ : ∃ J, Lib.join (xs.map (·.data.toList)) [32] = J := ⟨_, rfl⟩
  have hs : spc (xs.map (·.data.toList)) = J ++ [10] := by unfold spc; rw [hJ]
  rw [show Lib.join (xs.map (·.data.toList)) (⟨#[32]⟩ : ByteArray).data.toList = J from hJ] at CJ
  rw [hs] at hlen ⊢
  rw [List.length_append] at hlen
  have hd : (⟨J.toArray⟩ : ByteArray).data.toList = J := rfl
  have hz : (⟨J.toArray⟩ : ByteArray).size = J.length := by show J.toArray.size = _; simp
  have HB : Hid (∀ V', Below V.drew.heap.size V.drew V' → Calls Tryz.prog 92 #[.pointer (some ⟨g, 0, none⟩), .string ⟨J.toArray⟩] V' fun e V2 => (∃ v, e = .returned v) ∧ Bu w V2 g (l ++ J) K) := fun V' hb => by
    have := bstr_any ((h.after ((Below.refl _ _).drew)).after hb) ⟨J.toArray⟩ (by rw [hz]; simp at hlen; omega)
    rwa [hd] at this
  have HL : Hid (l.length + (J.length + [(10 : UInt8)].length) ≤ 90000000) := hlen
  clear hl2 hJ hs hd hz h hcells hlen
  generalize (⟨J.toArray⟩ : ByteArray) = T at CJ HB
  go_enter Tryz.func58, Tryz.ntmps58
  go_upto_region 0 with fail
  go_region_held3 (fun _ => True) (trivial)
    (first
      | (go_at_call 93; with_reducible refine CJ.mono ?_; rintro e W1 ⟨rfl, hB1⟩)
      | (go_at_call 92; with_reducible refine (HB.out _ hB1).mono ?_; rintro e W2 ⟨⟨vv, rfl⟩, hB2⟩)
      | fail)
  have CB : Calls Tryz.prog 94 #[.pointer (some ⟨g, 0, none⟩), .int .u8 10] W2 fun e V' => (∃ v, e = .returned v) ∧ Bu w V' g ((l ++ J) ++ [10]) K := bbyte_any hB2 10 (by have := HL.out; simp at this ⊢; omega)
  clear hB1 hB2 CJ HB
  go_wp2_with fail
  refine CB.mono ?_
  rintro e W3 ⟨⟨v3, rfl⟩, hB3⟩
  rw [List.append_assoc] at hB3
  have HB3 : Hid (Bu w W3 g (l ++ (J ++ [10])) K) := hB3
  clear hB3 CB
  go_wp2_with fail
  go_end0
  exact ⟨rfl, HB3.out⟩
theorem wlit_any {w X : World} {g : Nat} {l : List UInt8} {K : List (Nat × Obj)} (h : Bu w X g l K) (xs : List ByteArray) (n : Nat) (hn : xs.length = n) (hN : n ≤ 100000) (hlen : l.length + (spc (xs.map (·.data.toList))).length ≤ 90000000) :
    Calls Tryz.prog 58 #[.pointer (some ⟨g, 0, none⟩), .slice (some ⟨X.heap.size, 0, none⟩) n n] (X.alloc (.cells (xs.map Value.string).toArray 9)) fun e V' => e = .returned (.tuple #[]) ∧ Bu w V' g (l ++ spc (xs.map (·.data.toList))) K := by
  refine wline_any (h.after ((Below.refl _ _).alloc (Nat.le_refl _) _)) xs hn (fun j x hj => ?_) (by simp) (Nat.le_refl _) hN hlen
  rw [Nat.zero_add, World.cell?_alloc_new]
  simp [hj]
theorem itoa_decI {n : Int} (h : 0 ≤ n) : Lib.itoa n = La.dec n := by
  unfold Lib.itoa La.dec; rw [if_neg (by omega)]
theorem format_any {w : World} (hV : Vs w) (n : Int) (h0 : 0 ≤ n) (h1 : n ≤ 9223372036854775807) :
    Calls Tryz.prog 97 #[.int .i64 n, .int .i64 10] w fun e w' => e = .returned (.string ⟨(La.dec n).toArray⟩) ∧ Below w.heap.size w w' := by
  refine (Tryz.strconv_FormatInt_10 n (by omega) h1 w hV.pow).mono ?_
  rintro e w' ⟨rfl, k, os, rfl⟩
  have h1 := below_drewN' (Below.refl w.heap.size w) k
  exact ⟨by rw [itoa_decI h0], h1.trans ((below_grow _ os).mono h1.size)⟩
theorem number32_any {w : World} (hV : Vs w) (n : Int) (h0 : 0 ≤ n) (h1 : n ≤ 4294967295) :
    Calls Tryz.prog 62 #[.int .u32 n] w fun e w' => e = .returned (.string ⟨(La.dec n).toArray⟩) ∧ Below w.heap.size w w' := by
  have C := format_any hV n h0 (by omega)
  have e1 : IntKind.i64.wrap n = n := wrap64 (by omega) (by omega)
  generalize (⟨(La.dec n).toArray⟩ : ByteArray) = T at C ⊢
  go_enter Tryz.func62, Tryz.ntmps62
  go_wp2_with fail
  refine C.mono ?_
  rintro e w' ⟨rfl, hb⟩
  go_wp2_with fail
  go_ret
  exact ⟨rfl, hb⟩
theorem number16_any {w : World} (hV : Vs w) (n : Int) (h0 : 0 ≤ n) (h1 : n ≤ 65535) :
    Calls Tryz.prog 64 #[.int .u16 n] w fun e w' => e = .returned (.string ⟨(La.dec n).toArray⟩) ∧ Below w.heap.size w w' := by
  have C := format_any hV n h0 (by omega)
  have e1 : IntKind.i64.wrap n = n := wrap64 (by omega) (by omega)
  generalize (⟨(La.dec n).toArray⟩ : ByteArray) = T at C ⊢
  go_enter Tryz.func64, Tryz.ntmps64
  go_wp2_with fail
  refine C.mono ?_
  rintro e w' ⟨rfl, hb⟩
  go_wp2_with fail
  go_ret
  exact ⟨rfl, hb⟩
theorem number64_any {w : World} (hV : Vs w) (n : Int) (h0 : 0 ≤ n) (h1 : n ≤ 9223372036854775807) :
    Calls Tryz.prog 67 #[.int .i64 n] w fun e w' => e = .returned (.string ⟨(La.dec n).toArray⟩) ∧ Below w.heap.size w w' := by
  have C := format_any hV n h0 (by omega)
  have e1 : IntKind.i64.wrap n = n := wrap64 (by omega) (by omega)
  generalize (⟨(La.dec n).toArray⟩ : ByteArray) = T at C ⊢
  go_enter Tryz.func67, Tryz.ntmps67
  go_wp2_with fail
  refine C.mono ?_
  rintro e w' ⟨rfl, hb⟩
  go_wp2_with fail
  go_ret
  exact ⟨rfl, hb⟩
theorem fw_any {f : Int} (h1 : f ≠ 1) (h2 : f ≠ 2) : fw f = wAny := by unfold fw; rw [if_neg h1, if_neg h2]
set_option maxHeartbeats 1000000 in
theorem filterText_any {w : World} (hF : FW w) (f : Int) : Calls Tryz.prog 65 #[.int .i64 f] w fun e w' => e = .returned (.string ⟨(fw f).toArray⟩) ∧ w = w' := by
  obtain ⟨f0, f1, f2⟩ := hF
  by_cases hlo : f < 0
  · rw [fw_any (by omega) (by omega)]
    generalize (⟨wAny.toArray⟩ : ByteArray) = T at f0 ⊢
    clear f1 f2
    go_enter Tryz.func65, Tryz.ntmps65
    go_wp2_with fail
    go_ret
    exact ⟨rfl, rfl⟩
  · by_cases hhi : 3 ≤ f
    · rw [fw_any (by omega) (by omega)]
      generalize (⟨wAny.toArray⟩ : ByteArray) = T at f0 ⊢
      clear f1 f2
      go_enter Tryz.func65, Tryz.ntmps65
      go_wp2_with fail
      go_ret
      exact ⟨rfl, rfl⟩
    · have h3 : f = 0 ∨ f = 1 ∨ f = 2 := by omega
      clear hlo hhi
      rcases h3 with rfl | rfl | rfl
      · rw [fw_any (by omega) (by omega)]
        generalize (⟨wAny.toArray⟩ : ByteArray) = T at f0 ⊢
        clear f1 f2
        go_enter Tryz.func65, Tryz.ntmps65
        go_wp2_with fail
        go_ret
        exact ⟨rfl, rfl⟩
      · rw [show fw 1 = wAddress from rfl]
        generalize (⟨wAddress.toArray⟩ : ByteArray) = T at f1 ⊢
        clear f0 f2
        go_enter Tryz.func65, Tryz.ntmps65
        go_wp2_with fail
        go_ret
        exact ⟨rfl, rfl⟩
      · rw [show fw 2 = wPort from rfl]
        generalize (⟨wPort.toArray⟩ : ByteArray) = T at f2 ⊢
        clear f0 f1
        go_enter Tryz.func65, Tryz.ntmps65
        go_wp2_with fail
        go_ret
        exact ⟨rfl, rfl⟩
theorem range_mid {w V : World} {K : List (Nat × Obj)} {g : Nat} {A B C : List Value} {T : TypeId} (hM : Mem w V K) (hin : (g, .cells (A ++ (B ++ C)).toArray T (0, 0)) ∈ K) (o : Nat) (ho : A.length = o) : V.rangeAt g o B := by
  intro j v hj
  rw [cell_of (hM.at_ _ hin), ← ho]
  exact get_mid _ _ _ j v hj
theorem cell_mid {w V : World} {K : List (Nat × Obj)} {g : Nat} {A C : List Value} {b : Value} {T : TypeId} (hM : Mem w V K) (hin : (g, .cells (A ++ (b :: C)).toArray T (0, 0)) ∈ K) (o : Nat) (ho : A.length = o) : V.cell? ⟨g, o, none⟩ = some b := by
  have := range_mid (A := A) (B := [b]) (C := C) hM hin o ho 0 b rfl
  exact this
abbrev u8s (l : List Int) : List Value := l.map (Value.int .u8)
theorem cfg_box {w V : World} {K : List (Nat × Obj)} {g : Nat} {c : Cgf} {u : Value} (hl : CLen c) (hM : Mem w V K) (hin : (g, .cells (cc c u).toArray 29 (0, 0)) ∈ K) :
    V.cell? ⟨g, 0, none⟩ = some (.int .u32 c.ip) ∧ V.rangeAt g 1 (u8s c.mac) ∧ V.rangeAt g 7 (u8s c.omac) ∧ V.rangeAt g 13 (u8s c.nmac) ∧ V.rangeAt g 19 (u8s c.key) ∧ V.cell? ⟨g, 27, none⟩ = some (.int .u32 c.drain) ∧ V.cell? ⟨g, 28, none⟩ = some u := by
  refine ⟨cell_mid (A := []) hM hin 0 rfl, range_mid (A := [.int .u32 c.ip]) (B := u8s c.mac) (C := u8s c.omac ++ (u8s c.nmac ++ (u8s c.key ++ [.int .u32 c.drain, u]))) hM hin 1 rfl, range_mid (A := .int .u32 c.ip :: u8s c.mac) (B := u8s c.omac) (C := u8s c.nmac ++ (u8s c.key ++ [.int .u32 c.drain, u])) hM (by simpa [cc] using hin) 7 (by simp [hl.mac]), range_mid (A := .int .u32 c.ip :: (u8s c.mac ++ u8s c.omac)) (B := u8s c.nmac) (C := u8s c.key ++ [.int .u32 c.drain, u]) hM (by simpa [cc] using hin) 13 (by simp [hl.mac, hl.omac]), range_mid (A := .int .u32 c.ip :: (u8s c.mac ++ (u8s c.omac ++ u8s c.nmac))) (B := u8s c.key) (C := [.int .u32 c.drain, u]) hM (by simpa [cc] using hin) 19 (by simp [hl.mac, hl.omac, hl.nmac]), cell_mid (A := .int .u32 c.ip :: (u8s c.mac ++ (u8s c.omac ++ (u8s c.nmac ++ u8s c.key)))) (C := [u]) hM (by simpa [cc] using hin) 27 (by simp [hl.mac, hl.omac, hl.nmac, hl.key]), cell_mid (A := .int .u32 c.ip :: (u8s c.mac ++ (u8s c.omac ++ (u8s c.nmac ++ (u8s c.key ++ [.int .u32 c.drain]))))) (C := []) hM (by simpa [cc] using hin) 28 (by simp [hl.mac, hl.omac, hl.nmac, hl.key])⟩
theorem ten_box {w V : World} {K : List (Nat × Obj)} {g : Nat} {t : Ten} {p s q : Value} (hl : TLen t) (hM : Mem w V K) (hin : (g, .cells (tc t p s q).toArray 45 (0, 0)) ∈ K) :
    V.cell? ⟨g, 0, none⟩ = some (.string t.name) ∧ V.cell? ⟨g, 1, none⟩ = some (.int .u32 t.vni) ∧ V.rangeAt g 2 (u8s t.key) ∧ V.cell? ⟨g, 10, none⟩ = some (.int .u32 t.vtep) ∧ V.rangeAt g 11 (u8s t.vmac) ∧ V.rangeAt g 17 (u8s t.host) ∧
    V.cell? ⟨g, 23, none⟩ = some p ∧ V.cell? ⟨g, 24, none⟩ = some (.int .u16 t.lo) ∧ V.cell? ⟨g, 25, none⟩ = some (.int .u16 t.hi) ∧ V.cell? ⟨g, 26, none⟩ = some (.int .i64 t.filter) ∧ V.cell? ⟨g, 27, none⟩ = some s ∧ V.cell? ⟨g, 28, none⟩ = some q ∧ V.cell? ⟨g, 29, none⟩ = some (.int .i64 t.sess) ∧ V.cell? ⟨g, 30, none⟩ = some (.int .i64 t.queue) ∧ V.cell? ⟨g, 31, none⟩ = some (.int .u32 t.rate) ∧ V.cell? ⟨g, 32, none⟩ = some (.int .u32 t.burst) := by
  have hat := hM.at_ _ hin
  have gt : ∀ o v, (∀ n vn a b c d f g x y vt a1 b1 c1 d1 f1 g1 a2 b2 c2 d2 f2 g2 po lo hi fi st tw se qu ra bu, t = ⟨n, vn, [a, b, c, d, f, g, x, y], vt, [a1, b1, c1, d1, f1, g1], [a2, b2, c2, d2, f2, g2], po, lo, hi, fi, st, tw, se, qu, ra, bu⟩ → (tc t p s q)[o]? = some v) → V.cell? ⟨g, o, none⟩ = some v := by
    intro o v hv
    rw [cell_of hat, List.getElem?_toArray]
    exact tget hl hv
  refine ⟨gt 0 _ ?_, gt 1 _ ?_, range_mid (A := [.string t.name, .int .u32 t.vni]) (B := u8s t.key) (C := .int .u32 t.vtep :: (u8s t.vmac ++ (u8s t.host ++ [p, .int .u16 t.lo, .int .u16 t.hi, .int .i64 t.filter, s, q, .int .i64 t.sess, .int .i64 t.queue, .int .u32 t.rate, .int .u32 t.burst]))) hM hin 2 rfl, gt 10 _ ?_, range_mid (A := .string t.name :: .int .u32 t.vni :: (u8s t.key ++ [.int .u32 t.vtep])) (B := u8s t.vmac) (C := u8s t.host ++ [p, .int .u16 t.lo, .int .u16 t.hi, .int .i64 t.filter, s, q, .int .i64 t.sess, .int .i64 t.queue, .int .u32 t.rate, .int .u32 t.burst]) hM (by simpa [tc] using hin) 11 (by simp [hl.key]), range_mid (A := .string t.name :: .int .u32 t.vni :: (u8s t.key ++ .int .u32 t.vtep :: u8s t.vmac)) (B := u8s t.host) (C := [p, .int .u16 t.lo, .int .u16 t.hi, .int .i64 t.filter, s, q, .int .i64 t.sess, .int .i64 t.queue, .int .u32 t.rate, .int .u32 t.burst]) hM (by simpa [tc] using hin) 17 (by simp [hl.key, hl.vmac]), gt 23 _ ?_, gt 24 _ ?_, gt 25 _ ?_, gt 26 _ ?_, gt 27 _ ?_, gt 28 _ ?_, gt 29 _ ?_, gt 30 _ ?_, gt 31 _ ?_, gt 32 _ ?_⟩
  all_goals
    rintro n vn a b c d f g x y vt a1 b1 c1 d1 f1 g1 a2 b2 c2 d2 f2 g2 po lo hi fi st tw se qu ra bu rfl
    rfl
end Go.Proofs.YtneciccdiledfaaGreatDoor

namespace Go.Proofs.YtneciccdiledfaaGreatDoor
open Go.RowKit
open La
open Ad
set_option linter.unusedVariables false
set_option linter.unusedSimpArgs false
set_option maxRecDepth 20000

theorem VP.imp {w V : World} {σ : Sg} {R S : Ending → World → Prop} {e : Ending} (h : VP w σ R e V) (k : σ.bad = none → R e V → S e V) : VP w σ S e V := by
  rcases h with ⟨h1, h2⟩ | h
  · exact Or.inl ⟨h1, k h1 h2⟩
  · exact Or.inr h
theorem vnx_some {α : Type} {f : List UInt8 → Option α} {σ : Sg} (h : (vnx f σ).bad = none) : (f (wt σ)).isSome = true := by
  unfold vnx at h
  split at h
  · assumption
  · simp [Sg.fail] at h
section
variable {w V : World} {g : Nat} {post : List Value} {T : TypeId} {σ : Sg} {W K : List (Nat × Obj)}
theorem value_ip (hV : Vs w) (h : LnS w V g post T σ W K) : Calls Tryz.prog 73 #[.pointer (some ⟨g, 0, none⟩), .func (.func 74) #[] #[]] V (VP w (vnx ip σ) fun e V' => e = .returned (.int .u32 (nv (val ip σ))) ∧ LnS w V' g post T (vnx ip σ) W K) :=
  value_U h (enters_of Tryz.func74 (by kernel_rfl) rfl) ip _ (tells_ip hV _)
theorem value_num (h : LnS w V g post T σ W K) {b m : Nat} (hm : m ≤ 4294967295) (hb : (b, Obj.cells #[.int .u32 m] 23 (0, 0)) ∈ K) : Calls Tryz.prog 73 #[.pointer (some ⟨g, 0, none⟩), .func (.func 102) #[] #[.pointer (some ⟨b, 0, none⟩)]] V (VP w (vnx (fun s => num s m) σ) fun e V' => e = .returned (.int .u32 (nv (val (fun s => num s m) σ))) ∧ LnS w V' g post T (vnx (fun s => num s m) σ) W K) :=
  value_U h (enters_of Tryz.func102 (by kernel_rfl) rfl) (fun s => num s m) _ (tells_num hm (List.mem_append_left _ hb))
theorem value_mac (hV : Vs w) (h : LnS w V g post T σ W K) : Calls Tryz.prog 75 #[.pointer (some ⟨g, 0, none⟩), .func (.func 76) #[] #[]] V (VP w (vnx mac σ) fun e V' => e = .returned (.agg (ab (m6 (val mac σ)))) ∧ LnS w V' g post T (vnx mac σ) W K) :=
  value_M h (enters_of Tryz.func76 (by kernel_rfl) rfl) mac _ (fun s => ⟨(mac s.data.toList).getD z6, by
    cases e : mac s.data.toList with
    | none => rfl
    | some l => exact (mac_back e).2.1, rfl⟩) (tells_mac hV _)
theorem key_len {s : List UInt8} {l : List Int} (h : key s = some l) : l.length = 8 := ((rh_key s).1 l h).2
theorem value_key (h : LnS w V g post T σ W K) : Calls Tryz.prog 77 #[.pointer (some ⟨g, 0, none⟩), .func (.func 78) #[] #[]] V (VP w (vnx key σ) fun e V' => e = .returned (.agg (ab (k8 (val key σ)))) ∧ LnS w V' g post T (vnx key σ) W K) :=
  value_K h (enters_of Tryz.func78 (by kernel_rfl) rfl) key _ (fun s => ⟨(key s.data.toList).getD z8, by
    cases e : key s.data.toList with
    | none => rfl
    | some l => exact key_len e, rfl⟩) (tells_key _)
theorem value_name (hV : Vs w) (h : LnS w V g post T σ W K) : Calls Tryz.prog 103 #[.pointer (some ⟨g, 0, none⟩), .func (.func 104) #[] #[]] V (VP w (vnx La.nm σ) fun e V' => e = .returned (.string (La.wd σ).1) ∧ LnS w V' g post T (vnx La.nm σ) W K) := by
  refine (value_S h (enters_of Tryz.func104 (by kernel_rfl) rfl) La.nm _ (tells_name hV _)).mono ?_
  intro e V' hh
  refine hh.imp ?_
  rintro hb ⟨rfl, hL⟩
  have := vnx_some hb
  have hn : nam (wt σ) = true := by
    unfold La.nm at this
    by_cases h : nam (wt σ) = true
    · exact h
    · rw [if_neg h] at this; simp at this
  rw [if_pos (show nam (La.wd σ).1.data.toList = true from hn)]
  exact ⟨rfl, hL⟩
theorem value_filter (hF : FW w) (h : LnS w V g post T σ W K) : Calls Tryz.prog 105 #[.pointer (some ⟨g, 0, none⟩), .func (.func 106) #[] #[]] V (VP w (vnx flt σ) fun e V' => e = .returned (.int .i64 (nv (val flt σ))) ∧ LnS w V' g post T (vnx flt σ) W K) :=
  value_I h (enters_of Tryz.func106 (by kernel_rfl) rfl) flt _ (tells_filter hF _)
theorem LnS.setCells : ∀ (vs : List Value) (o : Nat) {i n : Nat} {A : Array Value} {t : TypeId} {K : List (Nat × Obj)} {V : World}, LnS w V g post T σ W K → K[i]? = some (n, .cells A t (0, 0)) → LnS w (V.setCells n o vs) g post T σ W (K.set i (n, .cells (stL A o vs) t (0, 0)))
  | [], o, i, n, A, t, K, V, h, hi => by
    have : K.set i (n, .cells A t (0, 0)) = K := by
      apply List.ext_getElem?
      intro j
      by_cases e : i = j
      · subst e; rw [hi, List.getElem?_set_self' ]; simp [hi]
      · rw [List.getElem?_set_ne e]
    show LnS w V g post T σ W (K.set i (n, .cells A t (0, 0)))
    rw [this]; exact h
  | v :: r, o, i, n, A, t, K, V, h, hi => by
    have h1 := h.set hi o v
    have hl : i < K.length := by
      rcases Nat.lt_or_ge i K.length with h | h
      · exact h
      · rw [List.getElem?_eq_none h] at hi; cases hi
    have h2 := LnS.setCells r (o + 1) h1 (by rw [List.getElem?_set_self hl])
    rw [List.set_set] at h2
    exact h2
theorem LnS.cellK (h : LnS w V g post T σ W K) {i n : Nat} {A : Array Value} {t : TypeId} (hi : K[i]? = some (n, .cells A t (0, 0))) (j : Nat) : V.cell? ⟨n, j, none⟩ = A[j]? := by
  have hl : i < K.length := by
    rcases Nat.lt_or_ge i K.length with h | h
    · exact h
    · rw [List.getElem?_eq_none h] at hi; cases hi
  exact h.mem.cell i (by rw [List.getElem?_append_left hl]; exact hi) j
theorem LnS.freeK (h : LnS w V g post T σ W K) {i n : Nat} {A : Array Value} {t : TypeId} (hi : K[i]? = some (n, .cells A t (0, 0))) (j : Nat) : V.frozen? ⟨n, j, none⟩ = false := by
  have hl : i < K.length := by
    rcases Nat.lt_or_ge i K.length with h | h
    · exact h
    · rw [List.getElem?_eq_none h] at hi; cases hi
  exact h.mem.free i (by rw [List.getElem?_append_left hl]; exact hi) j
theorem LnS.there (h : LnS w V g post T σ W K) {i n : Nat} {A : Array Value} {t : TypeId} (hi : K[i]? = some (n, .cells A t (0, 0))) (o m : Nat) (hm : o + m ≤ A.size) : V.there n o m := by
  intro j hj
  refine ⟨?_, h.freeK hi _⟩
  rw [h.cellK hi, Array.getElem?_eq_getElem (by omega)]
  rfl
end
end Go.Proofs.YtneciccdiledfaaGreatDoor

