/-
  The statements' seat of settings: addresses, names; what its tenants and settings are, in plain numbers.
  Settings as text: the program's reader: an address, a number, a key, a name, a filter.
  Which settings may be: a tenant's error.
-/
import Derived.Test.YtnddbklbgddblaaDoorPf28
import Derived.Test.YtnddbklbgddblaaDoorPf37
namespace Go.Proofs.YtnddbklbgddblaaDoor
open Go.RowKit
open La
open Ad
open Sm (IsBytes)
set_option linter.unusedVariables false
set_option linter.unusedSimpArgs false
set_option maxRecDepth 20000

namespace La
def adr (a b c d : Int) : Int := a * 16777216 + b * 65536 + c * 256 + d
theorem adr_range {a b c d : Int} (ha : 0 ≤ a ∧ a ≤ 255) (hb : 0 ≤ b ∧ b ≤ 255) (hc : 0 ≤ c ∧ c ≤ 255) (hd : 0 ≤ d ∧ d ≤ 255) : R32 (adr a b c d) := by unfold R32 adr; omega
/-- The seat's tenant. -/
def mkS (i : Nat) (p2 st tw : Bool) (lo hi fi se qu ra bu : Int) : Ten :=
  ⟨⟨#[UInt8.ofNat (97 + i)]⟩, 100 + (i : Int), [(i : Int) + 1, 0, 0, 0, 0, 0, 0, 0], adr 10 9 0 ((i : Int) + 1), [2, 9, (i : Int), 0, 0, 0], [2, 7, (i : Int), 0, 0, 0],
   if p2 then [adr 5 5 i 1, adr 5 5 i 2] else [adr 5 5 i 1], lo, hi, fi, if st then [(adr 10 0 0 9, adr 5 6 i 9)] else [], if tw then [(adr 192 168 0 5, adr 8 8 8 8), (adr 192 168 0 6, adr 5 5 i 1)] else [], se, qu, ra, bu⟩
structure SRg (lo hi fi se qu ra bu : Int) : Prop where
  lo : 0 ≤ lo ∧ lo ≤ 9999
  hi : 0 ≤ hi ∧ hi ≤ 9999
  fi : 0 ≤ fi ∧ fi ≤ 2
  se : 0 ≤ se ∧ se ≤ 99
  qu : 0 ≤ qu ∧ qu ≤ 99
  ra : 0 ≤ ra ∧ ra ≤ 99
  bu : 0 ≤ bu ∧ bu ≤ 99
def SeatT (i : Nat) (t : Ten) : Prop := ∃ p2 st tw lo hi fi se qu ra bu, t = mkS i p2 st tw lo hi fi se qu ra bu ∧ SRg lo hi fi se qu ra bu
/-- The seat's settings. -/
def SeatC (n : Nat) (c : Cgf) : Prop := ∃ (d : Int) (ts : List Ten), 0 ≤ d ∧ d ≤ 7 ∧ c = ⟨adr 10 9 0 200, [2, 1, 0, 0, 0, 0], [2, 2, 0, 0, 0, 0], [2, 3, 0, 0, 0, 0], [200, 0, 0, 0, 0, 0, 0, 0], d, ts⟩ ∧ ts.length = n ∧ n ≤ 4 ∧ ∀ i t, ts[i]? = some t → SeatT i t
theorem dec_le {n : Int} (k : Nat) (h : n.toNat < 10 ^ (k + 1)) : (dec n).length ≤ k + 1 := by
  have : ∀ k n, n < 10 ^ (k + 1) → (Lib.decDigits n).length ≤ k + 1 := by
    intro k
    induction k with
    | zero => intro n h; rw [dec_small (by omega)]; simp
    | succ k ih =>
      intro n h
      by_cases h10 : n < 10
      · rw [dec_small h10]; simp
      · rw [dec_big h10, List.length_append]
        have := ih (n / 10) (by rw [Nat.pow_succ] at h; omega)
        simp only [List.length_cons, List.length_nil]; omega
  exact this k _ h
theorem ipx_le {n : Int} (h : R32 n) : (ipx n).length ≤ 15 := by
  unfold ipx ipt
  have d : ∀ m : Nat, m < 1000 → (Lib.decDigits m).length ≤ 3 := fun m hm => by
    have := dec_le (n := (m : Int)) 2 (by simpa using hm)
    simpa [dec] using this
  have h1 := d (n.toNat / 16777216) (by have := h.2; omega)
  have h2 := d (n.toNat / 65536 % 256) (by omega)
  have h3 := d (n.toNat / 256 % 256) (by omega)
  have h4 := d (n.toNat % 256) (by omega)
  simp only [Lib.join_cons, Lib.joinTail, List.length_append, List.length_cons, List.length_nil]
  simp [Lib.joinTail]
  omega
theorem mact_six {l : List Int} (h : l.length = 6) : (mact l).length = 17 := by
  obtain ⟨a, b, c, d, e, f, rfl⟩ := six h
  simp [mact, Lib.join_cons, Lib.joinTail, hex2]
theorem spc_le (b : List UInt8) : ∀ xs : List (List UInt8), (spc (b :: xs)).length = b.length + (xs.map (fun x => x.length + 1)).sum + 1 := by
  intro xs
  have : ∀ (xs : List (List UInt8)) (b : List UInt8), (Lib.join (b :: xs) [32]).length = b.length + (xs.map (fun x => x.length + 1)).sum := by
    intro xs
    induction xs with
    | nil => intro b; simp [Lib.join_one]
    | cons x xs ih =>
      intro b
      have e : Lib.join (b :: x :: xs) [32] = b ++ (32 :: Lib.join (x :: xs) [32]) := by
        rw [Lib.join_cons, Lib.join_cons]; simp [Lib.joinTail]
      rw [e, List.length_append, List.length_cons, ih x, List.map_cons, List.sum_cons]
      omega
  unfold spc
  rw [List.length_append, this xs b]
  rfl
theorem SeatT.len {i : Nat} {t : Ten} (h : SeatT i t) (hi : i < 4) : ((txtT t).flatMap spc).length ≤ 340 := by
  obtain ⟨p2, st, tw, lo, hi2, fi, se, qu, ra, bu, rfl, r⟩ := h
  have A : ∀ a b c d : Int, 0 ≤ a ∧ a ≤ 255 → 0 ≤ b ∧ b ≤ 255 → 0 ≤ c ∧ c ≤ 255 → 0 ≤ d ∧ d ≤ 255 → (ipx (adr a b c d)).length ≤ 15 := fun a b c d h1 h2 h3 h4 => ipx_le (adr_range h1 h2 h3 h4)
  have a1 := A 10 9 0 ((i : Int) + 1) (by omega) (by omega) (by omega) (by omega)
  have a2 := A 5 5 i 1 (by omega) (by omega) (by omega) (by omega)
  have a3 := A 5 5 i 2 (by omega) (by omega) (by omega) (by omega)
  have a4 := A 10 0 0 9 (by omega) (by omega) (by omega) (by omega)
  have a5 := A 5 6 i 9 (by omega) (by omega) (by omega) (by omega)
  have a6 := A 192 168 0 5 (by omega) (by omega) (by omega) (by omega)
  have a7 := A 8 8 8 8 (by omega) (by omega) (by omega) (by omega)
  have a8 := A 192 168 0 6 (by omega) (by omega) (by omega) (by omega)
  have d1 := dec_le (n := 100 + (i : Int)) 2 (by omega)
  have d2 := dec_le (n := lo) 3 (by have := r.lo; omega)
  have d3 := dec_le (n := hi2) 3 (by have := r.hi; omega)
  have d4 := dec_le (n := se) 1 (by have := r.se; omega)
  have d5 := dec_le (n := qu) 1 (by have := r.qu; omega)
  have d6 := dec_le (n := ra) 1 (by have := r.ra; omega)
  have d7 := dec_le (n := bu) 1 (by have := r.bu; omega)
  have m1 : (mact [2, 9, (i : Int), 0, 0, 0]).length = 17 := mact_six rfl
  have m2 : (mact [2, 7, (i : Int), 0, 0, 0]).length = 17 := mact_six rfl
  have k1 : (keyt [(i : Int) + 1, 0, 0, 0, 0, 0, 0, 0]).length = 16 := by rw [keyt_len]; rfl
  have f1 : (fw fi).length ≤ 7 := by
    have := r.fi
    have : fi = 0 ∨ fi = 1 ∨ fi = 2 := by omega
    rcases this with rfl | rfl | rfl <;> decide
  have hp : ((txtP (mkS i p2 st tw lo hi2 fi se qu ra bu)).flatMap spc).length ≤ 37 := by
    cases p2
    · show ((if [adr 5 5 i 1] = [] then [] else [wPool :: [adr 5 5 i 1].map ipx]).flatMap spc).length ≤ 37
      rw [if_neg (by simp)]
      simp only [List.flatMap_cons, List.flatMap_nil, List.append_nil, spc_le, List.map_cons, List.map_nil, List.sum_cons, List.sum_nil]
      have : wPool.length = 4 := rfl
      omega
    · show ((if [adr 5 5 i 1, adr 5 5 i 2] = [] then [] else [wPool :: [adr 5 5 i 1, adr 5 5 i 2].map ipx]).flatMap spc).length ≤ 37
      rw [if_neg (by simp)]
      simp only [List.flatMap_cons, List.flatMap_nil, List.append_nil, spc_le, List.map_cons, List.map_nil, List.sum_cons, List.sum_nil]
      have : wPool.length = 4 := rfl
      omega
  have hs : ((txtS wStatic (mkS i p2 st tw lo hi2 fi se qu ra bu).stat).flatMap spc).length ≤ 39 := by
    cases st
    · show ((txtS wStatic []).flatMap spc).length ≤ 39
      decide
    · show ((txtS wStatic [(adr 10 0 0 9, adr 5 6 i 9)]).flatMap spc).length ≤ 39
      simp only [txtS, List.flatMap_cons, List.flatMap_nil, List.append_nil, spc_le, List.map_cons, List.map_nil, List.sum_cons, List.sum_nil]
      have : wStatic.length = 6 := rfl
      omega
  have ht : ((txtS wTwice (mkS i p2 st tw lo hi2 fi se qu ra bu).twi).flatMap spc).length ≤ 76 := by
    cases tw
    · show ((txtS wTwice []).flatMap spc).length ≤ 76
      decide
    · show ((txtS wTwice [(adr 192 168 0 5, adr 8 8 8 8), (adr 192 168 0 6, adr 5 5 i 1)]).flatMap spc).length ≤ 76
      simp only [txtS, List.flatMap_cons, List.flatMap_nil, List.append_nil, spc_le, List.map_cons, List.map_nil, List.sum_cons, List.sum_nil, List.length_append]
      have : wTwice.length = 5 := rfl
      omega
  unfold txtT txtR
  rw [List.flatMap_cons, List.flatMap_append, List.flatMap_cons, List.flatMap_cons, List.flatMap_append, List.flatMap_append]
  simp only [List.length_append, List.flatMap_cons, List.flatMap_nil, List.append_nil, List.length_nil]
  have q1 : (spc (txtH (mkS i p2 st tw lo hi2 fi se qu ra bu))).length ≤ 108 := by
    show (spc [wTenant, [UInt8.ofNat (97 + i)], wVni, dec (100 + (i : Int)), wKey, keyt [(i : Int) + 1, 0, 0, 0, 0, 0, 0, 0], wVtep, ipx (adr 10 9 0 ((i : Int) + 1)), mact [2, 9, (i : Int), 0, 0, 0], wHost, mact [2, 7, (i : Int), 0, 0, 0]]).length ≤ 108
    rw [spc_le]
    simp only [List.map_cons, List.map_nil, List.sum_cons, List.sum_nil, List.length_cons, List.length_nil, wTenant, wVni, wKey, wVtep, wHost]
    omega
  have q2 : (spc [wPorts, dec lo, dec hi2]).length ≤ 16 := by
    rw [spc_le]; simp only [List.map_cons, List.map_nil, List.sum_cons, List.sum_nil, wPorts, List.length_cons, List.length_nil]; omega
  have q3 : (spc [wFilter, fw fi]).length ≤ 15 := by
    rw [spc_le]; simp only [List.map_cons, List.map_nil, List.sum_cons, List.sum_nil, wFilter, List.length_cons, List.length_nil]; omega
  have q4 : (spc [wQuota, dec se, dec qu]).length ≤ 12 := by
    rw [spc_le]; simp only [List.map_cons, List.map_nil, List.sum_cons, List.sum_nil, wQuota, List.length_cons, List.length_nil]; omega
  have q5 : (spc [wRate, dec ra, dec bu]).length ≤ 11 := by
    rw [spc_le]; simp only [List.map_cons, List.map_nil, List.sum_cons, List.sum_nil, wRate, List.length_cons, List.length_nil]; omega
  have e1 : (mkS i p2 st tw lo hi2 fi se qu ra bu).lo = lo := rfl
  have e2 : (mkS i p2 st tw lo hi2 fi se qu ra bu).hi = hi2 := rfl
  have e3 : (mkS i p2 st tw lo hi2 fi se qu ra bu).filter = fi := rfl
  have e4 : (mkS i p2 st tw lo hi2 fi se qu ra bu).sess = se := rfl
  have e5 : (mkS i p2 st tw lo hi2 fi se qu ra bu).queue = qu := rfl
  have e6 : (mkS i p2 st tw lo hi2 fi se qu ra bu).rate = ra := rfl
  have e7 : (mkS i p2 st tw lo hi2 fi se qu ra bu).burst = bu := rfl
  rw [e1, e2, e3, e4, e5, e6, e7]
  omega
theorem SeatC.len {n : Nat} {c : Cgf} (h : SeatC n c) : (txt c).length ≤ 110 + 340 * n := by
  obtain ⟨d, ts, h0, h1, rfl, hl, hn, ht⟩ := h
  unfold txt lnsOf
  rw [List.flatMap_cons, List.length_append]
  have q : (spc (txtG ⟨adr 10 9 0 200, [2, 1, 0, 0, 0, 0], [2, 2, 0, 0, 0, 0], [2, 3, 0, 0, 0, 0], [200, 0, 0, 0, 0, 0, 0, 0], d, ts⟩)).length ≤ 110 := by
    show (spc [wGateway, ipx (adr 10 9 0 200), mact [2, 1, 0, 0, 0, 0], mact [2, 2, 0, 0, 0, 0], mact [2, 3, 0, 0, 0, 0], keyt [200, 0, 0, 0, 0, 0, 0, 0], wDrain, dec d]).length ≤ 110
    have a1 : (ipx (adr 10 9 0 200)).length ≤ 15 := ipx_le (adr_range (by omega) (by omega) (by omega) (by omega))
    have m1 : (mact [2, 1, 0, 0, 0, 0]).length = 17 := mact_six rfl
    have m2 : (mact [2, 2, 0, 0, 0, 0]).length = 17 := mact_six rfl
    have m3 : (mact [2, 3, 0, 0, 0, 0]).length = 17 := mact_six rfl
    have k1 : (keyt [200, 0, 0, 0, 0, 0, 0, 0]).length = 16 := by rw [keyt_len]; rfl
    have d1 := dec_le (n := d) 0 (by omega)
    rw [spc_le]
    simp only [List.map_cons, List.map_nil, List.sum_cons, List.sum_nil, wGateway, wDrain, List.length_cons, List.length_nil]
    omega
  have key : ∀ (k : Nat) (us : List Ten), (∀ i t, us[i]? = some t → SeatT (k + i) t) → k + us.length ≤ 4 → ((us.flatMap txtT).flatMap spc).length ≤ 340 * us.length := by
    intro k us
    induction us generalizing k with
    | nil => intro _ _; simp
    | cons t us ih =>
      intro hu hk
      rw [List.flatMap_cons, List.flatMap_append, List.length_append, List.length_cons]
      have h1 := (hu 0 t rfl).len (by simp at hk; omega)
      have h2 := ih (k + 1) (fun i t ht => by have := hu (i + 1) t ht; rw [show k + (i + 1) = k + 1 + i by omega] at this; exact this) (by simp at hk; omega)
      omega
  have := key 0 ts (fun i t hh => by rw [Nat.zero_add]; exact ht i t hh) (by omega)
  rw [hl] at this
  show (spc (txtG ⟨adr 10 9 0 200, [2, 1, 0, 0, 0, 0], [2, 2, 0, 0, 0, 0], [2, 3, 0, 0, 0, 0], [200, 0, 0, 0, 0, 0, 0, 0], d, ts⟩)).length + ((ts.flatMap txtT).flatMap spc).length ≤ _
  omega
end La
set_option maxHeartbeats 1000000 in
theorem addr_any (w : World) (a b c d : Int) (ha : 0 ≤ a ∧ a ≤ 255) (hb : 0 ≤ b ∧ b ≤ 255) (hc : 0 ≤ c ∧ c ≤ 255) (hd : 0 ≤ d ∧ d ≤ 255) :
    Calls Tryd.prog 23 #[.int .u8 a, .int .u8 b, .int .u8 c, .int .u8 d] w fun e w' => e = .returned (.int .u32 (adr a b c d)) ∧ w = w' := by
  have o1 : bits .or .u32 (a * 16777216) (b * 65536) = a * 16777216 + b * 65536 :=
    bits_join .u32 32 (by decide) wraps_u32 24 (a * 16777216) (b * 65536) (by omega) (by omega) (by omega) (by omega) (by omega) (by omega)
  have o2 : bits .or .u32 (a * 16777216 + b * 65536) (c * 256) = a * 16777216 + b * 65536 + c * 256 :=
    bits_join .u32 32 (by decide) wraps_u32 16 (a * 16777216 + b * 65536) (c * 256) (by omega) (by omega) (by omega) (by omega) (by omega) (by omega)
  have o3 : bits .or .u32 (a * 16777216 + b * 65536 + c * 256) d = a * 16777216 + b * 65536 + c * 256 + d :=
    bits_join .u32 32 (by decide) wraps_u32 8 (a * 16777216 + b * 65536 + c * 256) d (by omega) (by omega) (by omega) (by omega) (by omega) (by omega)
  have v1 := wrap32_small a ha.1 (by omega)
  have v2 := wrap32_small b hb.1 (by omega)
  have v3 := wrap32_small c hc.1 (by omega)
  have v4 := wrap32_small d hd.1 (by omega)
  have u1 := wrap32_small (a * 16777216) (by omega) (by omega)
  have u2 := wrap32_small (b * 65536) (by omega) (by omega)
  have u3 := wrap32_small (c * 256) (by omega) (by omega)
  clear ha hb hc hd
  go_enter Tryd.func23, Tryd.ntmps23
  go_wp2
  go_ret
  exact ⟨rfl, rfl⟩
end Go.Proofs.YtnddbklbgddblaaDoor

namespace Go.Proofs.YtnddbklbgddblaaDoor
open Go.RowKit
open La
open Ad
set_option linter.unusedVariables false
set_option linter.unusedSimpArgs false
set_option maxRecDepth 20000

section
variable {w V : World} {g : Nat} {post : List Value} {T : TypeId} {σ : Sg} {W K : List (Nat × Obj)}
theorem LnS.cellK (h : LnS w V g post T σ W K) {i n : Nat} {A : Array Value} {t : TypeId} (hi : K[i]? = some (n, .cells A t (0, 0))) (j : Nat) : V.cell? ⟨n, j, none⟩ = A[j]? := by
  have hl : i < K.length := by
    rcases Nat.lt_or_ge i K.length with h | h
    · exact h
    · rw [List.getElem?_eq_none h] at hi; cases hi
  exact h.mem.cell i (by rw [List.getElem?_append_left hl]; exact hi) j
theorem LnS.freeK (h : LnS w V g post T σ W K) {i n : Nat} {A : Array Value} {t : TypeId} (hi : K[i]? = some (n, .cells A t (0, 0))) (j : Nat) : V.frozen? ⟨n, j, none⟩ = false := by
  have hl : i < K.length := by
    rcases Nat.lt_or_ge i K.length with h | h
    · exact h
    · rw [List.getElem?_eq_none h] at hi; cases hi
  exact h.mem.free i (by rw [List.getElem?_append_left hl]; exact hi) j
theorem LnS.there (h : LnS w V g post T σ W K) {i n : Nat} {A : Array Value} {t : TypeId} (hi : K[i]? = some (n, .cells A t (0, 0))) (o m : Nat) (hm : o + m ≤ A.size) : V.there n o m := by
  intro j hj
  refine ⟨?_, h.freeK hi _⟩
  rw [h.cellK hi, Array.getElem?_eq_getElem (by omega)]
  rfl
end
end Go.Proofs.YtnddbklbgddblaaDoor

namespace Go.Proofs.YtnddbklbgddblaaDoor
open Go.RowKit
open Va
open Ad (nam)
set_option linter.unusedVariables false
set_option linter.unusedSimpArgs false
set_option maxRecDepth 20000

set_option maxHeartbeats 4000000 in
theorem tenant14_any {W : World} {v : Value} {t : Ten} (hv : Vs W) (h : TV W v t) (hm : TSm t) : Calls Tryd.prog 13 #[v] W fun e V => e = .returned (.int .i64 (tchk t)) ∧ Below W.heap.size W V := by
  obtain ⟨tl, pa, sa, qa, pc, sc, qc, rfl, hx⟩ := h.tb
  obtain ⟨g, hg⟩ : ∃ g, W.heap.size = g := ⟨_, rfl⟩
  have hM0 : Mem W (W.alloc (.cells tl.toArray 39)) [(g, .cells tl.toArray 39 (0, 0))] := (Mem.nil W).push1 hg.symm
  have HM0 : Hid (Mem W (W.alloc (.cells tl.toArray 39)) [(g, .cells tl.toArray 39 (0, 0))]) := hM0
  have HC : Hid (∀ X, Below W.heap.size W X → Calls Tryd.prog 27 #[.agg tl.toArray] X (Rls X (Va.trs t))) := fun X hX => trules_any (hv.below hX) (hx.later hX).tv hm
  have i33 := i33_of hx.len
  have HL : Hid ((Va.trs t).length = 17) := rfl
  unfold tchk
  clear hv h hm hx hM0
  generalize Va.trs t = ES at *
  generalize tl.toArray = A at *
  go_enter Tryd.func13, Tryd.ntmps13
  go_upto_region 1 with fail
  refine wp_letter (fun X => Mem W X [(g, .cells A 39 (0, 0))]) (by exact HM0.out) ?_
  intro V hM
  try simp only [hg]
  clear HM0 hg
  have hk := hM.get 0 rfl
  have C := HC.out V hM.below
  have HB : Hid (Below W.heap.size W V) := hM.below
  clear HC hM
  go_wp2_with (refine wpList_load_row rfl 39 (.tmp 1) (by with_reducible rfl) g (by first | rfl | simp [Act.eval]) 39 A (0, 0) _ hk Tryd.underlying39 rfl i33 ?_)
  refine C.mono ?_
  rintro _ X ⟨gl, rfl, h1, h2⟩
  have C2 := first_any rfl (by rw [HL.out]; omega) h1
  have HB2 : Hid (Below W.heap.size W X) := HB.out.trans (h2.mono HB.out.size)
  clear C h1 h2 HB
  go_wp2_with fail
  refine C2.mono ?_
  rintro _ X2 ⟨rfl, hb⟩
  go_wp2_with fail
  go_ret
  exact ⟨rfl, HB2.out.trans (hb.mono HB2.out.size)⟩
end Go.Proofs.YtnddbklbgddblaaDoor

