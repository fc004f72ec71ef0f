/-
  Settings as bytes: the document's own reader: pairs.
  Settings as bytes: the program's whole (lych/api.Change): what all bytes are.
  Settings as bytes: the field of the tenants.
  Which settings may be, in plain numbers: rules told in order, the first error; both the program's and the document's.
-/
import Derived.Test.YtnddbklbgddblaaDoorPf21
import Derived.Test.YtnddbklbgddblaaDoorPf20
import Derived.Test.YtnddbklbgddblaaDoorPf03
namespace Go.Proofs.YtnddbklbgddblaaDoor
open Go.RowKit
open Sm
open Cf
set_option linter.unusedVariables false
set_option linter.unusedSimpArgs false
set_option maxRecDepth 20000

/-- So many pairs, while there are bytes; and what is left. -/
def prs : Nat → Option (List Int) → List (Int × Int) × Option (List Int)
  | 0, σ => ([], σ)
  | _ + 1, none => ([], none)
  | n + 1, some r => ((num (tk 4 (some r)), num (tk 4 (nx 4 (some r)))) :: (prs n (nx 4 (nx 4 (some r)))).1, (prs n (nx 4 (nx 4 (some r)))).2)
/-- A list of the call's own in blocks B. -/
def OwB (T : TypeId) (sz : Nat) (v : Value) (n : Nat) (xs : List Value) (B : List (Nat × Obj)) : Prop :=
  xs.length = n * sz ∧ ((v = .slice none 0 0 ∧ n = 0 ∧ B = []) ∨ ∃ g cap cur, v = .slice (some ⟨g, 0, none⟩) n cap ∧ B = [(g, .cells cur T (0, 0))] ∧ n ≤ cap ∧ cap ≤ maxLen ∧ cur.size = cap * sz ∧ cur.toList.take (n * sz) = xs)
theorem OwB.nil (T : TypeId) (sz : Nat) : OwB T sz (.slice none 0 0) 0 [] [] := ⟨by simp, Or.inl ⟨rfl, rfl, rfl⟩⟩
theorem OwB.ow {w V : World} {T : TypeId} {sz n : Nat} {v : Value} {xs : List Value} {B L : List (Nat × Obj)} (h : OwB T sz v n xs B) (hM : Mem w V (B ++ L)) : Ow w V T sz v n xs L := by
  obtain ⟨h1, h2⟩ := h
  refine ⟨h1, ?_⟩
  rcases h2 with ⟨rfl, e, rfl⟩ | ⟨g, cap, cur, rfl, rfl, r⟩
  · exact Or.inl ⟨rfl, e, hM⟩
  · exact Or.inr ⟨g, cap, cur, rfl, hM, r⟩
theorem Ow.owb {w V : World} {T : TypeId} {sz n : Nat} {v : Value} {xs : List Value} {L : List (Nat × Obj)} (h : Ow w V T sz v n xs L) : ∃ B, OwB T sz v n xs B ∧ Mem w V (B ++ L) := by
  obtain ⟨h1, h2⟩ := h
  rcases h2 with ⟨rfl, e, hM⟩ | ⟨g, cap, cur, rfl, hM, r⟩
  · exact ⟨[], ⟨h1, Or.inl ⟨rfl, e, rfl⟩⟩, hM⟩
  · exact ⟨[(g, .cells cur T (0, 0))], ⟨h1, Or.inr ⟨g, cap, cur, rfl, rfl, r⟩⟩, hM⟩
theorem px_snoc (acc : List (Int × Int)) (x : Int × Int) : (px (acc ++ [x])).flatten = (px acc).flatten ++ [.int .u32 x.1, .int .u32 x.2] := by simp [px]
theorem ux_snoc (acc : List Int) (x : Int) : (ux (acc ++ [x])).flatten = (ux acc).flatten ++ [.int .u32 x] := by simp [ux]
theorem addr_mid (b off j : Nat) : (Addr.mk b off none).add j = ⟨b, off + j, none⟩ := Addr.add_mid b off j
end Go.Proofs.YtnddbklbgddblaaDoor

namespace Go.Proofs.YtnddbklbgddblaaDoor
open Go.RowKit
open Sm
open Cf
set_option linter.unusedVariables false
set_option maxRecDepth 20000

end Go.Proofs.YtnddbklbgddblaaDoor

namespace Go.Proofs.YtnddbklbgddblaaDoor
open Go.RowKit
open Sm
open Cf
set_option linter.unusedVariables false
set_option maxRecDepth 20000

end Go.Proofs.YtnddbklbgddblaaDoor

namespace Go.Proofs.YtnddbklbgddblaaDoor
open Go.RowKit
open Ad
set_option linter.unusedVariables false
set_option linter.unusedSimpArgs false

namespace Va
/-- The first error. -/
def fnz : List Int → Int
 | [] => 0
 | x :: r => if x = 0 then fnz r else x
def ul (e : Int) (ok : Bool) : Int := if ok then 0 else e
def wn (e : Int) (bad : Bool) : Int := ul e (!bad)
def wi (n a b : Int) : Bool := decide (a ≤ n) && decide (n ≤ b)
def hs (l : List Int) (x : Int) : Bool := l.any (fun y => x == y)
/-- The place i of a list is 0, or stands ahead. -/
def bad (l : List Int) (i : Nat) : Prop := l.getD i 0 = 0 ∨ hs (l.take i) (l.getD i 0) = true
instance (l : List Int) (i : Nat) : Decidable (bad l i) := by unfold bad; infer_instance
def unl (l : List Int) : Bool := decide (∀ i, i < l.length → ¬ bad l i)
def ow1 (t : Ten) (f : Int → Bool) : Bool := t.pool.any f || t.stat.any (fun p => f p.2)
def owns (t : Ten) (x : Int) : Bool := ow1 t (fun y => y == x)
def fst' (l : List (Int × Int)) : List Int := l.map Prod.fst
def snd' (l : List (Int × Int)) : List Int := l.map Prod.snd
def trs (t : Ten) : List Int :=
 [ul 90 (nam t.name.data.toList), ul 91 (wi t.vni 1 16777215), ul 92 (decide ((t.pool.length : Int) ≤ 8)), ul 92 (unl t.pool), ul 93 (wi t.lo 1 t.hi), ul 94 (wi t.filter 0 2),
  ul 94 (decide ((t.stat.length : Int) ≤ 16)), ul 94 (decide ((t.twi.length : Int) ≤ 16)), ul 94 (unl (fst' t.stat) && unl (snd' t.stat)), ul 94 (unl (fst' t.twi) && unl (snd' t.twi)),
  wn 94 ((snd' t.stat).any (hs t.pool)), wn 94 ((fst' t.twi).any (owns t)), ul 95 (wi t.sess 1 256), ul 95 (wi t.queue 1 64), ul 95 (decide (t.rate ≤ 1000000)), ul 95 (wi t.burst 1 1000000), ul 96 (t.vtep != 0)]
/-- A tenant's error. -/
def tchk (t : Ten) : Int := fnz (trs t)
def lss (a b : ByteArray) : Bool := Op.bytesLess a.toList b.toList
def grs (c : Cgf) : List Int := [ul 96 (c.ip != 0), ul 96 (decide (c.drain ≤ 1000)), ul 96 (decide ((c.ten.length : Int) ≤ 16))]
/-- What a tenant behind these is told. -/
def prs (ip : Int) (ahead : List Ten) (t : Ten) : List Int :=
 [tchk t, ul 90 (ahead.length == 0 || lss (ahead.getD (ahead.length - 1) ten0).name t.name), wn 91 (ahead.any (fun o => o.vni == t.vni)), wn 92 (ow1 t (fun x => x == ip || ahead.any (fun o => owns o x)))]
def pchk (c : Cgf) (i : Nat) : Int := fnz (prs c.ip (c.ten.take i) (c.ten.getD i ten0))
def pfrom (c : Cgf) (i n : Nat) : Int := fnz ((List.range' i n).map (pchk c))
/-- The settings' error. -/
def chk (c : Cgf) : Int := if fnz (grs c) = 0 then pfrom c 0 c.ten.length else fnz (grs c)
theorem pfrom_succ (c : Cgf) (i n : Nat) : pfrom c i (n + 1) = if pchk c i = 0 then pfrom c (i + 1) n else pchk c i := by
 unfold pfrom; rw [List.range'_succ, List.map_cons, fnz]
theorem fnz_cons (x : Int) (r : List Int) : fnz (x :: r) = if x = 0 then fnz r else x := rfl
theorem fnz_yes {x : Int} {r : List Int} (h : x = 0) : fnz (x :: r) = fnz r := by rw [fnz_cons, if_pos h]
theorem fnz_no {x : Int} {r : List Int} (h : x ≠ 0) : fnz (x :: r) = x := by rw [fnz_cons, if_neg h]
theorem hs_iff {l : List Int} {x : Int} : hs l x = true ↔ x ∈ l := by
 unfold hs
 rw [List.any_eq_true]
 exact ⟨fun ⟨y, h, e⟩ => by rw [beq_iff_eq] at e; subst e; exact h, fun h => ⟨x, h, beq_self_eq_true x⟩⟩
theorem ow1_iff {t : Ten} {f : Int → Bool} : ow1 t f = true ↔ ∃ x, x ∈ t.pool ++ snd' t.stat ∧ f x = true := by
  unfold ow1 snd'
  rw [Bool.or_eq_true, List.any_eq_true, List.any_eq_true]
  constructor
  · rintro (⟨x, h, e⟩ | ⟨p, h, e⟩)
    · exact ⟨x, List.mem_append_left _ h, e⟩
    · exact ⟨p.2, List.mem_append_right _ (List.mem_map_of_mem h), e⟩
  · rintro ⟨x, h, e⟩
    rcases List.mem_append.mp h with h | h
    · exact Or.inl ⟨x, h, e⟩
    · obtain ⟨p, hp, rfl⟩ := List.mem_map.mp h
      exact Or.inr ⟨p, hp, e⟩
theorem owns_iff {t : Ten} {x : Int} : owns t x = true ↔ x ∈ t.pool ++ snd' t.stat := by
  unfold owns
  rw [ow1_iff]
  exact ⟨fun ⟨y, h, e⟩ => by rw [beq_iff_eq] at e; subst e; exact h, fun h => ⟨x, h, beq_self_eq_true x⟩⟩
end Va
end Go.Proofs.YtnddbklbgddblaaDoor

