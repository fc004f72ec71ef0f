/-
  Settings as text: words and lines of a text, and what is read of them, in plain numbers.
  Settings as bytes: a tenant that was written is read back, but for what was cut off, and no part of it is read.
  Settings as bytes: the document's own Tenant, at every tenant.
-/
import Derived.Test.YtneciccdiledfaaGreatDoorM12
import Derived.Test.YtneciccdiledfaaGreatDoorM04
import Derived.Test.YtneciccdiledfaaGreatDoorM22
import Derived.Test.YtneciccdiledfaaGreatDoorM21
import Derived.Deep.DeepCutAuto
namespace Go.Proofs.YtneciccdiledfaaGreatDoor
open Go.RowKit
open Ad
set_option linter.unusedVariables false
set_option linter.unusedSimpArgs false
set_option maxRecDepth 20000
namespace La
def wGateway : List UInt8 := [103, 97, 116, 101, 119, 97, 121]
def wDrain : List UInt8 := [100, 114, 97, 105, 110]
def wTenant : List UInt8 := [116, 101, 110, 97, 110, 116]
def wVni : List UInt8 := [118, 110, 105]
def wKey : List UInt8 := [107, 101, 121]
def wVtep : List UInt8 := [118, 116, 101, 112]
def wHost : List UInt8 := [104, 111, 115, 116]
def wPool : List UInt8 := [112, 111, 111, 108]
def wPorts : List UInt8 := [112, 111, 114, 116, 115]
def wFilter : List UInt8 := [102, 105, 108, 116, 101, 114]
def wStatic : List UInt8 := [115, 116, 97, 116, 105, 99]
def wTwice : List UInt8 := [116, 119, 105, 99, 101]
def wQuota : List UInt8 := [113, 117, 111, 116, 97]
def wRate : List UInt8 := [114, 97, 116, 101]
def wAny : List UInt8 := [97, 110, 121]
def wAddress : List UInt8 := [97, 100, 100, 114, 101, 115, 115]
def wPort : List UInt8 := [112, 111, 114, 116]
/-- A word: its text, and where it begins. -/
abbrev Wd := ByteArray × Nat
/-- The words so far, and the one that begins at b, if there is one, ended at p. -/
def ended (s : ByteArray) (ws : List Wd) (cur : Option Nat) (p : Nat) : List Wd := match cur with
  | none => ws
  | some b => ws ++ [(s.extract b p, b)]
def lined (ws : List Wd) (p : Nat) : List (List Wd × Nat) := if ws = [] then [] else [(ws, p)]
/-- The lines of what is left of a text, byte by byte. -/
def scan (s : ByteArray) : List UInt8 → Nat → List Wd → Option Nat → Bool → List (List Wd × Nat)
  | [], p, ws, cur, _ => lined (ended s ws cur p) p
  | b :: r, p, ws, cur, mute =>
    if b = 10 then lined (ended s ws cur p) p ++ scan s r (p + 1) [] none false
    else if mute = true then scan s r (p + 1) ws cur true
    else if b = 32 then scan s r (p + 1) (ended s ws cur p) none false
    else if b = 35 then scan s r (p + 1) (ended s ws cur p) none true
    else scan s r (p + 1) ws (some (cur.getD p)) false
/-- A text's lines that have words: these, and where the line ends. -/
def lns (s : ByteArray) : List (List Wd × Nat) := scan s s.data.toList 0 [] none false
theorem scan_nil (s : ByteArray) (p : Nat) (ws : List Wd) (cur : Option Nat) (m : Bool) : scan s [] p ws cur m = lined (ended s ws cur p) p := by rw [scan]
theorem scan_feed (s : ByteArray) (r : List UInt8) (p : Nat) (ws : List Wd) (cur : Option Nat) (m : Bool) : scan s (10 :: r) p ws cur m = lined (ended s ws cur p) p ++ scan s r (p + 1) [] none false := by rw [scan, if_pos rfl]
theorem scan_mute (s : ByteArray) {b : UInt8} (r : List UInt8) (p : Nat) (ws : List Wd) (cur : Option Nat) (h : b ≠ 10) : scan s (b :: r) p ws cur true = scan s r (p + 1) ws cur true := by rw [scan, if_neg h, if_pos rfl]
theorem scan_blank (s : ByteArray) (r : List UInt8) (p : Nat) (ws : List Wd) (cur : Option Nat) : scan s (32 :: r) p ws cur false = scan s r (p + 1) (ended s ws cur p) none false := by rw [scan, if_neg (by decide), if_neg (by decide), if_pos rfl]
theorem scan_hash (s : ByteArray) (r : List UInt8) (p : Nat) (ws : List Wd) (cur : Option Nat) : scan s (35 :: r) p ws cur false = scan s r (p + 1) (ended s ws cur p) none true := by rw [scan, if_neg (by decide), if_neg (by decide), if_neg (by decide), if_pos rfl]
theorem scan_word (s : ByteArray) {b : UInt8} (r : List UInt8) (p : Nat) (ws : List Wd) (cur : Option Nat) (h1 : b ≠ 10) (h2 : b ≠ 32) (h3 : b ≠ 35) : scan s (b :: r) p ws cur false = scan s r (p + 1) ws (some (cur.getD p)) false := by
  rw [scan, if_neg h1, if_neg (by decide), if_neg h2, if_neg h3]
/-- Bytes of no sign say nothing behind the first. -/
theorem scan_high (s : ByteArray) (ws : List Wd) (m : Bool) : ∀ (k : Nat) (l : List UInt8) (p : Nat) (cur : Option Nat), k ≤ l.length → (m = true ∨ cur ≠ none) → (∀ j, j < k → 128 ≤ (l.getD j 0).toNat) →
    scan s l p ws cur m = scan s (l.drop k) (p + k) ws cur m
  | 0, l, p, cur, _, _, _ => by simp
  | k + 1, [], p, cur, h, _, _ => by simp at h
  | k + 1, b :: t, p, cur, h, hm, hz => by
    have h0 : 128 ≤ b.toNat := by simpa using hz 0 (by omega)
    have n1 : b ≠ 10 := by rintro rfl; simp at h0
    have n2 : b ≠ 32 := by rintro rfl; simp at h0
    have n3 : b ≠ 35 := by rintro rfl; simp at h0
    have ih := fun c hc => scan_high s ws m k t (p + 1) c (by simp at h; omega) hc (fun j hj => by simpa using hz (j + 1) (by omega))
    rw [List.drop_succ_cons, show p + (k + 1) = p + 1 + k by omega]
    cases m with
    | true => rw [scan_mute _ _ _ _ _ n1]; exact ih cur (Or.inl rfl)
    | false =>
      obtain ⟨c, rfl⟩ : ∃ c, cur = some c := by
        cases cur with
        | none => simp at hm
        | some c => exact ⟨c, rfl⟩
      rw [scan_word _ _ _ _ _ n1 n2 n3]
      exact ih (some c) (Or.inr (by simp))
/-- The words of a line. -/
def lw (s : ByteArray) : List UInt8 → Nat → Option Nat → List Wd
  | [], p, cur => ended s [] cur p
  | b :: r, p, cur => if b = 35 then ended s [] cur p else if b = 32 then ended s [] cur p ++ lw s r (p + 1) none else lw s r (p + 1) (some (cur.getD p))
theorem lw_nil (s : ByteArray) (p : Nat) (cur : Option Nat) : lw s [] p cur = ended s [] cur p := by rw [lw]
theorem lw_hash (s : ByteArray) (r : List UInt8) (p : Nat) (cur : Option Nat) : lw s (35 :: r) p cur = ended s [] cur p := by rw [lw, if_pos rfl]
theorem lw_blank (s : ByteArray) (r : List UInt8) (p : Nat) (cur : Option Nat) : lw s (32 :: r) p cur = ended s [] cur p ++ lw s r (p + 1) none := by rw [lw, if_neg (by decide), if_pos rfl]
theorem lw_word (s : ByteArray) {b : UInt8} (r : List UInt8) (p : Nat) (cur : Option Nat) (h1 : b ≠ 35) (h2 : b ≠ 32) : lw s (b :: r) p cur = lw s r (p + 1) (some (cur.getD p)) := by rw [lw, if_neg h1, if_neg h2]
theorem ended_app (s : ByteArray) (ws : List Wd) (cur : Option Nat) (p : Nat) : ended s ws cur p = ws ++ ended s [] cur p := by cases cur <;> simp [ended]
theorem scan_muted (s : ByteArray) (ws : List Wd) : ∀ (l t : List UInt8) (p : Nat), (∀ b ∈ l, b ≠ 10) → scan s (l ++ t) p ws none true = scan s t (p + l.length) ws none true
  | [], t, p, _ => by simp
  | b :: l, t, p, h => by
    rw [List.cons_append, scan_mute _ _ _ _ _ (h b (by simp)), scan_muted s ws l t (p + 1) (fun b hb => h b (by simp [hb]))]
    congr 1; simp; omega
/-- A line of a text, as its words tell. -/
theorem scan_line (s : ByteArray) (t : List UInt8) (ht : t = [] ∨ ∃ r, t = 10 :: r) : ∀ (l : List UInt8) (p : Nat) (ws : List Wd) (cur : Option Nat), (∀ b ∈ l, b ≠ 10) →
    scan s (l ++ t) p ws cur false = lined (ws ++ lw s l p cur) (p + l.length) ++ (match t with | [] => [] | _ :: r => scan s r (p + l.length + 1) [] none false)
  | [], p, ws, cur, _ => by
    rcases ht with rfl | ⟨r, rfl⟩
    · simp [scan_nil, lw_nil, ended_app s ws]
    · simp [scan_feed, lw_nil, ended_app s ws]
  | b :: l, p, ws, cur, h => by
    have h1 := h b (by simp)
    have hl : ∀ b ∈ l, b ≠ 10 := fun b hb => h b (by simp [hb])
    have e : p + (b :: l).length = p + 1 + l.length := by simp; omega
    rw [List.cons_append, e]
    by_cases h2 : b = 35
    · subst h2
      rw [scan_hash, lw_hash, scan_muted s _ l t _ hl, ended_app s ws]
      rcases ht with rfl | ⟨r, rfl⟩
      · simp [scan_nil, ended]
      · simp [scan_feed, ended]
    · by_cases h3 : b = 32
      · subst h3
        rw [scan_blank, scan_line s t ht l _ _ _ hl, lw_blank, ended_app s ws, List.append_assoc]
      · rw [scan_word _ _ _ _ _ h1 h3 h2, scan_line s t ht l _ _ _ hl, lw_word _ _ _ _ h2 h3]
/-- A word ends ahead of a blank, a hash, the line's end. -/
theorem lw_end (s : ByteArray) {l : List UInt8} (h : l = [] ∨ l.head? = some 32 ∨ l.head? = some 35) (p b : Nat) : lw s l p (some b) = (s.extract b p, b) :: lw s l p none := by
  cases l with
  | nil => simp [lw_nil, ended]
  | cons x l =>
    simp at h
    rcases h with rfl | rfl
    · simp [lw_blank, ended]
    · simp [lw_hash, ended]

/-! ### What is read of lines -/
/-- A line that is read: the words that are left, where it ends, where the first fault lies. -/
structure Sg where
  ws : List Wd
  fin : Nat
  bad : Option Nat
def Sg.fail (σ : Sg) (a : Nat) : Sg := ⟨σ.ws, σ.fin, some (σ.bad.getD a)⟩
def wd (σ : Sg) : Wd := match σ.ws with
  | [] => (⟨#[]⟩, σ.fin)
  | w :: _ => w
def nxt (σ : Sg) : Sg := match σ.ws with
  | [] => σ.fail σ.fin
  | _ :: r => ⟨r, σ.fin, σ.bad⟩
abbrev wt (σ : Sg) : List UInt8 := (wd σ).1.data.toList
def must (s : List UInt8) (σ : Sg) : Sg := if wt σ = s then nxt σ else (nxt σ).fail (wd σ).2
def val {α : Type} (f : List UInt8 → Option α) (σ : Sg) : Option α := f (wt σ)
def vnx {α : Type} (f : List UInt8 → Option α) (σ : Sg) : Sg := if (f (wt σ)).isSome then nxt σ else (nxt σ).fail (wd σ).2
def done (σ : Sg) : Sg := match σ.ws with
  | [] => σ
  | w :: _ => σ.fail w.2
abbrev n32 (l : List UInt8) : Option Nat := num l 4294967295
abbrev n24 (l : List UInt8) : Option Nat := num l 16777215
abbrev n16 (l : List UInt8) : Option Nat := num l 65535
def nm (l : List UInt8) : Option Unit := if nam l then some () else none
def flt (l : List UInt8) : Option Nat := if l = wAny then some 0 else if l = wAddress then some 1 else if l = wPort then some 2 else none
abbrev m6 (o : Option (List Int)) : List Int := o.getD [0, 0, 0, 0, 0, 0]
abbrev k8 (o : Option (List Int)) : List Int := o.getD [0, 0, 0, 0, 0, 0, 0, 0]
/-- The first line. -/
def g1 (σ : Sg) : Sg := must wGateway σ
def g2 (σ : Sg) : Sg := vnx ip (g1 σ)
def g3 (σ : Sg) : Sg := vnx mac (g2 σ)
def g4 (σ : Sg) : Sg := vnx mac (g3 σ)
def g5 (σ : Sg) : Sg := vnx mac (g4 σ)
def g6 (σ : Sg) : Sg := vnx key (g5 σ)
def g7 (σ : Sg) : Sg := must wDrain (g6 σ)
def g8 (σ : Sg) : Sg := vnx n32 (g7 σ)
def gwC (σ : Sg) : Cgf := ⟨nv (val ip (g1 σ)), m6 (val mac (g2 σ)), m6 (val mac (g3 σ)), m6 (val mac (g4 σ)), k8 (val key (g5 σ)), nv (val n32 (g7 σ)), []⟩
def gwS (σ : Sg) : Sg := done (g8 σ)
/-- A tenant's line, behind its first word. -/
def t1 (σ : Sg) : Sg := vnx nm σ
def t2 (σ : Sg) : Sg := must wVni (t1 σ)
def t3 (σ : Sg) : Sg := vnx n24 (t2 σ)
def t4 (σ : Sg) : Sg := must wKey (t3 σ)
def t5 (σ : Sg) : Sg := vnx key (t4 σ)
def t6 (σ : Sg) : Sg := must wVtep (t5 σ)
def t7 (σ : Sg) : Sg := vnx ip (t6 σ)
def t8 (σ : Sg) : Sg := vnx mac (t7 σ)
def t9 (σ : Sg) : Sg := must wHost (t8 σ)
def tnS (σ : Sg) : Sg := vnx mac (t9 σ)
def tnT (σ : Sg) : Ten := { ten0 with name := (wd σ).1, vni := nv (val n24 (t2 σ)), key := k8 (val key (t4 σ)), vtep := nv (val ip (t6 σ)), vmac := m6 (val mac (t7 σ)), host := m6 (val mac (t9 σ)) }
/-- Addresses, as many as there are. -/
def pl : List Wd → Nat → Option Nat → List Int × Sg
  | [], fin, bad => ([], ⟨[], fin, bad⟩)
  | w :: r, fin, some a => ([], ⟨w :: r, fin, some a⟩)
  | w :: r, fin, none => match ip w.1.data.toList with
    | none => ([0], ⟨r, fin, some w.2⟩)
    | some n => ((n : Int) :: (pl r fin none).1, (pl r fin none).2)
def two2 {α : Type} (f : List UInt8 → Option α) (σ : Sg) : Sg := vnx f (vnx f σ)
def ofl (o : Option Nat) (d : Int) : Int := match o with
  | none => d
  | some n => (n : Int)
/-- What a line that begins so tells of a tenant. -/
def part (b : Wd) (t : Ten) (σ : Sg) : Ten × Sg :=
  if b.1.data.toList = wPool then ({ t with pool := t.pool ++ (pl σ.ws σ.fin σ.bad).1 }, (pl σ.ws σ.fin σ.bad).2)
  else if b.1.data.toList = wPorts then ({ t with lo := nv (val n16 σ), hi := nv (val n16 (vnx n16 σ)) }, two2 n16 σ)
  else if b.1.data.toList = wFilter then ({ t with filter := ofl (val flt σ) t.filter }, vnx flt σ)
  else if b.1.data.toList = wStatic then ({ t with stat := t.stat ++ [(nv (val ip σ), nv (val ip (vnx ip σ)))] }, two2 ip σ)
  else if b.1.data.toList = wTwice then ({ t with twi := t.twi ++ [(nv (val ip σ), nv (val ip (vnx ip σ)))] }, two2 ip σ)
  else if b.1.data.toList = wQuota then ({ t with sess := nv (val n16 σ), queue := nv (val n16 (vnx n16 σ)) }, two2 n16 σ)
  else if b.1.data.toList = wRate then ({ t with rate := nv (val n32 σ), burst := nv (val n32 (vnx n32 σ)) }, two2 n32 σ)
  else (t, σ.fail b.2)
/-- A line behind the first. -/
def ln (c : Cgf) (σ : Sg) : Cgf × Sg :=
  if wt σ = wTenant then ({ c with ten := c.ten ++ [tnT (nxt σ)] }, tnS (nxt σ))
  else match c.ten.getLast? with
    | none => (c, (nxt σ).fail (wd σ).2)
    | some t => ({ c with ten := c.ten.dropLast ++ [(part (wd σ) t (nxt σ)).1] }, (part (wd σ) t (nxt σ)).2)
/-- A line: the first, if there are no settings yet. -/
def rdn (o : Option Cgf) (σ : Sg) : Cgf × Sg := match o with
  | none => (gwC σ, g8 σ)
  | some c => ln c σ
def bd (b : Option Nat) (k : Except Nat Cgf) : Except Nat Cgf := match b with
  | some a => .error a
  | none => k
def nd (n : Nat) (o : Option Cgf) : Except Nat Cgf := match o with
  | none => .error n
  | some c => .ok c
def rdg (n : Nat) : List (List Wd × Nat) → Option Cgf → Except Nat Cgf
  | [], o => nd n o
  | l :: r, o => bd (done (rdn o ⟨l.1, l.2, none⟩).2).bad (rdg n r (some (rdn o ⟨l.1, l.2, none⟩).1))
def rdl (n : Nat) (o : Option Cgf) (ls : List (List Wd × Nat)) : Except Nat Cgf := rdg n ls o
theorem rdl_nil {n : Nat} {o : Option Cgf} : rdl n o [] = nd n o := by unfold rdl; rw [rdg]
theorem rdl_bad {n : Nat} {o : Option Cgf} {l : List Wd × Nat} {r : List (List Wd × Nat)} {a : Nat} (h : (done (rdn o ⟨l.1, l.2, none⟩).2).bad = some a) : rdl n o (l :: r) = .error a := by
  unfold rdl; rw [rdg, h, bd]
theorem rdl_good {n : Nat} {o : Option Cgf} {l : List Wd × Nat} {r : List (List Wd × Nat)} (h : (done (rdn o ⟨l.1, l.2, none⟩).2).bad = none) : rdl n o (l :: r) = rdl n (some (rdn o ⟨l.1, l.2, none⟩).1) r := by
  unfold rdl; rw [rdg, h, bd]
theorem ln_tenant {c : Cgf} {σ : Sg} (h : wt σ = wTenant) : ln c σ = ({ c with ten := c.ten ++ [tnT (nxt σ)] }, tnS (nxt σ)) := by
  rw [ln, if_pos h]
theorem ln_none {c : Cgf} {σ : Sg} (h : wt σ ≠ wTenant) (ht : c.ten = []) : ln c σ = (c, (nxt σ).fail (wd σ).2) := by
  rw [ln, if_neg h, ht]; rfl
theorem ln_some {c : Cgf} {σ : Sg} {ts : List Ten} {t : Ten} (h : wt σ ≠ wTenant) (ht : c.ten = ts ++ [t]) : ln c σ = ({ c with ten := ts ++ [(part (wd σ) t (nxt σ)).1] }, (part (wd σ) t (nxt σ)).2) := by
  have e1 : c.ten.getLast? = some t := by rw [ht]; simp
  have e2 : c.ten.dropLast = ts := by rw [ht]; simp
  rw [ln, if_neg h, e1, e2]
/-- What a text says: settings, or where the first fault lies. -/
def parse (s : ByteArray) : Except Nat Cgf := if 32768 < s.size then .error 32768 else rdl s.size none (lns s)

/-! ### The first fault stays -/
theorem fail_bad {σ : Sg} {a b : Nat} (h : σ.bad = some a) : (σ.fail b).bad = some a := by simp [Sg.fail, h]
theorem nxt_bad {σ : Sg} {a : Nat} (h : σ.bad = some a) : (nxt σ).bad = some a := by
  unfold nxt; split
  · exact fail_bad h
  · exact h
theorem must_bad {s : List UInt8} {σ : Sg} {a : Nat} (h : σ.bad = some a) : (must s σ).bad = some a := by
  unfold must; split
  · exact nxt_bad h
  · exact fail_bad (nxt_bad h)
theorem vnx_bad {α : Type} {f : List UInt8 → Option α} {σ : Sg} {a : Nat} (h : σ.bad = some a) : (vnx f σ).bad = some a := by
  unfold vnx; split
  · exact nxt_bad h
  · exact fail_bad (nxt_bad h)
theorem done_bad {σ : Sg} {a : Nat} (h : σ.bad = some a) : (done σ).bad = some a := by
  unfold done; split
  · exact h
  · exact fail_bad h
theorem pl_bad {ws : List Wd} {fin a : Nat} : (pl ws fin (some a)).2.bad = some a := by
  cases ws <;> rfl
theorem fail_fin (σ : Sg) (a : Nat) : (σ.fail a).fin = σ.fin := rfl
theorem nxt_fin (σ : Sg) : (nxt σ).fin = σ.fin := by unfold nxt; split <;> rfl
theorem must_fin (s : List UInt8) (σ : Sg) : (must s σ).fin = σ.fin := by unfold must; split <;> simp [fail_fin, nxt_fin]
theorem vnx_fin {α : Type} (f : List UInt8 → Option α) (σ : Sg) : (vnx f σ).fin = σ.fin := by unfold vnx; split <;> simp [fail_fin, nxt_fin]
end La
end Go.Proofs.YtneciccdiledfaaGreatDoor

namespace Go.Proofs.YtneciccdiledfaaGreatDoor
open Go.RowKit
open Sm
open Cf
set_option linter.unusedVariables false
set_option maxRecDepth 20000

theorem rb_pair (y z : Int × Int) : RB spP.dec (spP.enc y) z (num (be 4 y.1), num (be 4 y.2)) := by
  obtain ⟨x', h, e⟩ := sq_rb (dec := fun i => ([spA, spB].getD i sp0).dec) (enc := fun i => ([spA, spB].getD i sp0).enc y)
    (Inv := fun k x => x = (if 0 < k then num (be 4 y.1) else z.1, if 1 < k then num (be 4 y.2) else z.2)) 2 0 z (fun k _ hk x hx => by
      subst hx
      match k, hk with
      | 0, _ => exact ⟨_, (rb_num 4 _ _ y _ : RB spA.dec (spA.enc y) _ _), rfl⟩
      | 1, _ => exact ⟨_, (rb_num 4 _ _ y _ : RB spB.dec (spB.enc y) _ _), rfl⟩) rfl
  subst e
  rw [← cat_eq] at h
  exact h
theorem rb_u (y z : Int) : RB spU.dec (spU.enc y) z (num (be 4 y)) := rb_num 4 id (fun _ y => y) y z
/-- A tenant as it is read back. -/
def tcut (t : Ten) : Ten := ⟨strOfNums ((sb t.name).take 255), num (be 4 t.vni), t.key, num (be 4 t.vtep), t.vmac, t.host, (t.pool.take 255).map (fun v => num (be 4 v)), num (be 2 t.lo), num (be 2 t.hi), num (be 1 t.filter),
  (t.stat.take 255).map (fun v => (num (be 4 v.1), num (be 4 v.2))), (t.twi.take 255).map (fun v => (num (be 4 v.1), num (be 4 v.2))), num (be 2 t.sess), num (be 2 t.queue), num (be 4 t.rate), num (be 4 t.burst)⟩
/-- What is read of it behind k fields. -/
def stt (t : Ten) (k : Nat) : Ten := ⟨if 0 < k then (tcut t).name else ten0.name, if 1 < k then (tcut t).vni else ten0.vni, if 2 < k then t.key else ten0.key, if 3 < k then (tcut t).vtep else ten0.vtep, if 4 < k then t.vmac else ten0.vmac, if 5 < k then t.host else ten0.host,
  if 16 < k then (tcut t).pool else if 13 < k then List.replicate (min t.pool.length 255) 0 else [], if 6 < k then (tcut t).lo else ten0.lo, if 7 < k then (tcut t).hi else ten0.hi, if 8 < k then (tcut t).filter else ten0.filter,
  if 17 < k then (tcut t).stat else if 14 < k then List.replicate (min t.stat.length 255) (0, 0) else [], if 18 < k then (tcut t).twi else if 15 < k then List.replicate (min t.twi.length 255) (0, 0) else [],
  if 9 < k then (tcut t).sess else ten0.sess, if 10 < k then (tcut t).queue else ten0.queue, if 11 < k then (tcut t).rate else ten0.rate, if 12 < k then (tcut t).burst else ten0.burst⟩
theorem set_pool_eq (x : Ten) (m : Nat) (h : x.pool = []) : set_pool x m = { x with pool := List.replicate m 0 } := by
  unfold set_pool
  split
  · rename_i e; subst e; cases x; simp only at h; subst h; rfl
  · rfl
theorem set_stat_eq (x : Ten) (m : Nat) (h : x.stat = []) : set_stat x m = { x with stat := List.replicate m (0, 0) } := by
  unfold set_stat
  split
  · rename_i e; subst e; cases x; simp only at h; subst h; rfl
  · rfl
theorem set_twi_eq (x : Ten) (m : Nat) (h : x.twi = []) : set_twi x m = { x with twi := List.replicate m (0, 0) } := by
  unfold set_twi
  split
  · rename_i e; subst e; cases x; simp only at h; subst h; rfl
  · rfl
set_option maxHeartbeats 4000000 in
theorem tenc_rb (t : Ten) (hl : TLen t) : RB spT.dec (spT.enc t) ten0 (tcut t) := by
  obtain ⟨x', h, e⟩ := sq_rb (dec := fun i => (tsp.getD i sp0).dec) (enc := fun i => (tsp.getD i sp0).enc t) (Inv := fun k x => x = stt t k) 19 0 ten0 (fun k _ hk x hx => by
      subst hx
      match k, hk with
      | 0, _ => exact ⟨_, (rb_txt _ _ t _ (sb_len _) : RB spName.dec (spName.enc t) _ _), rfl⟩
      | 1, _ => exact ⟨_, (rb_num 4 _ _ t _ : RB spVni.dec (spVni.enc t) _ _), rfl⟩
      | 2, _ => exact ⟨_, (rb_oct 8 _ _ t _ hl.key : RB spKey.dec (spKey.enc t) _ _), rfl⟩
      | 3, _ => exact ⟨_, (rb_num 4 _ _ t _ : RB spVtep.dec (spVtep.enc t) _ _), rfl⟩
      | 4, _ => exact ⟨_, (rb_oct 6 _ _ t _ hl.vmac : RB spVtepMac.dec (spVtepMac.enc t) _ _), rfl⟩
      | 5, _ => exact ⟨_, (rb_oct 6 _ _ t _ hl.host : RB spHost.dec (spHost.enc t) _ _), rfl⟩
      | 6, _ => exact ⟨_, (rb_num 2 _ _ t _ : RB spLo.dec (spLo.enc t) _ _), rfl⟩
      | 7, _ => exact ⟨_, (rb_num 2 _ _ t _ : RB spHi.dec (spHi.enc t) _ _), rfl⟩
      | 8, _ => exact ⟨_, (rb_num 1 _ _ t _ : RB spFilter.dec (spFilter.enc t) _ _), rfl⟩
      | 9, _ => exact ⟨_, (rb_num 2 _ _ t _ : RB spSess.dec (spSess.enc t) _ _), rfl⟩
      | 10, _ => exact ⟨_, (rb_num 2 _ _ t _ : RB spQueue.dec (spQueue.enc t) _ _), rfl⟩
      | 11, _ => exact ⟨_, (rb_num 4 _ _ t _ : RB spRate.dec (spRate.enc t) _ _), rfl⟩
      | 12, _ => exact ⟨_, (rb_num 4 _ _ t _ : RB spBurst.dec (spBurst.enc t) _ _), rfl⟩
      | 13, _ => exact ⟨_, (rb_cnt _ _ t _ : RB spPool.dec (spPool.enc t) _ _), set_pool_eq _ _ rfl⟩
      | 14, _ => exact ⟨_, (rb_cnt _ _ t _ : RB spStatics.dec (spStatics.enc t) _ _), set_stat_eq _ _ rfl⟩
      | 15, _ => exact ⟨_, (rb_cnt _ _ t _ : RB spTwices.dec (spTwices.enc t) _ _), set_twi_eq _ _ rfl⟩
      | 16, _ => exact ⟨_, (rb_itm 0 spU _ rb_u _ _ t _ (List.length_replicate ..) : RB spPoolI.dec (spPoolI.enc t) _ _), rfl⟩
      | 17, _ => exact ⟨_, (rb_itm (0, 0) spP _ rb_pair _ _ t _ (List.length_replicate ..) : RB spStaticsI.dec (spStaticsI.enc t) _ _), rfl⟩
      | 18, _ => exact ⟨_, (rb_itm (0, 0) spP _ rb_pair _ _ t _ (List.length_replicate ..) : RB spTwicesI.dec (spTwicesI.enc t) _ _), rfl⟩
      | n + 19, h => exact absurd (show n + 19 < 0 + 19 from h) (by omega)) rfl
  subst e
  rw [← cat_eq] at h
  exact h
/-- A tenant that was written is read back. -/
theorem tdec_back (t : Ten) (hl : TLen t) (r : List Int) : tdec (tenc t ++ r) = some (tcut t, r) := (tenc_rb t hl).1 r
/-- No part of it is read. -/
theorem tdec_cut (t : Ten) (hl : TLen t) (l : List Int) (h : l <+: tenc t) (hs : l.length < (tenc t).length) : tdec l = none := (tenc_rb t hl).2 l h hs
end Go.Proofs.YtneciccdiledfaaGreatDoor

namespace Go.Proofs.YtneciccdiledfaaGreatDoor
open Go.RowKit
open Sm
open Cf
set_option linter.unusedVariables false
set_option maxRecDepth 20000
set_option linter.unusedSimpArgs false

theorem Ob.add {w W : World} {v : Value} {l : List Int} {L : List (Nat × Obj)} {n : Nat} {o : Obj} {g : Nat} (h : Ob w W v l L n) (hg : g = W.heap.size) : Ob w (W.alloc o) v l ((g, o) :: L) n := ⟨h.1.add hg, h.2⟩
theorem Ob.drop {w W : World} {v : Value} {l : List Int} {L : List (Nat × Obj)} {n : Nat} {p : Nat × Obj} (h : Ob w W v l (p :: L) n) : Ob w W v l L n := ⟨h.1.drop, h.2⟩
theorem row_box {w V : World} {L : List (Nat × Obj)} {g : Nat} {k : List Int} {t : TypeId} (hM : Mem w V ((g, .cells (k.map (Value.int .u8)).toArray t (0, 0)) :: L)) (hk : IsBytes k) (hl : k.length ≤ 140737488351232) : Row V (some ⟨g, 0, none⟩) k :=
  ⟨hk, hl, Or.inr ⟨g, 0, rfl, fun i hi => by rw [Nat.zero_add, hM.cell 0 rfl]; simp [hi]⟩⟩
/-- The bytes of a tenant up to its lists. -/
def thead (t : Ten) : List Int := cat (fun i => (tsp.getD i sp0).enc t) 13
theorem thead_eq (t : Ten) : thead t = (((((((((((([] ++ nm t.name) ++ be 4 t.vni) ++ t.key) ++ be 4 t.vtep) ++ t.vmac) ++ t.host) ++ be 2 t.lo) ++ be 2 t.hi) ++ be 1 t.filter) ++ be 2 t.sess) ++ be 2 t.queue) ++ be 4 t.rate) ++ be 4 t.burst := rfl
theorem tenc_eq (t : Ten) : tenc t = (((thead t ++ [((min t.pool.length 255 : Nat) : Int), ((min t.stat.length 255 : Nat) : Int), ((min t.twi.length 255 : Nat) : Int)]) ++ cat (fun i => be 4 (t.pool.getD i 0)) (min t.pool.length 255)) ++ cat (fun i => spP.enc (t.stat.getD i (0, 0))) (min t.stat.length 255)) ++ cat (fun i => spP.enc (t.twi.getD i (0, 0))) (min t.twi.length 255) := by
  have : thead t ++ [((min t.pool.length 255 : Nat) : Int), ((min t.stat.length 255 : Nat) : Int), ((min t.twi.length 255 : Nat) : Int)] = ((thead t ++ [((min t.pool.length 255 : Nat) : Int)]) ++ [((min t.stat.length 255 : Nat) : Int)]) ++ [((min t.twi.length 255 : Nat) : Int)] := by simp
  rw [this]
  rfl
end Go.Proofs.YtneciccdiledfaaGreatDoor

