/-
  Settings as text: the text of settings, and that it is read back.
  Settings as bytes: what the document's reader reads is what the program's fields read, number by number.
  Settings as bytes: the chapter's example, as the statements ask it.
  Settings as bytes: the document's own reader: tenant, its walk.
  Settings as bytes: the program's config(): all fields of settings, in their order.
-/
import Derived.Test.YtneciccdiledfaaGreatDoorMo26
import Derived.Test.YtneciccdiledfaaGreatDoorMo21
namespace Go.Proofs.YtneciccdiledfaaGreatDoor
open Go.RowKit
open Ad
set_option linter.unusedVariables false
set_option linter.unusedSimpArgs false
set_option maxRecDepth 20000
namespace La
theorem rdn_none (σ : Sg) : rdn none σ = (gwC σ, g8 σ) := rfl
theorem rdn_some (c : Cgf) (σ : Sg) : rdn (some c) σ = ln c σ := rfl
/-- A line of these words is read as c, with one word more it isn't. -/
def Takes (o : Option Cgf) (xs : List (List UInt8)) (c : Cgf) : Prop := ∀ (ws : List Wd) (fin : Nat), wtx ws = xs → rdn o ⟨ws, fin, none⟩ = (c, ⟨[], fin, none⟩) ∧ ∀ z : Wd, ip z.1.data.toList = none → (done (rdn o ⟨ws ++ [z], fin, none⟩).2).bad = some z.2
inductive Reads : Option Cgf → List (List (List UInt8)) → Option Cgf → Prop
  | nil (o : Option Cgf) : Reads o [] o
  | cons {o o' : Option Cgf} {c : Cgf} {l : List (List UInt8)} {ls : List (List (List UInt8))} : Takes o l c → Reads (some c) ls o' → Reads o (l :: ls) o'
theorem Reads.app {o p q : Option Cgf} {a b : List (List (List UInt8))} (h : Reads o a p) (k : Reads p b q) : Reads o (a ++ b) q := by
  induction h with
  | nil o => exact k
  | cons h1 _ ih => exact .cons h1 (ih k)
theorem rdl_reads {o o' : Option Cgf} {ts : List (List (List UInt8))} (h : Reads o ts o') : ∀ (n : Nat) (ls r : List (List Wd × Nat)), ltx ls = ts → rdl n o (ls ++ r) = rdl n o' r := by
  induction h with
  | nil o =>
    intro n ls r e
    have : ls = [] := by simpa [ltx] using e
    subst this; rfl
  | @cons o o' c l ts h1 _ ih =>
    intro n ls r e
    cases ls with
    | nil => simp [ltx] at e
    | cons a ls =>
      simp only [ltx, List.map_cons, List.cons.injEq] at e
      have := (h1 a.1 a.2 e.1).1
      have hb : (done (rdn o ⟨a.1, a.2, none⟩).2).bad = none := by rw [this]; rfl
      rw [List.cons_append, rdl_good hb, this]
      exact ih n ls r e.2
theorem parse_of {s : ByteArray} {ts : List (List (List UInt8))} {c : Cgf} (hs : s.size ≤ 32768) (h : tk s.data.toList [] [] false = ts) (hc : Reads none ts (some c)) : parse s = .ok c := by
  unfold parse
  rw [if_neg (by omega)]
  have := rdl_reads hc s.size (lns s) [] ((ltx_lns s).trans h)
  rw [List.append_nil] at this
  rw [this, rdl_nil, nd]
theorem must_c {s : List UInt8} {w : Wd} {r : List Wd} {f : Nat} {b : Option Nat} (h : w.1.data.toList = s) : must s ⟨w :: r, f, b⟩ = ⟨r, f, b⟩ := by
  unfold must wt wd; rw [if_pos h]; rfl
theorem vnx_c {α : Type} {f : List UInt8 → Option α} {w : Wd} {r : List Wd} {n : Nat} {b : Option Nat} {v : α} (h : f w.1.data.toList = some v) : vnx f ⟨w :: r, n, b⟩ = ⟨r, n, b⟩ := by
  unfold vnx wt wd; rw [if_pos (by simp [h])]; rfl
theorem val_c {α : Type} {f : List UInt8 → Option α} {w : Wd} {r : List Wd} {n : Nat} {b : Option Nat} {v : α} (h : f w.1.data.toList = some v) : val f ⟨w :: r, n, b⟩ = some v := h
theorem nxt_c {w : Wd} {r : List Wd} {f : Nat} {b : Option Nat} : nxt ⟨w :: r, f, b⟩ = ⟨r, f, b⟩ := rfl
theorem wtx_cons {ws : List Wd} {x : List UInt8} {xs : List (List UInt8)} (h : wtx ws = x :: xs) : ∃ w r, ws = w :: r ∧ w.1.data.toList = x ∧ wtx r = xs := by
  cases ws with
  | nil => simp [wtx] at h
  | cons w r =>
    simp only [wtx, List.map_cons, List.cons.injEq] at h
    exact ⟨w, r, rfl, h.1, h.2⟩
theorem wtx_nil {ws : List Wd} (h : wtx ws = []) : ws = [] := by simpa [wtx] using h
theorem gw_of {a b c d e f g h : Wd} {r : List Wd} {fin i k : Nat} {m1 m2 m3 kk : List Int} (h0 : a.1.data.toList = wGateway) (h1 : ip b.1.data.toList = some i) (h2 : mac c.1.data.toList = some m1) (h3 : mac d.1.data.toList = some m2) (h4 : mac e.1.data.toList = some m3) (h5 : key f.1.data.toList = some kk) (h6 : g.1.data.toList = wDrain) (h7 : n32 h.1.data.toList = some k) :
    gwC ⟨a :: b :: c :: d :: e :: f :: g :: h :: r, fin, none⟩ = ⟨i, m1, m2, m3, kk, k, []⟩ ∧ g8 ⟨a :: b :: c :: d :: e :: f :: g :: h :: r, fin, none⟩ = ⟨r, fin, none⟩ := by
  have e1 : g1 ⟨a :: b :: c :: d :: e :: f :: g :: h :: r, fin, none⟩ = ⟨b :: c :: d :: e :: f :: g :: h :: r, fin, none⟩ := must_c h0
  have e2 : g2 ⟨a :: b :: c :: d :: e :: f :: g :: h :: r, fin, none⟩ = ⟨c :: d :: e :: f :: g :: h :: r, fin, none⟩ := by unfold g2; rw [e1]; exact vnx_c h1
  have e3 : g3 ⟨a :: b :: c :: d :: e :: f :: g :: h :: r, fin, none⟩ = ⟨d :: e :: f :: g :: h :: r, fin, none⟩ := by unfold g3; rw [e2]; exact vnx_c h2
  have e4 : g4 ⟨a :: b :: c :: d :: e :: f :: g :: h :: r, fin, none⟩ = ⟨e :: f :: g :: h :: r, fin, none⟩ := by unfold g4; rw [e3]; exact vnx_c h3
  have e5 : g5 ⟨a :: b :: c :: d :: e :: f :: g :: h :: r, fin, none⟩ = ⟨f :: g :: h :: r, fin, none⟩ := by unfold g5; rw [e4]; exact vnx_c h4
  have e6 : g6 ⟨a :: b :: c :: d :: e :: f :: g :: h :: r, fin, none⟩ = ⟨g :: h :: r, fin, none⟩ := by unfold g6; rw [e5]; exact vnx_c h5
  have e7 : g7 ⟨a :: b :: c :: d :: e :: f :: g :: h :: r, fin, none⟩ = ⟨h :: r, fin, none⟩ := by unfold g7; rw [e6]; exact must_c h6
  refine ⟨?_, by unfold g8; rw [e7]; exact vnx_c h7⟩
  unfold gwC
  rw [e1, e2, e3, e4, e5, e7, val_c h1, val_c h2, val_c h3, val_c h4, val_c h5, val_c h7]
  rfl
theorem tn_of {a b c d e f g h i j : Wd} {r : List Wd} {fin v p : Nat} {kk m1 m2 : List Int} (h0 : nam a.1.data.toList = true) (h1 : b.1.data.toList = wVni) (h2 : n24 c.1.data.toList = some v) (h3 : d.1.data.toList = wKey) (h4 : key e.1.data.toList = some kk) (h5 : f.1.data.toList = wVtep) (h6 : ip g.1.data.toList = some p) (h7 : mac h.1.data.toList = some m1) (h8 : i.1.data.toList = wHost) (h9 : mac j.1.data.toList = some m2) :
    tnT ⟨a :: b :: c :: d :: e :: f :: g :: h :: i :: j :: r, fin, none⟩ = { ten0 with name := a.1, vni := (v : Int), key := kk, vtep := (p : Int), vmac := m1, host := m2 } ∧ tnS ⟨a :: b :: c :: d :: e :: f :: g :: h :: i :: j :: r, fin, none⟩ = ⟨r, fin, none⟩ := by
  have e1 : t1 ⟨a :: b :: c :: d :: e :: f :: g :: h :: i :: j :: r, fin, none⟩ = ⟨b :: c :: d :: e :: f :: g :: h :: i :: j :: r, fin, none⟩ := vnx_c (f := nm) (v := ()) (by unfold nm; rw [if_pos h0])
  have e2 : t2 ⟨a :: b :: c :: d :: e :: f :: g :: h :: i :: j :: r, fin, none⟩ = ⟨c :: d :: e :: f :: g :: h :: i :: j :: r, fin, none⟩ := by unfold t2; rw [e1]; exact must_c h1
  have e3 : t3 ⟨a :: b :: c :: d :: e :: f :: g :: h :: i :: j :: r, fin, none⟩ = ⟨d :: e :: f :: g :: h :: i :: j :: r, fin, none⟩ := by unfold t3; rw [e2]; exact vnx_c h2
  have e4 : t4 ⟨a :: b :: c :: d :: e :: f :: g :: h :: i :: j :: r, fin, none⟩ = ⟨e :: f :: g :: h :: i :: j :: r, fin, none⟩ := by unfold t4; rw [e3]; exact must_c h3
  have e5 : t5 ⟨a :: b :: c :: d :: e :: f :: g :: h :: i :: j :: r, fin, none⟩ = ⟨f :: g :: h :: i :: j :: r, fin, none⟩ := by unfold t5; rw [e4]; exact vnx_c h4
  have e6 : t6 ⟨a :: b :: c :: d :: e :: f :: g :: h :: i :: j :: r, fin, none⟩ = ⟨g :: h :: i :: j :: r, fin, none⟩ := by unfold t6; rw [e5]; exact must_c h5
  have e7 : t7 ⟨a :: b :: c :: d :: e :: f :: g :: h :: i :: j :: r, fin, none⟩ = ⟨h :: i :: j :: r, fin, none⟩ := by unfold t7; rw [e6]; exact vnx_c h6
  have e8 : t8 ⟨a :: b :: c :: d :: e :: f :: g :: h :: i :: j :: r, fin, none⟩ = ⟨i :: j :: r, fin, none⟩ := by unfold t8; rw [e7]; exact vnx_c h7
  have e9 : t9 ⟨a :: b :: c :: d :: e :: f :: g :: h :: i :: j :: r, fin, none⟩ = ⟨j :: r, fin, none⟩ := by unfold t9; rw [e8]; exact must_c h8
  refine ⟨?_, by unfold tnS; rw [e9]; exact vnx_c h9⟩
  unfold tnT
  rw [e2, e4, e6, e7, e9, val_c h2, val_c h4, val_c h6, val_c h7, val_c h9]
  rfl
theorem takes_gw {xs : List (List UInt8)} {b c d e f h : List UInt8} {i k : Nat} {m1 m2 m3 kk : List Int} (hx : xs = [wGateway, b, c, d, e, f, wDrain, h]) (h1 : ip b = some i) (h2 : mac c = some m1) (h3 : mac d = some m2) (h4 : mac e = some m3) (h5 : key f = some kk) (h7 : n32 h = some k) :
    Takes none xs ⟨i, m1, m2, m3, kk, k, []⟩ := by
  subst hx
  intro ws fin hw
  obtain ⟨a', ws, rfl, q0, hw⟩ := wtx_cons hw
  obtain ⟨b', ws, rfl, q1, hw⟩ := wtx_cons hw
  obtain ⟨c', ws, rfl, q2, hw⟩ := wtx_cons hw
  obtain ⟨d', ws, rfl, q3, hw⟩ := wtx_cons hw
  obtain ⟨e', ws, rfl, q4, hw⟩ := wtx_cons hw
  obtain ⟨f', ws, rfl, q5, hw⟩ := wtx_cons hw
  obtain ⟨g', ws, rfl, q6, hw⟩ := wtx_cons hw
  obtain ⟨h', ws, rfl, q7, hw⟩ := wtx_cons hw
  obtain rfl := wtx_nil hw
  have G := fun r => gw_of (r := r) (fin := fin) q0 (by rw [q1]; exact h1) (by rw [q2]; exact h2) (by rw [q3]; exact h3) (by rw [q4]; exact h4) (by rw [q5]; exact h5) q6 (by rw [q7]; exact h7)
  refine ⟨by rw [rdn_none, (G []).1, (G []).2], fun z hz => ?_⟩
  have := G [z]
  rw [rdn_none]
  simp only [List.cons_append, List.nil_append]
  rw [this.2]
  rfl
theorem takes_tn {c : Cgf} {xs : List (List UInt8)} {a v k g h j : List UInt8} {n p : Nat} {kk m1 m2 : List Int} (hx : xs = [wTenant, a, wVni, v, wKey, k, wVtep, g, h, wHost, j]) (h0 : nam a = true) (h2 : n24 v = some n) (h4 : key k = some kk) (h6 : ip g = some p) (h7 : mac h = some m1) (h9 : mac j = some m2) :
    Takes (some c) xs { c with ten := c.ten ++ [{ ten0 with name := ⟨a.toArray⟩, vni := (n : Int), key := kk, vtep := (p : Int), vmac := m1, host := m2 }] } := by
  subst hx
  intro ws fin hw
  obtain ⟨w', ws, rfl, q, hw⟩ := wtx_cons hw
  obtain ⟨a', ws, rfl, q0, hw⟩ := wtx_cons hw
  obtain ⟨b', ws, rfl, q1, hw⟩ := wtx_cons hw
  obtain ⟨c', ws, rfl, q2, hw⟩ := wtx_cons hw
  obtain ⟨d', ws, rfl, q3, hw⟩ := wtx_cons hw
  obtain ⟨e', ws, rfl, q4, hw⟩ := wtx_cons hw
  obtain ⟨f', ws, rfl, q5, hw⟩ := wtx_cons hw
  obtain ⟨g', ws, rfl, q6, hw⟩ := wtx_cons hw
  obtain ⟨h', ws, rfl, q7, hw⟩ := wtx_cons hw
  obtain ⟨i', ws, rfl, q8, hw⟩ := wtx_cons hw
  obtain ⟨j', ws, rfl, q9, hw⟩ := wtx_cons hw
  obtain rfl := wtx_nil hw
  have G := fun r => tn_of (r := r) (fin := fin) (by rw [q0]; exact h0) q1 (by rw [q2]; exact h2) q3 (by rw [q4]; exact h4) q5 (by rw [q6]; exact h6) (by rw [q7]; exact h7) q8 (by rw [q9]; exact h9)
  have ea : a'.1 = ⟨a.toArray⟩ := by rw [← q0]
  have L : ∀ r, rdn (some c) ⟨w' :: a' :: b' :: c' :: d' :: e' :: f' :: g' :: h' :: i' :: j' :: r, fin, none⟩ = ({ c with ten := c.ten ++ [{ ten0 with name := a'.1, vni := (n : Int), key := kk, vtep := (p : Int), vmac := m1, host := m2 }] }, ⟨r, fin, none⟩) := by
    intro r
    rw [rdn_some]
    have hq : wt ⟨w' :: a' :: b' :: c' :: d' :: e' :: f' :: g' :: h' :: i' :: j' :: r, fin, none⟩ = wTenant := q
    rw [ln_tenant hq, nxt_c, (G r).1, (G r).2]
  refine ⟨by rw [L [], ea], fun z hz => ?_⟩
  simp only [List.cons_append, List.nil_append]
  rw [L [z]]
  rfl
theorem takes_part {c : Cgf} {t t' : Ten} {b : List UInt8} {xs : List (List UInt8)} (hl : c.ten.getLast? = some t) (hb : b ≠ wTenant)
    (h : ∀ (w : Wd) (ws : List Wd) (fin : Nat), w.1.data.toList = b → wtx ws = xs → part w t ⟨ws, fin, none⟩ = (t', ⟨[], fin, none⟩) ∧ ∀ z : Wd, ip z.1.data.toList = none → (done (part w t ⟨ws ++ [z], fin, none⟩).2).bad = some z.2) :
    Takes (some c) (b :: xs) { c with ten := c.ten.dropLast ++ [t'] } := by
  intro ws fin hw
  obtain ⟨w', ws, rfl, q, hw⟩ := wtx_cons hw
  obtain ⟨k1, k2⟩ := h w' ws fin q hw
  have L : ∀ r, rdn (some c) ⟨w' :: r, fin, none⟩ = ({ c with ten := c.ten.dropLast ++ [(part w' t ⟨r, fin, none⟩).1] }, (part w' t ⟨r, fin, none⟩).2) := by
    intro r
    have hq : wt ⟨w' :: r, fin, none⟩ ≠ wTenant := by rw [show wt ⟨w' :: r, fin, none⟩ = b from q]; exact hb
    rw [rdn_some]
    rw [ln, if_neg hq, hl, nxt_c]
    rfl
  refine ⟨by rw [L, k1], fun z hz => ?_⟩
  rw [List.cons_append, L]
  exact k2 z hz
theorem two_of {α : Type} {f : List UInt8 → Option α} {a b : Wd} {r : List Wd} {fin : Nat} {x y : α} (h1 : f a.1.data.toList = some x) (h2 : f b.1.data.toList = some y) :
    val f ⟨a :: b :: r, fin, none⟩ = some x ∧ val f (vnx f ⟨a :: b :: r, fin, none⟩) = some y ∧ two2 f ⟨a :: b :: r, fin, none⟩ = ⟨r, fin, none⟩ := by
  have e : vnx f ⟨a :: b :: r, fin, none⟩ = ⟨b :: r, fin, none⟩ := vnx_c h1
  refine ⟨val_c h1, ?_, ?_⟩
  · rw [e]; exact val_c h2
  · unfold two2; rw [e]; exact vnx_c h2
theorem pl_of {f : Nat} {T : Wd → Prop} : ∀ (ws : List Wd) (l : List Nat), ws.map (fun w => ip w.1.data.toList) = l.map some → pl ws f none = (l.map fun (n : Nat) => (n : Int), ⟨[], f, none⟩) ∧ ∀ z : Wd, ip z.1.data.toList = none → (pl (ws ++ [z]) f none).2.bad = some z.2 ∧ (pl (ws ++ [z]) f none).2.ws = []
  | [], [], _ => ⟨rfl, fun z hz => by simp [pl, hz]⟩
  | [], _ :: _, h => by simp at h
  | _ :: _, [], h => by simp at h
  | w :: ws, n :: l, h => by
    simp only [List.map_cons, List.cons.injEq] at h
    have ih := pl_of (f := f) (T := T) ws l h.2
    refine ⟨?_, fun z hz => ?_⟩
    · rw [pl, h.1, ih.1]; rfl
    · rw [List.cons_append, pl, h.1]
      exact ih.2 z hz
theorem takes_pool {c : Cgf} {t : Ten} {xs : List (List UInt8)} {l : List Nat} (hl : c.ten.getLast? = some t) (h : xs.map ip = l.map some) : Takes (some c) (wPool :: xs) { c with ten := c.ten.dropLast ++ [{ t with pool := t.pool ++ l.map fun (n : Nat) => (n : Int) }] } := by
  refine takes_part hl (by decide) fun w ws fin hw hx => ?_
  have hm : ws.map (fun w => ip w.1.data.toList) = l.map some := by
    rw [← h, ← hx]; simp [wtx]
  obtain ⟨k1, k2⟩ := pl_of (f := fin) (T := fun _ => True) ws l hm
  refine ⟨?_, fun z hz => ?_⟩
  · unfold part; rw [if_pos hw]; simp only [k1]
  · unfold part; rw [if_pos hw]
    exact done_bad (k2 z hz).1
theorem takes_ports {c : Cgf} {t : Ten} {x y : List UInt8} {a b : Nat} (hl : c.ten.getLast? = some t) (h1 : n16 x = some a) (h2 : n16 y = some b) : Takes (some c) [wPorts, x, y] { c with ten := c.ten.dropLast ++ [{ t with lo := (a : Int), hi := (b : Int) }] } := by
  refine takes_part hl (by decide) fun w ws fin hw hx => ?_
  obtain ⟨p, ws, rfl, q1, hx⟩ := wtx_cons hx
  obtain ⟨q, ws, rfl, q2, hx⟩ := wtx_cons hx
  obtain rfl := wtx_nil hx
  have K := fun r => two_of (f := n16) (r := r) (fin := fin) (a := p) (b := q) (by rw [q1]; exact h1) (by rw [q2]; exact h2)
  refine ⟨?_, fun z hz => ?_⟩
  · unfold part; rw [if_neg (by rw [hw]; decide), if_pos hw, (K []).1, (K []).2.1, (K []).2.2]; rfl
  · unfold part; rw [if_neg (by rw [hw]; decide), if_pos hw]
    simp only [List.cons_append, List.nil_append]
    rw [(K [z]).2.2]; rfl
theorem takes_filter {c : Cgf} {t : Ten} {x : List UInt8} {a : Nat} (hl : c.ten.getLast? = some t) (h1 : flt x = some a) : Takes (some c) [wFilter, x] { c with ten := c.ten.dropLast ++ [{ t with filter := (a : Int) }] } := by
  refine takes_part hl (by decide) fun w ws fin hw hx => ?_
  obtain ⟨p, ws, rfl, q1, hx⟩ := wtx_cons hx
  obtain rfl := wtx_nil hx
  have hf : flt p.1.data.toList = some a := by rw [q1]; exact h1
  refine ⟨?_, fun z hz => ?_⟩
  · unfold part; rw [if_neg (by rw [hw]; decide), if_neg (by rw [hw]; decide), if_pos hw, val_c hf, vnx_c hf]; rfl
  · unfold part; rw [if_neg (by rw [hw]; decide), if_neg (by rw [hw]; decide), if_pos hw]
    simp only [List.cons_append, List.nil_append]
    rw [vnx_c hf]; rfl
theorem takes_static {c : Cgf} {t : Ten} {x y : List UInt8} {a b : Nat} (hl : c.ten.getLast? = some t) (h1 : ip x = some a) (h2 : ip y = some b) : Takes (some c) [wStatic, x, y] { c with ten := c.ten.dropLast ++ [{ t with stat := t.stat ++ [((a : Int), (b : Int))] }] } := by
  refine takes_part hl (by decide) fun w ws fin hw hx => ?_
  obtain ⟨p, ws, rfl, q1, hx⟩ := wtx_cons hx
  obtain ⟨q, ws, rfl, q2, hx⟩ := wtx_cons hx
  obtain rfl := wtx_nil hx
  have K := fun r => two_of (f := ip) (r := r) (fin := fin) (a := p) (b := q) (by rw [q1]; exact h1) (by rw [q2]; exact h2)
  refine ⟨?_, fun z hz => ?_⟩
  · unfold part; rw [if_neg (by rw [hw]; decide), if_neg (by rw [hw]; decide), if_neg (by rw [hw]; decide), if_pos hw, (K []).1, (K []).2.1, (K []).2.2]; rfl
  · unfold part; rw [if_neg (by rw [hw]; decide), if_neg (by rw [hw]; decide), if_neg (by rw [hw]; decide), if_pos hw]
    simp only [List.cons_append, List.nil_append]
    rw [(K [z]).2.2]; rfl
theorem takes_twice {c : Cgf} {t : Ten} {x y : List UInt8} {a b : Nat} (hl : c.ten.getLast? = some t) (h1 : ip x = some a) (h2 : ip y = some b) : Takes (some c) [wTwice, x, y] { c with ten := c.ten.dropLast ++ [{ t with twi := t.twi ++ [((a : Int), (b : Int))] }] } := by
  refine takes_part hl (by decide) fun w ws fin hw hx => ?_
  obtain ⟨p, ws, rfl, q1, hx⟩ := wtx_cons hx
  obtain ⟨q, ws, rfl, q2, hx⟩ := wtx_cons hx
  obtain rfl := wtx_nil hx
  have K := fun r => two_of (f := ip) (r := r) (fin := fin) (a := p) (b := q) (by rw [q1]; exact h1) (by rw [q2]; exact h2)
  refine ⟨?_, fun z hz => ?_⟩
  · unfold part; rw [if_neg (by rw [hw]; decide), if_neg (by rw [hw]; decide), if_neg (by rw [hw]; decide), if_neg (by rw [hw]; decide), if_pos hw, (K []).1, (K []).2.1, (K []).2.2]; rfl
  · unfold part; rw [if_neg (by rw [hw]; decide), if_neg (by rw [hw]; decide), if_neg (by rw [hw]; decide), if_neg (by rw [hw]; decide), if_pos hw]
    simp only [List.cons_append, List.nil_append]
    rw [(K [z]).2.2]; rfl
theorem takes_quota {c : Cgf} {t : Ten} {x y : List UInt8} {a b : Nat} (hl : c.ten.getLast? = some t) (h1 : n16 x = some a) (h2 : n16 y = some b) : Takes (some c) [wQuota, x, y] { c with ten := c.ten.dropLast ++ [{ t with sess := (a : Int), queue := (b : Int) }] } := by
  refine takes_part hl (by decide) fun w ws fin hw hx => ?_
  obtain ⟨p, ws, rfl, q1, hx⟩ := wtx_cons hx
  obtain ⟨q, ws, rfl, q2, hx⟩ := wtx_cons hx
  obtain rfl := wtx_nil hx
  have K := fun r => two_of (f := n16) (r := r) (fin := fin) (a := p) (b := q) (by rw [q1]; exact h1) (by rw [q2]; exact h2)
  refine ⟨?_, fun z hz => ?_⟩
  · unfold part; rw [if_neg (by rw [hw]; decide), if_neg (by rw [hw]; decide), if_neg (by rw [hw]; decide), if_neg (by rw [hw]; decide), if_neg (by rw [hw]; decide), if_pos hw, (K []).1, (K []).2.1, (K []).2.2]; rfl
  · unfold part; rw [if_neg (by rw [hw]; decide), if_neg (by rw [hw]; decide), if_neg (by rw [hw]; decide), if_neg (by rw [hw]; decide), if_neg (by rw [hw]; decide), if_pos hw]
    simp only [List.cons_append, List.nil_append]
    rw [(K [z]).2.2]; rfl
theorem takes_rate {c : Cgf} {t : Ten} {x y : List UInt8} {a b : Nat} (hl : c.ten.getLast? = some t) (h1 : n32 x = some a) (h2 : n32 y = some b) : Takes (some c) [wRate, x, y] { c with ten := c.ten.dropLast ++ [{ t with rate := (a : Int), burst := (b : Int) }] } := by
  refine takes_part hl (by decide) fun w ws fin hw hx => ?_
  obtain ⟨p, ws, rfl, q1, hx⟩ := wtx_cons hx
  obtain ⟨q, ws, rfl, q2, hx⟩ := wtx_cons hx
  obtain rfl := wtx_nil hx
  have K := fun r => two_of (f := n32) (r := r) (fin := fin) (a := p) (b := q) (by rw [q1]; exact h1) (by rw [q2]; exact h2)
  refine ⟨?_, fun z hz => ?_⟩
  · unfold part; rw [if_neg (by rw [hw]; decide), if_neg (by rw [hw]; decide), if_neg (by rw [hw]; decide), if_neg (by rw [hw]; decide), if_neg (by rw [hw]; decide), if_neg (by rw [hw]; decide), if_pos hw, (K []).1, (K []).2.1, (K []).2.2]; rfl
  · unfold part; rw [if_neg (by rw [hw]; decide), if_neg (by rw [hw]; decide), if_neg (by rw [hw]; decide), if_neg (by rw [hw]; decide), if_neg (by rw [hw]; decide), if_neg (by rw [hw]; decide), if_pos hw]
    simp only [List.cons_append, List.nil_append]
    rw [(K [z]).2.2]; rfl
end La
end Go.Proofs.YtneciccdiledfaaGreatDoor

namespace Go.Proofs.YtneciccdiledfaaGreatDoor
open Go.RowKit
open Sm
open Cf
set_option linter.unusedVariables false
set_option linter.unusedSimpArgs false
set_option maxRecDepth 20000

end Go.Proofs.YtneciccdiledfaaGreatDoor

namespace Go.Proofs.YtneciccdiledfaaGreatDoor
open Go.RowKit
open Sm
open Cf
set_option linter.unusedVariables false
set_option maxRecDepth 20000

theorem Out.sl {w W : World} {u : Value} {l : List Int} {K : List (Nat × Obj)} (h : Out w W u l K) (hl : l.length ≤ 1000000000) : ∃ a c, u = .slice a l.length c ∧ Sl W a l c := by
  obtain ⟨hb, h1, h2⟩ := h
  rcases h2 with ⟨rfl, e, hm⟩ | ⟨g, cap, cur, rfl, hm, hnc, hcm, hcs, htake⟩
  · have : l = [] := List.length_eq_zero_iff.mp e
    subst this
    exact ⟨Option.none, 0, rfl, ⟨row_empty W Option.none, Nat.le_refl _, by omega, fun _ => rfl⟩⟩
  · refine ⟨_, cap, rfl, ⟨⟨hb, by omega, Or.inr ⟨g, 0, rfl, fun i hi => ?_⟩⟩, hnc, by simpa [maxLen] using hcm, fun e => by cases e⟩⟩
    rw [Nat.zero_add, hm.cell 0 rfl]
    have := congrArg (fun x => x[i]?) htake
    simp only [List.getElem?_take, Nat.mul_one, if_pos hi, List.getElem?_map, List.getElem?_eq_getElem hi, Option.map_some, Array.getElem?_toList] at this
    rw [this, getD_eq hi]
end Go.Proofs.YtneciccdiledfaaGreatDoor

namespace Go.Proofs.YtneciccdiledfaaGreatDoor
open Go.RowKit
open Sm
open Cf
set_option linter.unusedVariables false
set_option linter.unusedSimpArgs false
set_option maxRecDepth 20000

end Go.Proofs.YtneciccdiledfaaGreatDoor

namespace Go.Proofs.YtneciccdiledfaaGreatDoor
open Go.RowKit
open Sm
open Cf
set_option linter.unusedVariables false
set_option maxRecDepth 20000

end Go.Proofs.YtneciccdiledfaaGreatDoor

