/-
  Packets with other addresses as lists of numbers: flows, changed packets, changed inner ones, hops; what they answer, and what stays.
-/
import Derived.Test.YtjalpbkfpjfigaaGreatIpMath
import Derived.Test.YtjalpbkfpjfigaaGreatUdpMath
import Derived.Test.YtjalpbkfpjfigaaGreatTcpMath
import Derived.Test.YtjalpbkfpjfigaaGreatIcmpMath
namespace Go.Proofs.YtjalpbkfpjfigaaGreat
open Sm
namespace Sm
set_option linter.unusedVariables false

structure Pt where
  ip : Int
  port : Int
structure Pt.Ok (p : Pt) : Prop where
  ip : 0 ≤ p.ip ∧ p.ip ≤ 4294967295
  port : 0 ≤ p.port ∧ p.port ≤ 65535
structure Fl where
  proto : Int
  src : Pt
  dst : Pt
  flags : Int
  inner : List Pt
def Pt.zero : Pt := ⟨0, 0⟩
def Fl.zero : Fl := ⟨0, ⟨0, 0⟩, ⟨0, 0⟩, 0, []⟩

/-! ### The packet within an error. -/
/-- Its header, and eight bytes behind. -/
def inHead (l : List Int) : Bool := decide (20 ≤ l.length ∧ l.getD 0 0 / 16 = 4 ∧ 20 ≤ hdl l ∧ hdl l + 8 ≤ l.length)
def inKind (l : List Int) : Bool := decide (l.getD 9 0 = 17 ∨ l.getD 9 0 = 6) || (decide (l.getD 9 0 = 1) && decide ((l.getD (hdl l) 0 = 8 ∨ l.getD (hdl l) 0 = 0) ∧ l.getD (hdl l + 1) 0 = 0))
def inOk (l : List Int) : Bool := inHead l && inKind l
def inSrc (l : List Int) : Pt := ⟨w32 l 12, if l.getD 9 0 = 1 then w16 l (hdl l + 4) else w16 l (hdl l)⟩
def inDst (l : List Int) : Pt := ⟨w32 l 16, if l.getD 9 0 = 1 then w16 l (hdl l + 4) else w16 l (hdl l + 2)⟩
theorem inHead_facts {l : List Int} (h : inHead l = true) : 20 ≤ l.length ∧ l.getD 0 0 / 16 = 4 ∧ 20 ≤ hdl l ∧ hdl l + 8 ≤ l.length := by
  unfold inHead at h; simpa using h
theorem inOk_head {l : List Int} (h : inOk l = true) : inHead l = true := by unfold inOk at h; simp at h; exact h.1
theorem inOk_kind {l : List Int} (h : inOk l = true) : inKind l = true := by unfold inOk at h; simp at h; exact h.2
theorem inSrc_ok {l : List Int} (h : IsBytes l) : (inSrc l).Ok := ⟨w32_range h _, by unfold inSrc; simp only; split <;> exact w16_range h _⟩
theorem inDst_ok {l : List Int} (h : IsBytes l) : (inDst l).Ok := ⟨w32_range h _, by unfold inDst; simp only; split <;> exact w16_range h _⟩
theorem hdl_le {l : List Int} (h : IsBytes l) : hdl l ≤ 60 := by have := h 0; unfold hdl; omega

/-! ### What a packet carries. -/
def bdErr (p : Pk) : Int := if p.proto = 17 then udErr p.body else if p.proto = 6 then tcErr p.body else if p.proto = 1 then mgErr p.body else 21
def bdRight (p : Pk) : Bool := if p.proto = 17 then uright p.src p.dst (udRes p.body) else if p.proto = 6 then tright p.src p.dst (tcRes p.body) else mright (mgRes p.body)
def fl0 (p : Pk) : Fl := ⟨p.proto, ⟨p.src, 0⟩, ⟨p.dst, 0⟩, 0, []⟩
def mfErr (m : Mg) : Int := if mecho m = true then 0 else if merror m = true ∧ inOk m.body = true then 0 else 21
def mfFl (f : Fl) (m : Mg) : Fl :=
  if mecho m = true then ⟨f.proto, ⟨f.src.ip, m.rest / 65536⟩, ⟨f.dst.ip, m.rest / 65536⟩, f.flags, f.inner⟩
  else if merror m = true ∧ inOk m.body = true then ⟨f.proto, f.src, f.dst, f.flags, [inSrc m.body, inDst m.body]⟩ else Fl.zero
def flErr (p : Pk) : Int := if p.proto = 17 then 0 else if p.proto = 6 then 0 else mfErr (mgRes p.body)
def flFl (p : Pk) : Fl :=
  if p.proto = 17 then ⟨p.proto, ⟨p.src, (udRes p.body).src⟩, ⟨p.dst, (udRes p.body).dst⟩, 0, []⟩
  else if p.proto = 6 then ⟨p.proto, ⟨p.src, (tcRes p.body).src⟩, ⟨p.dst, (tcRes p.body).dst⟩, (tcRes p.body).flags, []⟩
  else mfFl (fl0 p) (mgRes p.body)
/-- What P8.1 answers. -/
def lkErr (l : List Int) : Int :=
  if ipErr l ≠ 0 then ipErr l else if bdErr (ipPk l) ≠ 0 then bdErr (ipPk l) else if bdRight (ipPk l) = false then 22 else flErr (ipPk l)
def lkPk (l : List Int) : Pk := if lkErr l = 0 then ipPk l else Pk.zero
def lkFl (l : List Int) : Fl := if lkErr l = 0 then flFl (ipPk l) else Fl.zero

theorem lk_parts {l : List Int} (h : lkErr l = 0) : ipErr l = 0 ∧ bdErr (ipPk l) = 0 ∧ bdRight (ipPk l) = true ∧ flErr (ipPk l) = 0 := by
  unfold lkErr at h
  split at h
  · omega
  · split at h
    · omega
    · split at h
      · omega
      · exact ⟨by omega, by omega, by simp_all, h⟩
theorem bd_kind {p : Pk} (h : bdErr p = 0) : p.proto = 17 ∧ udErr p.body = 0 ∨ p.proto = 6 ∧ tcErr p.body = 0 ∨ p.proto = 1 ∧ mgErr p.body = 0 := by
  unfold bdErr at h
  split at h
  · exact Or.inl ⟨by assumption, h⟩
  · split at h
    · exact Or.inr (Or.inl ⟨by assumption, h⟩)
    · split at h
      · exact Or.inr (Or.inr ⟨by assumption, h⟩)
      · omega

/-! ### A changed packet. -/
/-- Whether ports fit. -/
def pfit (f : Fl) (s d : Pt) : Bool := if 0 < f.inner.length then decide (s.port = 0 ∧ d.port = 0) else decide (f.proto ≠ 1 ∨ s.port = d.port)
def Dg.to (u : Dg) (s d : Pt) : Dg := ⟨s.port, d.port, u.sum, u.body⟩
def chDg (u : Dg) (s d : Pt) : Dg := if u.sum = 0 then u.to s d else (u.to s d).at (usum s.ip d.ip (u.to s d))
def Sg.to (q : Sg) (s d : Pt) : Sg := ⟨s.port, d.port, q.seq, q.ack, q.flags, q.win, q.sum, q.urg, q.opts, q.body⟩
def chSg (q : Sg) (s d : Pt) : Sg := (q.to s d).at (tsum s.ip d.ip (q.to s d))
def Mg.id (m : Mg) (x : Int) : Mg := ⟨m.typ, m.code, m.sum, x * 65536 + m.rest % 65536, m.body⟩
def chMg (f : Fl) (m : Mg) (s : Pt) : Mg := if 0 < f.inner.length then m else m.id s.port
def msl (m : Mg) : Mg := m.at (msum m)
def chBody (p : Pk) (f : Fl) (s d : Pt) : List Int :=
  if p.proto = 17 then udOut (chDg (udRes p.body) s d) else if p.proto = 6 then tcOut (chSg (tcRes p.body) s d) else if p.proto = 1 then mgOut (msl (chMg f (mgRes p.body) s)) else []
def Pk.to (p : Pk) (s d : Int) (b : List Int) : Pk := ⟨p.tos, p.ttl, p.proto, p.id, p.flags, p.off, s, d, p.opts, b⟩
def chPk (p : Pk) (f : Fl) (s d : Pt) : Pk := p.to s.ip d.ip (chBody p f s d)
/-- What P8.2 answers. -/
def chErr (l : List Int) (s d : Pt) : Int := if lkErr l ≠ 0 then lkErr l else if pfit (flFl (ipPk l)) s d = false then 21 else ipbErr (chPk (ipPk l) (flFl (ipPk l)) s d)
def chOut (l : List Int) (s d : Pt) : List Int := if lkErr l ≠ 0 then [] else if pfit (flFl (ipPk l)) s d = false then [] else ipOut (chPk (ipPk l) (flFl (ipPk l)) s d)

/-! ### A hop. -/
def Pk.hop (p : Pk) : Pk := ⟨p.tos, p.ttl - 1, p.proto, p.id, p.flags, p.off, p.src, p.dst, p.opts, p.body⟩
def hopErr (l : List Int) : Int := if ipErr l ≠ 0 then ipErr l else if (ipPk l).ttl = 0 then 21 else ipbErr (ipPk l).hop
def hopOut (l : List Int) : List Int := if ipErr l ≠ 0 then [] else if (ipPk l).ttl = 0 then [] else ipOut (ipPk l).hop

/-! ### The inner packet changed. -/
/-- A word put in. -/
def putw (l : List Int) (i : Nat) (x : Int) : List Int := (l.set i (x / 256)).set (i + 1) (x % 256)
def inSum (l : List Int) (s d : Int) : Int := updv (updv (updv (updv (w16 l 10) (w16 l 12) (s / 65536)) (w16 l 14) (s % 65536)) (w16 l 16) (d / 65536)) (w16 l 18) (d % 65536)
def putA (l : List Int) (s d : Int) : List Int := putw (putw (putw (putw (putw l 12 (s / 65536)) 14 (s % 65536)) 16 (d / 65536)) 18 (d % 65536)) 10 (inSum l s d)
def putP (l : List Int) (s d : Int) : List Int := if l.getD 9 0 = 1 then putw l (hdl l + 4) s else putw (putw l (hdl l) s) (hdl l + 2) d
def inPut (l : List Int) (s d : Pt) : List Int := putP (putA l s.ip d.ip) s.port d.port
def Mg.bod (m : Mg) (b : List Int) : Mg := ⟨m.typ, m.code, m.sum, m.rest, b⟩
def inMg (m : Mg) (s d : Pt) : Mg := msl (m.bod (inPut m.body s d))
def Pk.bod (p : Pk) (b : List Int) : Pk := ⟨p.tos, p.ttl, p.proto, p.id, p.flags, p.off, p.src, p.dst, p.opts, b⟩
def inPk (p : Pk) (s d : Pt) : Pk := p.bod (mgOut (inMg (mgRes p.body) s d))
/-- Whether the inner one is an echo whose ports are not alike. -/
def inBad (p : Pk) (s d : Pt) : Bool := decide ((mgRes p.body).body.getD 9 0 = 1 ∧ s.port ≠ d.port)
/-- What P8.3 answers. -/
def inErr (l : List Int) (s d : Pt) : Int :=
  if lkErr l ≠ 0 then lkErr l else if (flFl (ipPk l)).inner.length = 0 then 21 else if inBad (ipPk l) s d = true then 21 else ipbErr (inPk (ipPk l) s d)
def inOut (l : List Int) (s d : Pt) : List Int :=
  if lkErr l ≠ 0 then [] else if (flFl (ipPk l)).inner.length = 0 then [] else if inBad (ipPk l) s d = true then [] else ipOut (inPk (ipPk l) s d)
theorem putw_len (l : List Int) (i : Nat) (x : Int) : (putw l i x).length = l.length := by simp [putw]
theorem putw_getD (l : List Int) (i j : Nat) (x : Int) (hi : i + 1 < l.length) : (putw l i x).getD j 0 = if j = i + 1 then x % 256 else if j = i then x / 256 else l.getD j 0 := by
  unfold putw
  rw [getD_set _ _ _ _ (by simpa using hi), getD_set _ _ _ _ (by omega)]
theorem putw_bytes {l : List Int} (h : IsBytes l) (i : Nat) (x : Int) (hi : i + 1 < l.length) (h0 : 0 ≤ x) (h1 : x ≤ 65535) : IsBytes (putw l i x) := by
  intro j
  rw [putw_getD _ _ _ _ hi]
  split
  · omega
  · split
    · omega
    · exact h j
theorem putA_len (l : List Int) (s d : Int) : (putA l s d).length = l.length := by simp [putA, putw_len]
theorem putP_len (l : List Int) (s d : Int) : (putP l s d).length = l.length := by unfold putP; split <;> simp [putw_len]
theorem inPut_len (l : List Int) (s d : Pt) : (inPut l s d).length = l.length := by simp [inPut, putP_len, putA_len]
end Sm
end Go.Proofs.YtjalpbkfpjfigaaGreat
