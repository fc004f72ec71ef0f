/-
  The packet within an error, changed: what is read of it, as numbers.
  The walk of lychlaw8.RewriteBack: it answers true.
-/
import Derived.Test.YtjalpbkfpjfigabM37
import Derived.Test.YtjalpbkfpjfigabM36
import Derived.Test.YtjalpbkfpjfigabM35
import Derived.Test.YtjalpbkfpjfigabM23
import Derived.Test.YtjalpbkfpjfigabM33
import Derived.Deep.CutBlock
namespace Go.Proofs.Ytjalpbkfpjfigab
open Go.RowKit
open Sm
set_option linter.unusedVariables false
namespace Sm
theorem w16_here {l : List Int} {i : Nat} {x : Int} (hi : i + 1 < l.length) : w16 (putw l i x) i = x := by
  unfold w16
  rw [putw_getD _ _ _ _ hi, putw_getD _ _ _ _ hi, if_neg (by omega), if_pos rfl, if_pos rfl]
  omega
theorem putP_get {l : List Int} (h : hdl l + 8 ≤ l.length) (s d : Int) (i : Nat) (hi : i < hdl l) : (putP l s d).getD i 0 = l.getD i 0 := by
  unfold putP
  split
  · rw [putw_getD _ _ _ _ (by omega), if_neg (by omega), if_neg (by omega)]
  · rw [putw_getD _ _ _ _ (by rw [putw_len]; omega), if_neg (by omega), if_neg (by omega), putw_getD _ _ _ _ (by omega), if_neg (by omega), if_neg (by omega)]
theorem putA_w {l : List Int} (h : 20 ≤ l.length) (s d : Int) : w32 (putA l s d) 12 = s ∧ w32 (putA l s d) 16 = d := by
  unfold w32 putA
  refine ⟨?_, ?_⟩
  · rw [w16_putw (by simp only [putw_len]; omega) (by omega), w16_putw (by simp only [putw_len]; omega) (by omega), w16_putw (by simp only [putw_len]; omega) (by omega), w16_putw (by simp only [putw_len]; omega) (by omega), w16_here (by omega), w16_putw (by simp only [putw_len]; omega) (by omega), w16_putw (by simp only [putw_len]; omega) (by omega), w16_putw (by simp only [putw_len]; omega) (by omega), w16_here (by simp only [putw_len]; omega)]
    omega
  · rw [w16_putw (by simp only [putw_len]; omega) (by omega), w16_putw (by simp only [putw_len]; omega) (by omega), w16_here (by simp only [putw_len]; omega), w16_putw (by simp only [putw_len]; omega) (by omega), w16_here (by simp only [putw_len]; omega)]
    omega
/-- An inner packet with other points. -/
theorem in_put {l : List Int} (hb : IsBytes l) (h : inOk l = true) {s d : Pt} (hs : s.Ok) (hd : d.Ok) (hp : l.getD 9 0 = 1 → s.port = d.port) :
    inOk (inPut l s d) = true ∧ inSrc (inPut l s d) = s ∧ inDst (inPut l s d) = d ∧ (inPut l s d).getD 9 0 = l.getD 9 0 := by
  obtain ⟨h20, h4, hh, h8⟩ := inHead_facts (inOk_head h)
  have hk := inOk_kind h
  obtain ⟨A, hA⟩ : ∃ A, putA l s.ip d.ip = A := ⟨_, rfl⟩
  have lA : A.length = l.length := by rw [← hA, putA_len]
  have gA : ∀ i, i < 10 ∨ 20 ≤ i → A.getD i 0 = l.getD i 0 := fun i hi => by rw [← hA]; exact putA_get h20 _ _ i hi
  have dA : hdl A = hdl l := by rw [← hA]; exact hdl_putA h20 _ _
  have wA := putA_w h20 s.ip d.ip
  rw [hA] at wA
  have eI : inPut l s d = putP A s.port d.port := by unfold inPut; rw [hA]
  have gP : ∀ i, i < hdl l → (putP A s.port d.port).getD i 0 = A.getD i 0 := fun i hi => putP_get (by rw [dA, lA]; exact h8) _ _ i (by rw [dA]; exact hi)
  have hdP : hdl (putP A s.port d.port) = hdl l := by unfold hdl; rw [gP 0 (by omega), gA 0 (by omega)]
  have g9 : (putP A s.port d.port).getD 9 0 = l.getD 9 0 := by rw [gP 9 (by omega), gA 9 (by omega)]
  have wP : ∀ i, i + 1 < hdl l → w16 (putP A s.port d.port) i = w16 A i := fun i hi => by unfold w16; rw [gP i (by omega), gP (i + 1) hi]
  have wP32 : ∀ i, i + 3 < hdl l → w32 (putP A s.port d.port) i = w32 A i := fun i hi => by unfold w32; rw [wP i (by omega), wP (i + 2) (by omega)]
  have hH : inHead (putP A s.port d.port) = true := by
    unfold inHead
    rw [hdP, putP_len, lA, gP 0 (by omega), gA 0 (by omega)]
    exact decide_eq_true ⟨h20, h4, hh, h8⟩
  rw [eI]
  by_cases h1 : l.getD 9 0 = 1
  · have eP : putP A s.port d.port = putw A (hdl l + 4) s.port := by unfold putP; rw [gA 9 (by omega), if_pos h1, dA]
    have q1 : (putP A s.port d.port).getD (hdl l) 0 = l.getD (hdl l) 0 := by rw [eP, putw_getD _ _ _ _ (by omega), if_neg (by omega), if_neg (by omega), gA _ (by omega)]
    have q2 : (putP A s.port d.port).getD (hdl l + 1) 0 = l.getD (hdl l + 1) 0 := by rw [eP, putw_getD _ _ _ _ (by omega), if_neg (by omega), if_neg (by omega), gA _ (by omega)]
    have q3 : w16 (putP A s.port d.port) (hdl l + 4) = s.port := by rw [eP]; exact w16_here (by omega)
    have hK : inKind (putP A s.port d.port) = true := by
      unfold inKind at hk ⊢
      rw [g9, hdP, q1, q2]
      exact hk
    refine ⟨by unfold inOk; rw [hH, hK]; rfl, ?_, ?_, g9⟩
    · unfold inSrc
      rw [g9, if_pos h1, hdP, q3, wP32 12 (by omega), wA.1]
    · unfold inDst
      rw [g9, if_pos h1, hdP, q3, wP32 16 (by omega), wA.2, hp h1]
  · have eP : putP A s.port d.port = putw (putw A (hdl l) s.port) (hdl l + 2) d.port := by unfold putP; rw [gA 9 (by omega), if_neg h1, dA]
    have q3 : w16 (putP A s.port d.port) (hdl l) = s.port := by rw [eP, w16_putw (by rw [putw_len]; omega) (by omega)]; exact w16_here (by omega)
    have q4 : w16 (putP A s.port d.port) (hdl l + 2) = d.port := by rw [eP]; exact w16_here (by rw [putw_len]; omega)
    have hK : inKind (putP A s.port d.port) = true := by
      unfold inKind at hk ⊢
      rw [g9]
      have : decide (l.getD 9 0 = 17 ∨ l.getD 9 0 = 6) = true := by
        rw [Bool.or_eq_true] at hk
        rcases hk with hk | hk
        · exact hk
        · rw [Bool.and_eq_true] at hk
          exact absurd (of_decide_eq_true hk.1) h1
      rw [this]; rfl
    refine ⟨by unfold inOk; rw [hH, hK]; rfl, ?_, ?_, g9⟩
    · unfold inSrc
      rw [g9, if_neg h1, hdP, q3, wP32 12 (by omega), wA.1]
    · unfold inDst
      rw [g9, if_neg h1, hdP, q4, wP32 16 (by omega), wA.2]

/-- An error that is right. -/
structure Er (K : Pk) (m : Mg) : Prop where
  ok : K.Ok
  fits : Fits K
  proto : K.proto = 1
  body : K.body = mgb m
  mok : m.Ok
  len : m.body.length ≤ 65507
  sum : m.sum = msum m
  echo : mecho m = false
  err : merror m = true
  inn : inOk m.body = true
theorem Er.kd {K : Pk} {m : Mg} (h : Er K m) : Kd K := Or.inr (Or.inr ⟨h.proto, m, h.body, h.mok, h.len, h.sum, Or.inr ⟨h.echo, h.err, h.inn⟩⟩)
theorem Er.fl {K : Pk} {m : Mg} (h : Er K m) : flFl K = ⟨1, ⟨K.src, 0⟩, ⟨K.dst, 0⟩, 0, [inSrc m.body, inDst m.body]⟩ := by
  have p1 : ¬ K.proto = 17 := by rw [h.proto]; decide
  have p2 : ¬ K.proto = 6 := by rw [h.proto]; decide
  unfold flFl mfFl fl0
  rw [if_neg p1, if_neg p2, h.body, back_mres h.mok, if_neg (by simp [h.echo]), if_pos ⟨h.err, h.inn⟩, h.proto]
theorem Er.look {K : Pk} {m : Mg} (h : Er K m) : lkErr (ipb K) = 0 ∧ lkFl (ipb K) = ⟨1, ⟨K.src, 0⟩, ⟨K.dst, 0⟩, 0, [inSrc m.body, inDst m.body]⟩ := by
  obtain ⟨a, b⟩ := kd_look h.ok h.fits h.kd
  refine ⟨a, ?_⟩
  rw [show lkFl (ipb K) = flFl (ipPk (ipb K)) from if_pos a, b]
  exact h.fl
theorem msl_facts (M : Mg) : (msl M).body = M.body ∧ (msl M).sum = msum (msl M) ∧ mecho (msl M) = mecho M ∧ merror (msl M) = merror M := ⟨rfl, (msum_to M (msum M)).symm, rfl, rfl⟩
theorem inMg_facts (m : Mg) (s d : Pt) : (inMg m s d).body = inPut m.body s d ∧ (inMg m s d).sum = msum (inMg m s d) ∧ mecho (inMg m s d) = mecho m ∧ merror (inMg m s d) = merror m := by
  have h := msl_facts (m.bod (inPut m.body s d))
  unfold inMg
  exact h
theorem Er.put {K : Pk} {m : Mg} (h : Er K m) {s d : Pt} (hs : s.Ok) (hd : d.Ok) (hp : m.body.getD 9 0 = 1 → s.port = d.port) :
    ∃ X m', Er X m' ∧ m'.body = inPut m.body s d ∧ inErr (ipb K) s d = 0 ∧ inOut (ipb K) s d = ipb X ∧ X.src = K.src ∧ X.dst = K.dst ∧ (ipb X).length = (ipb K).length := by
  obtain ⟨a, b⟩ := kd_look h.ok h.fits h.kd
  obtain ⟨h20, h4, hh, h8⟩ := inHead_facts (inOk_head h.inn)
  have hin := in_put h.mok.body h.inn hs hd hp
  have mo := inMg_ok h.mok h20 h8 hs hd
  have hf0 := inMg_facts m s d
  have eb := back_mres h.mok
  have hi : (flFl K).inner.length ≠ 0 := by rw [h.fl]; simp
  have hbad : inBad K s d = false := by
    unfold inBad
    rw [h.body, eb]
    exact decide_eq_false fun ⟨e1, e2⟩ => e2 (hp e1)
  have ex0 : inPk K s d = K.bod (mgOut (inMg m s d)) := by unfold inPk; rw [h.body, eb]
  have hE : inErr (ipb K) s d = ipbErr (K.bod (mgOut (inMg m s d))) := by
    unfold inErr
    rw [a, b, if_neg (by decide), if_neg hi, hbad, if_neg (by decide), ex0]
  have hO : inOut (ipb K) s d = ipOut (K.bod (mgOut (inMg m s d))) := by
    unfold inOut
    rw [a, b, if_neg (by decide), if_neg hi, hbad, if_neg (by decide), ex0]
  clear ex0
  generalize inMg m s d = m' at *
  obtain ⟨f1, f2, f3, f4⟩ := hf0
  generalize hI : inPut m.body s d = I at *
  have hIl : I.length = m.body.length := by rw [← hI]; exact inPut_len _ _ _
  have ml : m'.body.length = m.body.length := by rw [f1]; exact hIl
  have hbl : (mgb m').length = K.body.length := by rw [h.body, mgb_len, mgb_len]; unfold mlen; rw [ml]
  have em : mgOut m' = mgb m' := mgOut_fits (by rw [ml]; exact h.len)
  rw [em] at hE hO
  have hf : Fits (K.bod (mgb m')) := ⟨h.fits.o4, h.fits.o40, h.fits.flags, h.fits.off, by show 20 + K.opts.length + (mgb m').length ≤ 65535; rw [hbl]; exact h.fits.n⟩
  refine ⟨K.bod (mgb m'), m', ⟨pkbod_ok h.ok (mgb_bytes mo), hf, h.proto, rfl, mo, by rw [ml]; exact h.len, f2, by rw [f3]; exact h.echo, by rw [f4]; exact h.err, by rw [f1]; exact hin.1⟩, f1, ?_, ?_, rfl, rfl, ?_⟩
  · rw [hE]; exact (fits_iff _).mpr hf
  · rw [hO]; exact ipOut_fits hf
  · rw [ipb_len, ipb_len]
    show 20 + K.opts.length + (mgb m').length = _
    rw [hbl]
theorem pk1_er {P : Pa} (h : P.Ok) (sd : Int) (he : P.er = 4) : Er (pk1 P sd 0) (perr P sd 0) := by
  have hk : (0 : Int) ≤ 0 ∧ (0 : Int) ≤ 255 := ⟨by omega, by omega⟩
  have e : P.er % 5 = 4 := by rw [he]; decide
  obtain ⟨-, -, f⟩ := pk1_kd h sd 0 hk
  have ok := pk1_ok (side := sd) (k := 0) h hk
  have fp := pin_fits h sd 0 hk
  have hl : (ipOut (pin P sd 0)).length ≤ 80 := by rw [ipOut_fits fp, ipb_len]; have := (kd_ok h sd 0 hk).2.2; show 20 + 0 + (pin P sd 0).body.length ≤ 80; omega
  have hlen : (perr P sd 0).body.length ≤ 65507 := by show (ipOut (pin P sd 0)).length ≤ 65507; omega
  have ht := etyp_kind P.n
  have e1 : pk1 P sd 0 = ⟨0, 64, 1, P.n, 2, 0, psrc P sd 0, pdst P sd 0, [], mgOut (perr P sd 0)⟩ := if_pos e
  refine ⟨ok, f, by rw [e1], by rw [e1]; exact mgOut_fits hlen, perr_ok h hk, hlen, rfl, ?_, ?_, ?_⟩
  · show (decide (etyp P.n = 8 ∨ etyp P.n = 0) && decide ((0 : Int) = 0)) = false
    rcases ht with h | h | h <;> rw [h] <;> rfl
  · show decide (etyp P.n = 3 ∨ etyp P.n = 11 ∨ etyp P.n = 12) = true
    exact decide_eq_true ht
  · show inOk (ipOut (pin P sd 0)) = true
    rw [ipOut_fits fp]
    exact pin_in h sd 0 hk

structure InM (P : Pa) (sd : Int) (s d : Pt) (L L2 L3 : List Int) (x y : Int) (p q : Pt) : Prop where
  pk : pktb P sd 0 = L
  b1 : IsBytes L ∧ L.length ≤ 65535
  e1 : lkErr L = 0
  f1 : lkFl L = ⟨1, ⟨x, 0⟩, ⟨y, 0⟩, 0, [p, q]⟩
  ok : p.Ok ∧ q.Ok
  c1 : inErr L s d = 0
  o1 : inOut L s d = L2
  b2 : IsBytes L2 ∧ L2.length = L.length
  e2 : lkErr L2 = 0
  f2 : lkFl L2 = ⟨1, ⟨x, 0⟩, ⟨y, 0⟩, 0, [s, d]⟩
  c2 : inErr L2 p q = 0
  o2 : inOut L2 p q = L3
  b3 : IsBytes L3 ∧ L3.length = L.length
  e3 : lkErr L3 = 0
  f3 : lkFl L3 = ⟨1, ⟨x, 0⟩, ⟨y, 0⟩, 0, [p, q]⟩
set_option maxHeartbeats 1000000 in
theorem in_math {P : Pa} (hP : P.Ok) (sd : Int) {s d : Pt} (hs : s.Ok) (hd : d.Ok) (hsd : s.port = d.port) (ht : P.ttl = 9) (hsp : P.sp = 0) (he : P.er = 4) : ∃ L L2 L3 x y p q, InM P sd s d L L2 L3 x y p q := by
  have hk0 : (0 : Int) ≤ 0 ∧ (0 : Int) ≤ 255 := ⟨by omega, by omega⟩
  have e := pktb_nine hP sd 0 hk0 (by rw [ht]; decide) (by rw [hsp]; decide)
  have E1 := pk1_er hP sd he
  generalize pk1 P sd 0 = K at *
  generalize perr P sd 0 = m at *
  obtain ⟨a1, a2⟩ := E1.look
  have hp := inSrc_ok E1.mok.body
  have hq := inDst_ok E1.mok.body
  obtain ⟨X, m2, E2, q2, c1, o1, x1, x2, x3⟩ := E1.put hs hd (fun _ => hsd)
  obtain ⟨b1, b2⟩ := E2.look
  have i2 := in_put E1.mok.body E1.inn hs hd (fun _ => hsd)
  rw [← q2] at i2
  have hpq : m2.body.getD 9 0 = 1 → (inSrc m.body).port = (inDst m.body).port := by
    intro h
    have h9 : m.body.getD 9 0 = 1 := by rw [← i2.2.2.2]; exact h
    unfold inSrc inDst
    rw [if_pos h9, if_pos h9]
  obtain ⟨Y, m3, E3, q3, c2, o2, y1, y2, y3⟩ := E2.put hp hq hpq
  obtain ⟨d1, d2⟩ := E3.look
  have i3 := in_put E2.mok.body E2.inn hp hq hpq
  rw [← q3] at i3
  refine ⟨ipb K, ipb X, ipb Y, K.src, K.dst, inSrc m.body, inDst m.body, e, ⟨ipb_bytes E1.ok E1.fits, by rw [ipb_len]; exact E1.fits.n⟩, a1, a2, ⟨hp, hq⟩, c1, o1, ⟨ipb_bytes E2.ok E2.fits, x3⟩, b1, ?_, c2, o2, ⟨ipb_bytes E3.ok E3.fits, by rw [y3, x3]⟩, d1, ?_⟩
  · rw [b2, i2.2.1, i2.2.2.1, x1, x2]
  · rw [d2, i3.2.1, i3.2.2.1, y1, y2, x1, x2]
end Sm
end Go.Proofs.Ytjalpbkfpjfigab

namespace Go.Proofs.Ytjalpbkfpjfigab
open Go.RowKit
open Sm
set_option linter.unusedVariables false
set_option maxRecDepth 20000

namespace Sm
theorem flFl_ok {K : Pk} (h : K.Ok) : (flFl K).src.Ok ∧ (flFl K).dst.Ok := by
  have m := (mgRes_ok h.body).rest
  unfold flFl
  split
  · exact ⟨⟨h.src, (udRes_ok h.body).src⟩, ⟨h.dst, (udRes_ok h.body).dst⟩⟩
  · split
    · exact ⟨⟨h.src, (tcRes_ok h.body).src⟩, ⟨h.dst, (tcRes_ok h.body).dst⟩⟩
    · unfold mfFl fl0
      split
      · exact ⟨⟨h.src, by simp only; omega⟩, ⟨h.dst, by simp only; omega⟩⟩
      · split
        · exact ⟨⟨h.src, by simp⟩, ⟨h.dst, by simp⟩⟩
        · exact ⟨⟨by simp [Fl.zero], by simp [Fl.zero]⟩, ⟨by simp [Fl.zero], by simp [Fl.zero]⟩⟩
/-- The points that fit a flow. -/
def fitS (F : Fl) (s : Pt) : Pt := if 0 < F.inner.length then ⟨s.ip, 0⟩ else s
def fitD (F : Fl) (s d : Pt) : Pt := if 0 < F.inner.length then ⟨d.ip, 0⟩ else if F.proto = 1 then ⟨d.ip, s.port⟩ else d
theorem fit_ok (F : Fl) {s d : Pt} (hs : s.Ok) (hd : d.Ok) : (fitS F s).Ok ∧ (fitD F s d).Ok ∧ pfit F (fitS F s) (fitD F s d) = true := by
  unfold fitS fitD pfit
  by_cases h : 0 < F.inner.length
  · simp only [if_pos h]
    exact ⟨⟨hs.ip, by simp⟩, ⟨hd.ip, by simp⟩, by simp⟩
  · simp only [if_neg h]
    by_cases e : F.proto = 1
    · simp only [if_pos e]
      exact ⟨hs, ⟨hd.ip, hs.port⟩, by simp⟩
    · simp only [if_neg e]
      exact ⟨hs, hd, by simp [e]⟩
structure BackM (P : Pa) (sd : Int) (s d : Pt) (L : List Int) (F : Fl) (L2 : List Int) : Prop where
  pk : pktb P sd 0 = L
  b1 : IsBytes L ∧ L.length ≤ 65535
  e1 : lkErr L = 0
  f1 : lkFl L = F
  okF : F.src.Ok ∧ F.dst.Ok
  okS : (fitS F s).Ok ∧ (fitD F s d).Ok
  c1 : chErr L (fitS F s) (fitD F s d) = 0
  o1 : chOut L (fitS F s) (fitD F s d) = L2
  b2 : IsBytes L2 ∧ L2.length ≤ 65535
  e2 : lkErr L2 = 0
  f2 : lkFl L2 = ⟨F.proto, fitS F s, fitD F s d, F.flags, F.inner⟩
  c2 : chErr L2 F.src F.dst = 0
  o2 : chOut L2 F.src F.dst = L
theorem ch_kd {K : Pk} (h : K.Ok) (f : Fits K) (k : Kd K) {s d : Pt} (hs : s.Ok) (hd : d.Ok) (hp : pfit (flFl K) s d = true) : chErr (ipb K) s d = 0 ∧ chOut (ipb K) s d = ipb (chPk K (flFl K) s d) := by
  obtain ⟨a, b⟩ := kd_look h f k
  have t := kd_twice h f k hs hd hp
  unfold chErr chOut
  rw [a, b, hp, if_neg (by decide), if_neg (by decide), if_neg (by decide), if_neg (by decide)]
  exact ⟨(fits_iff _).mpr t.fits, ipOut_fits t.fits⟩
theorem back_math {P : Pa} (hP : P.Ok) (sd : Int) {s d : Pt} (hs : s.Ok) (hd : d.Ok) (ht : P.ttl = 9) (hsp : P.sp = 0) : ∃ L F L2, BackM P sd s d L F L2 := by
  obtain ⟨k, -, f⟩ := pk1_kd hP sd 0 ⟨by omega, by omega⟩
  have ok := pk1_ok (side := sd) (k := 0) hP ⟨by omega, by omega⟩
  have e := pktb_nine hP sd 0 ⟨by omega, by omega⟩ (by rw [ht]; decide) (by rw [hsp]; decide)
  generalize pk1 P sd 0 = K at *
  obtain ⟨a, b⟩ := kd_look ok f k
  obtain ⟨q1, q2, q3⟩ := fit_ok (flFl K) hs hd
  have t := kd_twice ok f k q1 q2 q3
  have c := ch_kd ok f k q1 q2 q3
  obtain ⟨a2, b2⟩ := kd_look t.ok t.fits t.kd
  have okF := flFl_ok ok
  have c2 := ch_kd t.ok t.fits t.kd okF.1 okF.2 t.fit
  refine ⟨ipb K, flFl K, ipb (chPk K (flFl K) (fitS (flFl K) s) (fitD (flFl K) s d)), e, ⟨ipb_bytes ok f, by rw [ipb_len]; exact f.n⟩, a, ?_, okF, ⟨q1, q2⟩, c.1, c.2, ⟨ipb_bytes t.ok t.fits, by rw [ipb_len]; exact t.fits.n⟩, a2, ?_, c2.1, ?_⟩
  · rw [show lkFl (ipb K) = flFl (ipPk (ipb K)) from if_pos a, b]
  · rw [show lkFl (ipb (chPk K (flFl K) (fitS (flFl K) s) (fitD (flFl K) s d))) = flFl (ipPk (ipb (chPk K (flFl K) (fitS (flFl K) s) (fitD (flFl K) s d)))) from if_pos a2, b2]
    exact t.fl
  · rw [c2.2, t.back]
end Sm

/-- Look's answer where it is none refused: its flow's points. -/
theorem look_pts {w : World} {a : Option Addr} {n c : Nat} {l : List Int} (hr : Row w a l) (hn : l.length = n) (hc : n ≤ c) (hE : lkErr l = 0) {F : Fl} (hF : lkFl l = F) :
    Calls Try.prog 7 #[.slice a n c] w fun e w' => ∃ p ao bo no co nb cb ia ic, e = .returned (.tuple #[.agg (lkB p ao bo no co nb cb), .agg (flB F (.slice ia F.inner.length ic)), .int .i64 0]) ∧ PtsV w' w.heap.size (.slice ia F.inner.length ic) F.inner ∧ Below w.heap.size w w' := by
  refine (Look_any hr hn hc).mono ?_
  rintro e w' ⟨ao, bo, ia, co, cb, ic, rfl, -, hp, hb⟩
  rw [hE]
  rw [hF] at hp ⊢
  exact ⟨_, ao, bo, _, co, _, cb, ia, ic, rfl, hp, hb⟩
theorem Mem.rest {w W : World} {p : Nat × Obj} {L : List (Nat × Obj)} (h : Mem w W (p :: L)) : Mem w W L :=
  ⟨h.below, fun q hq => h.low q (List.mem_cons_of_mem _ hq), fun q hq => h.at_ q (List.mem_cons_of_mem _ hq), (List.nodup_cons.mp h.apart).2⟩

end Go.Proofs.Ytjalpbkfpjfigab

