/-
  The walk of lychlaw8.RewriteBack: it answers true.
-/
import Derived.Test.YtjalpbkfpjfigabRwPacket
import Derived.Test.YtjalpbkfpjfigabRwPkKd
import Derived.Test.YtjalpbkfpjfigabRwPts
import Derived.Test.YtjalpbkfpjfigabRwKnownAll
import Derived.Deep.CutBlock
namespace Go.Proofs.Ytjalpbkfpjfigab
open Go.RowKit
open Sm
set_option linter.unusedVariables false
set_option maxRecDepth 20000

namespace Sm
theorem flFl_ok {K : Pk} (h : K.Ok) : (flFl K).src.Ok ∧ (flFl K).dst.Ok := by
  have m := (mgRes_ok h.body).rest
  unfold flFl
  split
  · exact ⟨⟨h.src, (udRes_ok h.body).src⟩, ⟨h.dst, (udRes_ok h.body).dst⟩⟩
  · split
    · exact ⟨⟨h.src, (tcRes_ok h.body).src⟩, ⟨h.dst, (tcRes_ok h.body).dst⟩⟩
    · unfold mfFl fl0
      split
      · exact ⟨⟨h.src, by simp only; omega⟩, ⟨h.dst, by simp only; omega⟩⟩
      · split
        · exact ⟨⟨h.src, by simp⟩, ⟨h.dst, by simp⟩⟩
        · exact ⟨⟨by simp [Fl.zero], by simp [Fl.zero]⟩, ⟨by simp [Fl.zero], by simp [Fl.zero]⟩⟩
/-- The points that fit a flow. -/
def fitS (F : Fl) (s : Pt) : Pt := if 0 < F.inner.length then ⟨s.ip, 0⟩ else s
def fitD (F : Fl) (s d : Pt) : Pt := if 0 < F.inner.length then ⟨d.ip, 0⟩ else if F.proto = 1 then ⟨d.ip, s.port⟩ else d
theorem fit_ok (F : Fl) {s d : Pt} (hs : s.Ok) (hd : d.Ok) : (fitS F s).Ok ∧ (fitD F s d).Ok ∧ pfit F (fitS F s) (fitD F s d) = true := by
  unfold fitS fitD pfit
  by_cases h : 0 < F.inner.length
  · simp only [if_pos h]
    exact ⟨⟨hs.ip, by simp⟩, ⟨hd.ip, by simp⟩, by simp⟩
  · simp only [if_neg h]
    by_cases e : F.proto = 1
    · simp only [if_pos e]
      exact ⟨hs, ⟨hd.ip, hs.port⟩, by simp⟩
    · simp only [if_neg e]
      exact ⟨hs, hd, by simp [e]⟩
structure BackM (P : Pa) (sd : Int) (s d : Pt) (L : List Int) (F : Fl) (L2 : List Int) : Prop where
  pk : pktb P sd 0 = L
  b1 : IsBytes L ∧ L.length ≤ 65535
  e1 : lkErr L = 0
  f1 : lkFl L = F
  okF : F.src.Ok ∧ F.dst.Ok
  okS : (fitS F s).Ok ∧ (fitD F s d).Ok
  c1 : chErr L (fitS F s) (fitD F s d) = 0
  o1 : chOut L (fitS F s) (fitD F s d) = L2
  b2 : IsBytes L2 ∧ L2.length ≤ 65535
  e2 : lkErr L2 = 0
  f2 : lkFl L2 = ⟨F.proto, fitS F s, fitD F s d, F.flags, F.inner⟩
  c2 : chErr L2 F.src F.dst = 0
  o2 : chOut L2 F.src F.dst = L
theorem ch_kd {K : Pk} (h : K.Ok) (f : Fits K) (k : Kd K) {s d : Pt} (hs : s.Ok) (hd : d.Ok) (hp : pfit (flFl K) s d = true) : chErr (ipb K) s d = 0 ∧ chOut (ipb K) s d = ipb (chPk K (flFl K) s d) := by
  obtain ⟨a, b⟩ := kd_look h f k
  have t := kd_twice h f k hs hd hp
  unfold chErr chOut
  rw [a, b, hp, if_neg (by decide), if_neg (by decide), if_neg (by decide), if_neg (by decide)]
  exact ⟨(fits_iff _).mpr t.fits, ipOut_fits t.fits⟩
theorem back_math {P : Pa} (hP : P.Ok) (sd : Int) {s d : Pt} (hs : s.Ok) (hd : d.Ok) (ht : P.ttl = 9) (hsp : P.sp = 0) : ∃ L F L2, BackM P sd s d L F L2 := by
  obtain ⟨k, -, f⟩ := pk1_kd hP sd 0 ⟨by omega, by omega⟩
  have ok := pk1_ok (side := sd) (k := 0) hP ⟨by omega, by omega⟩
  have e := pktb_nine hP sd 0 ⟨by omega, by omega⟩ (by rw [ht]; decide) (by rw [hsp]; decide)
  generalize pk1 P sd 0 = K at *
  obtain ⟨a, b⟩ := kd_look ok f k
  obtain ⟨q1, q2, q3⟩ := fit_ok (flFl K) hs hd
  have t := kd_twice ok f k q1 q2 q3
  have c := ch_kd ok f k q1 q2 q3
  obtain ⟨a2, b2⟩ := kd_look t.ok t.fits t.kd
  have okF := flFl_ok ok
  have c2 := ch_kd t.ok t.fits t.kd okF.1 okF.2 t.fit
  refine ⟨ipb K, flFl K, ipb (chPk K (flFl K) (fitS (flFl K) s) (fitD (flFl K) s d)), e, ⟨ipb_bytes ok f, by rw [ipb_len]; exact f.n⟩, a, ?_, okF, ⟨q1, q2⟩, c.1, c.2, ⟨ipb_bytes t.ok t.fits, by rw [ipb_len]; exact t.fits.n⟩, a2, ?_, c2.1, ?_⟩
  · rw [show lkFl (ipb K) = flFl (ipPk (ipb K)) from if_pos a, b]
  · rw [show lkFl (ipb (chPk K (flFl K) (fitS (flFl K) s) (fitD (flFl K) s d))) = flFl (ipPk (ipb (chPk K (flFl K) (fitS (flFl K) s) (fitD (flFl K) s d)))) from if_pos a2, b2]
    exact t.fl
  · rw [c2.2, t.back]
end Sm

/-- Look's answer where it is none refused: its flow's points. -/
theorem look_pts {w : World} {a : Option Addr} {n c : Nat} {l : List Int} (hr : Row w a l) (hn : l.length = n) (hc : n ≤ c) (hE : lkErr l = 0) {F : Fl} (hF : lkFl l = F) :
    Calls Try.prog 7 #[.slice a n c] w fun e w' => ∃ p ao bo no co nb cb ia ic, e = .returned (.tuple #[.agg (lkB p ao bo no co nb cb), .agg (flB F (.slice ia F.inner.length ic)), .int .i64 0]) ∧ PtsV w' w.heap.size (.slice ia F.inner.length ic) F.inner ∧ Below w.heap.size w w' := by
  refine (Look_any hr hn hc).mono ?_
  rintro e w' ⟨ao, bo, ia, co, cb, ic, rfl, -, hp, hb⟩
  rw [hE]
  rw [hF] at hp ⊢
  exact ⟨_, ao, bo, _, co, _, cb, ia, ic, rfl, hp, hb⟩
theorem Mem.rest {w W : World} {p : Nat × Obj} {L : List (Nat × Obj)} (h : Mem w W (p :: L)) : Mem w W L :=
  ⟨h.below, fun q hq => h.low q (List.mem_cons_of_mem _ hq), fun q hq => h.at_ q (List.mem_cons_of_mem _ hq), (List.nodup_cons.mp h.apart).2⟩

end Go.Proofs.Ytjalpbkfpjfigab
