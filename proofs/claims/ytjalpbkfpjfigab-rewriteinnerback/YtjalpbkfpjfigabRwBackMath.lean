/-
  Packets that carry what the document asks, as lists of numbers: they are read, changed, read again and changed back.
-/
import Derived.Test.YtjalpbkfpjfigabRwOut
import Derived.Test.YtjalpbkfpjfigabRwFits
import Derived.Test.YtjalpbkfpjfigabRwPktFacts
namespace Go.Proofs.Ytjalpbkfpjfigab
open Go.RowKit
open Sm
set_option linter.unusedVariables false
namespace Sm
/-- What is carried, with its own checksum. -/
def Kd (K : Pk) : Prop :=
  (K.proto = 17 ∧ ∃ D : Dg, K.body = udb D ∧ D.Ok ∧ D.body.length ≤ 65527 ∧ (D.sum = 0 ∨ D.sum = usum K.src K.dst D)) ∨
  (K.proto = 6 ∧ ∃ S : Sg, K.body = tcb S ∧ S.Ok ∧ TFits S ∧ S.sum = tsum K.src K.dst S) ∨
  (K.proto = 1 ∧ ∃ m : Mg, K.body = mgb m ∧ m.Ok ∧ m.body.length ≤ 65507 ∧ m.sum = msum m ∧ (mecho m = true ∨ (mecho m = false ∧ merror m = true ∧ inOk m.body = true)))

theorem ipOut_fits {K : Pk} (f : Fits K) : ipOut K = ipb K := if_pos ((fits_iff K).mpr f)
theorem udOut_fits {D : Dg} (f : D.body.length ≤ 65527) : udOut D = udb D := if_pos ((udbErr_zero D).mpr f)
theorem tcOut_fits {S : Sg} (f : TFits S) : tcOut S = tcb S := if_pos ((tfits_iff S).mpr f)
theorem mgOut_fits {m : Mg} (f : m.body.length ≤ 65507) : mgOut m = mgb m := if_pos ((mfits_iff m).mpr f)
theorem ip_back {K : Pk} (h : K.Ok) (f : Fits K) : ipErr (ipb K) = 0 ∧ ipPk (ipb K) = K ∧ ipRes (ipb K) = K := by
  have a := back_err h f []
  have b := back_pk h f []
  have c := back_res h f []
  rw [List.append_nil] at a b c
  exact ⟨a, b, c⟩

/-- What is read of it. -/
theorem kd_body {K : Pk} (h : K.Ok) (k : Kd K) : bdErr K = 0 ∧ bdRight K = true ∧ flErr K = 0 := by
  have h1 := h.src
  have h2 := h.dst
  rcases k with ⟨hp, D, hb, hD, hn, hs⟩ | ⟨hp, S, hb, hS, hn, hs⟩ | ⟨hp, m, hb, hm, hn, hs, hk⟩
  · have e := back_ures hD hn
    refine ⟨by unfold bdErr; rw [if_pos hp, hb]; exact back_uerr D hn, ?_, by unfold flErr; rw [if_pos hp]⟩
    unfold bdRight
    rw [if_pos hp, hb, e]
    have := uright_at hD hn K.src K.dst h1.1 h2.1 D.sum hD.sum.1 hD.sum.2
    rw [show D.at D.sum = D from rfl] at this
    rw [this]
    rcases hs with hs | hs
    · simp [hs]
    · simp [← hs]
  · have e := back_tres hS hn
    have hp1 : ¬ K.proto = 17 := by omega
    refine ⟨by unfold bdErr; rw [if_neg hp1, if_pos hp, hb]; exact back_terr S hn, ?_, by unfold flErr; rw [if_neg hp1, if_pos hp]⟩
    unfold bdRight
    rw [if_neg hp1, if_pos hp, hb, e]
    have := tright_at hS hn K.src K.dst h1.1 h2.1 S.sum hS.sum.1 hS.sum.2
    rw [show S.at S.sum = S from rfl] at this
    rw [this]
    simp [← hs]
  · have e := back_mres hm
    have hp1 : ¬ K.proto = 17 := by omega
    have hp2 : ¬ K.proto = 6 := by omega
    refine ⟨by unfold bdErr; rw [if_neg hp1, if_neg hp2, if_pos hp, hb]; exact back_merr m, ?_, ?_⟩
    · unfold bdRight
      rw [if_neg hp1, if_neg hp2, hb, e]
      have := mright_own hm ((mfits_iff m).mpr hn)
      rw [← hs, show m.at m.sum = m from rfl] at this
      exact this
    · unfold flErr mfErr
      rw [if_neg hp1, if_neg hp2, hb, e]
      rcases hk with hk | ⟨hk1, hk2, hk3⟩
      · rw [if_pos hk]
      · rw [if_neg (by simp [hk1]), if_pos ⟨hk2, hk3⟩]
theorem kd_look {K : Pk} (h : K.Ok) (f : Fits K) (k : Kd K) : lkErr (ipb K) = 0 ∧ ipPk (ipb K) = K := by
  obtain ⟨a, b, c⟩ := ip_back h f
  obtain ⟨d, e, g⟩ := kd_body h k
  refine ⟨?_, b⟩
  unfold lkErr
  rw [b, a, d, e, g, if_neg (by decide), if_neg (by decide), if_neg (by decide)]

/-- Changed, and changed back. -/
structure Twice (K X : Pk) (s d : Pt) : Prop where
  ok : X.Ok
  fits : Fits X
  kd : Kd X
  fl : flFl X = ⟨(flFl K).proto, s, d, (flFl K).flags, (flFl K).inner⟩
  fit : pfit (flFl X) (flFl K).src (flFl K).dst = true
  back : chPk X (flFl X) (flFl K).src (flFl K).dst = K
theorem usum_to (s d : Int) (u : Dg) (c : Int) : usum s d (u.at c) = usum s d u := rfl
theorem tsum_to (s d : Int) (u : Sg) (c : Int) : tsum s d (u.at c) = tsum s d u := rfl
theorem msum_to (u : Mg) (c : Int) : msum (u.at c) = msum u := rfl
theorem chDg_body (u : Dg) (s d : Pt) : (chDg u s d).body = u.body := by unfold chDg; split <;> rfl
theorem chDg_sum (u : Dg) (s d : Pt) : (chDg u s d).sum = 0 ∨ (chDg u s d).sum = usum s.ip d.ip (chDg u s d) := by
  unfold chDg
  split
  · left; assumption
  · right; rfl
theorem chDg_src (u : Dg) (s d : Pt) : (chDg u s d).src = s.port ∧ (chDg u s d).dst = d.port := by unfold chDg; split <;> exact ⟨rfl, rfl⟩
theorem chDg_none (u : Dg) (hn : u.body.length ≤ 65527) (s d : Pt) : (chDg u s d).sum = 0 ↔ u.sum = 0 := by
  unfold chDg
  by_cases e : u.sum = 0
  · rw [if_pos e]; exact Iff.rfl
  · rw [if_neg e]
    exact ⟨fun h => absurd h (usum_some (u := u.to s d) hn _ _), fun h => absurd h e⟩
theorem chDg_back {u : Dg} (hn : u.body.length ≤ 65527) {x y : Int} (hs : u.sum = 0 ∨ u.sum = usum x y u) (s d : Pt) : chDg (chDg u s d) ⟨x, u.src⟩ ⟨y, u.dst⟩ = u := by
  by_cases e : u.sum = 0
  · have e1 : chDg u s d = u.to s d := if_pos e
    rw [e1]
    have e2 : chDg (u.to s d) ⟨x, u.src⟩ ⟨y, u.dst⟩ = (u.to s d).to ⟨x, u.src⟩ ⟨y, u.dst⟩ := if_pos e
    rw [e2]; rfl
  · have hs' : u.sum = usum x y u := by rcases hs with h | h; exact absurd h e; exact h
    have e1 := mt (chDg_none u hn s d).mp e
    have e2 : chDg (chDg u s d) ⟨x, u.src⟩ ⟨y, u.dst⟩ = ((chDg u s d).to ⟨x, u.src⟩ ⟨y, u.dst⟩).at (usum x y ((chDg u s d).to ⟨x, u.src⟩ ⟨y, u.dst⟩)) := if_neg e1
    have e3 : chDg u s d = (u.to s d).at (usum s.ip d.ip (u.to s d)) := if_neg e
    have e4 : (chDg u s d).to ⟨x, u.src⟩ ⟨y, u.dst⟩ = u.at (usum s.ip d.ip (u.to s d)) := by rw [e3]; rfl
    rw [e2, e4, usum_to, ← hs']
    rfl
theorem chSg_back {u : Sg} {x y : Int} (hs : u.sum = tsum x y u) (s d : Pt) : chSg (chSg u s d) ⟨x, u.src⟩ ⟨y, u.dst⟩ = u := by
  show (u.at (tsum s.ip d.ip (u.to s d))).at (tsum x y (u.at (tsum s.ip d.ip (u.to s d)))) = u
  rw [tsum_to, ← hs]
  rfl
theorem msl_self {m : Mg} (h : m.sum = msum m) : msl m = m := by unfold msl; rw [← h]; rfl
theorem msl_id {m : Mg} (hm : m.Ok) (h : m.sum = msum m) (x : Int) (hx : 0 ≤ x ∧ x ≤ 65535) : msl ((msl (m.id x)).id (m.rest / 65536)) = m := by
  have hr := hm.rest
  have e : (msl (m.id x)).id (m.rest / 65536) = m.at (msum (m.id x)) := by
    have e1 : (m.rest / 65536) * 65536 + (x * 65536 + m.rest % 65536) % 65536 = m.rest := by omega
    show Mg.mk m.typ m.code (msum (m.id x)) ((m.rest / 65536) * 65536 + (x * 65536 + m.rest % 65536) % 65536) m.body = _
    rw [e1]; rfl
  rw [e]
  show (m.at (msum (m.id x))).at (msum (m.at (msum (m.id x)))) = m
  rw [msum_to, ← h]
  rfl
theorem pk_eta (K : Pk) : (⟨K.tos, K.ttl, K.proto, K.id, K.flags, K.off, K.src, K.dst, K.opts, K.body⟩ : Pk) = K := rfl

theorem kd_twice {K : Pk} (h : K.Ok) (f : Fits K) (k : Kd K) {s d : Pt} (hs : s.Ok) (hd : d.Ok) (hp : pfit (flFl K) s d = true) : Twice K (chPk K (flFl K) s d) s d := by
  have hok := chPk_ok h (flFl K) hs hd
  rcases k with ⟨pr, D, hb, hD, hn, hsm⟩ | ⟨pr, S, hb, hS, hn, hsm⟩ | ⟨pr, m, hb, hm, hn, hsm, hk⟩
  · have e1 := back_ures hD hn
    have hl : (chDg D s d).body.length ≤ 65527 := by rw [chDg_body]; exact hn
    have hDo := chDg_ok hD hs hd
    have eb : chBody K (flFl K) s d = udb (chDg D s d) := by unfold chBody; rw [if_pos pr, hb, e1, udOut_fits hl]
    have ef : flFl K = ⟨17, ⟨K.src, D.src⟩, ⟨K.dst, D.dst⟩, 0, []⟩ := by unfold flFl; rw [if_pos pr, hb, e1, pr]
    have ex : chPk K (flFl K) s d = ⟨K.tos, K.ttl, K.proto, K.id, K.flags, K.off, s.ip, d.ip, K.opts, udb (chDg D s d)⟩ := by unfold chPk Pk.to; rw [eb]
    have hlen : (udb (chDg D s d)).length = K.body.length := by rw [hb, udb_len, udb_len, chDg_body]
    rw [ef] at hp hok ex ⊢
    rw [ex] at hok ⊢
    have e2 := back_ures hDo hl
    have fx : flFl ⟨K.tos, K.ttl, K.proto, K.id, K.flags, K.off, s.ip, d.ip, K.opts, udb (chDg D s d)⟩ = ⟨17, s, d, 0, []⟩ := by
      unfold flFl; rw [if_pos pr]; simp only; rw [e2, pr, (chDg_src D s d).1, (chDg_src D s d).2]
    refine ⟨hok, ⟨f.o4, f.o40, f.flags, f.off, by have := f.n; simp only; omega⟩, Or.inl ⟨pr, _, rfl, hDo, hl, chDg_sum D s d⟩, ?_, ?_, ?_⟩
    · rw [fx, ef]
    · rw [fx]; simp [pfit]
    · rw [fx, ef]
      have eb2 : chBody ⟨K.tos, K.ttl, K.proto, K.id, K.flags, K.off, s.ip, d.ip, K.opts, udb (chDg D s d)⟩ ⟨17, s, d, 0, []⟩ ⟨K.src, D.src⟩ ⟨K.dst, D.dst⟩ = udb D := by
        unfold chBody; rw [if_pos pr]; simp only; rw [e2, chDg_back hn hsm, udOut_fits hn]
      unfold chPk Pk.to
      rw [eb2, ← hb]
  · have e1 := back_tres hS hn
    have p1 : ¬ K.proto = 17 := by omega
    have hl : TFits (chSg S s d) := ⟨hn.o4, hn.o40, hn.n⟩
    have hDo := chSg_ok hS hs hd
    have eb : chBody K (flFl K) s d = tcb (chSg S s d) := by unfold chBody; rw [if_neg p1, if_pos pr, hb, e1, tcOut_fits hl]
    have ef : flFl K = ⟨6, ⟨K.src, S.src⟩, ⟨K.dst, S.dst⟩, S.flags, []⟩ := by unfold flFl; rw [if_neg p1, if_pos pr, hb, e1, pr]
    have ex : chPk K (flFl K) s d = ⟨K.tos, K.ttl, K.proto, K.id, K.flags, K.off, s.ip, d.ip, K.opts, tcb (chSg S s d)⟩ := by unfold chPk Pk.to; rw [eb]
    have hlen : (tcb (chSg S s d)).length = K.body.length := by rw [hb, tcb_len, tcb_len]; rfl
    rw [ef] at hp hok ex ⊢
    rw [ex] at hok ⊢
    have e2 := back_tres hDo hl
    have fx : flFl ⟨K.tos, K.ttl, K.proto, K.id, K.flags, K.off, s.ip, d.ip, K.opts, tcb (chSg S s d)⟩ = ⟨6, s, d, S.flags, []⟩ := by
      unfold flFl; rw [if_neg p1, if_pos pr]; simp only; rw [e2, pr]; rfl
    refine ⟨hok, ⟨f.o4, f.o40, f.flags, f.off, by have := f.n; simp only; omega⟩, Or.inr (Or.inl ⟨pr, _, rfl, hDo, hl, rfl⟩), ?_, ?_, ?_⟩
    · rw [fx, ef]
    · rw [fx]; simp [pfit]
    · rw [fx, ef]
      have eb2 : chBody ⟨K.tos, K.ttl, K.proto, K.id, K.flags, K.off, s.ip, d.ip, K.opts, tcb (chSg S s d)⟩ ⟨6, s, d, S.flags, []⟩ ⟨K.src, S.src⟩ ⟨K.dst, S.dst⟩ = tcb S := by
        unfold chBody; rw [if_neg p1, if_pos pr]; simp only; rw [e2, chSg_back hsm, tcOut_fits hn]
      unfold chPk Pk.to
      rw [eb2, ← hb]
  · have e1 := back_mres hm
    have p1 : ¬ K.proto = 17 := by omega
    have p2 : ¬ K.proto = 6 := by omega
    have hr := hm.rest
    have sp := hs.port
    rcases hk with hk | ⟨hk1, hk2, hk3⟩
    · have ef : flFl K = ⟨1, ⟨K.src, m.rest / 65536⟩, ⟨K.dst, m.rest / 65536⟩, 0, []⟩ := by unfold flFl mfFl fl0; rw [if_neg p1, if_neg p2, hb, e1, if_pos hk, pr]
      have hl : (msl (m.id s.port)).body.length ≤ 65507 := hn
      have hDo : (msl (m.id s.port)).Ok := msl_ok ⟨hm.typ, hm.code, hm.sum, ⟨by simp only [Mg.id]; omega, by simp only [Mg.id]; omega⟩, hm.body⟩
      have eb : chBody K (flFl K) s d = mgb (msl (m.id s.port)) := by unfold chBody chMg; rw [ef, if_neg p1, if_neg p2, if_pos pr, hb, e1, if_neg (by simp), mgOut_fits hl]
      have ex : chPk K (flFl K) s d = ⟨K.tos, K.ttl, K.proto, K.id, K.flags, K.off, s.ip, d.ip, K.opts, mgb (msl (m.id s.port))⟩ := by unfold chPk Pk.to; rw [eb]
      have hlen : (mgb (msl (m.id s.port))).length = K.body.length := by rw [hb, mgb_len, mgb_len]; rfl
      have hk' : mecho (msl (m.id s.port)) = true := hk
      rw [ef] at hp hok ex ⊢
      rw [ex] at hok ⊢
      have hsd : s.port = d.port := by simpa [pfit] using hp
      have e2 := back_mres hDo
      have er : (msl (m.id s.port)).rest / 65536 = s.port := by show (s.port * 65536 + m.rest % 65536) / 65536 = s.port; omega
      have fx : flFl ⟨K.tos, K.ttl, K.proto, K.id, K.flags, K.off, s.ip, d.ip, K.opts, mgb (msl (m.id s.port))⟩ = ⟨1, s, d, 0, []⟩ := by
        unfold flFl mfFl fl0; rw [if_neg p1, if_neg p2]; simp only; rw [e2, if_pos hk', pr, er]
        cases s; cases d; simp only at hsd; subst hsd; rfl
      refine ⟨hok, ⟨f.o4, f.o40, f.flags, f.off, by have := f.n; simp only; omega⟩, Or.inr (Or.inr ⟨pr, _, rfl, hDo, hl, rfl, Or.inl hk'⟩), ?_, ?_, ?_⟩
      · rw [fx, ef]
      · rw [fx, ef]; simp [pfit]
      · rw [fx, ef]
        have eb2 : chBody ⟨K.tos, K.ttl, K.proto, K.id, K.flags, K.off, s.ip, d.ip, K.opts, mgb (msl (m.id s.port))⟩ ⟨1, s, d, 0, []⟩ ⟨K.src, m.rest / 65536⟩ ⟨K.dst, m.rest / 65536⟩ = mgb m := by
          unfold chBody chMg; rw [if_neg p1, if_neg p2, if_pos pr]; simp only; rw [e2, if_neg (by simp), msl_id hm hsm s.port sp, mgOut_fits hn]
        unfold chPk Pk.to
        rw [eb2, ← hb]
    · have ef : flFl K = ⟨1, ⟨K.src, 0⟩, ⟨K.dst, 0⟩, 0, [inSrc m.body, inDst m.body]⟩ := by unfold flFl mfFl fl0; rw [if_neg p1, if_neg p2, hb, e1, if_neg (by simp [hk1]), if_pos ⟨hk2, hk3⟩, pr]
      have eb : chBody K (flFl K) s d = mgb m := by unfold chBody chMg; rw [ef, if_neg p1, if_neg p2, if_pos pr, hb, e1, if_pos (by simp), msl_self hsm, mgOut_fits hn]
      have ex : chPk K (flFl K) s d = ⟨K.tos, K.ttl, K.proto, K.id, K.flags, K.off, s.ip, d.ip, K.opts, mgb m⟩ := by unfold chPk Pk.to; rw [eb]
      rw [ef] at hp hok ex ⊢
      rw [ex] at hok ⊢
      have hsd : s.port = 0 ∧ d.port = 0 := by simpa [pfit] using hp
      have fx : flFl ⟨K.tos, K.ttl, K.proto, K.id, K.flags, K.off, s.ip, d.ip, K.opts, mgb m⟩ = ⟨1, s, d, 0, [inSrc m.body, inDst m.body]⟩ := by
        unfold flFl mfFl fl0; rw [if_neg p1, if_neg p2]; simp only; rw [e1, if_neg (by simp [hk1]), if_pos ⟨hk2, hk3⟩, pr]
        cases s; cases d; simp only at hsd; obtain ⟨rfl, rfl⟩ := hsd; rfl
      refine ⟨hok, ⟨f.o4, f.o40, f.flags, f.off, by have := f.n; rw [hb] at this; exact this⟩, Or.inr (Or.inr ⟨pr, _, rfl, hm, hn, hsm, Or.inr ⟨hk1, hk2, hk3⟩⟩), ?_, ?_, ?_⟩
      · rw [fx, ef]
      · rw [fx, ef]; simp [pfit]
      · rw [fx, ef]
        have eb2 : chBody ⟨K.tos, K.ttl, K.proto, K.id, K.flags, K.off, s.ip, d.ip, K.opts, mgb m⟩ ⟨1, s, d, 0, [inSrc m.body, inDst m.body]⟩ ⟨K.src, 0⟩ ⟨K.dst, 0⟩ = mgb m := by
          unfold chBody chMg; rw [if_neg p1, if_neg p2, if_pos pr]; simp only; rw [e1, if_pos (by simp), msl_self hsm, mgOut_fits hn]
        unfold chPk Pk.to
        rw [eb2, ← hb]
end Sm
end Go.Proofs.Ytjalpbkfpjfigab
