/-
  Packets that carry what the document asks, as lists of numbers: they are read, changed, read again and changed back.
  The walk of lychlaw8.RewriteHops: it answers true.
  What a packet's few numbers, a point and a slice of bytes that come in are.
-/
import Derived.Test.YtjalpbkfpjfigaaM33
import Derived.Test.YtjalpbkfpjfigaaM34
import Derived.Test.YtjalpbkfpjfigaaM35
import Derived.Test.YtjalpbkfpjfigaaM07
namespace Go.Proofs.Ytjalpbkfpjfigaa
open Go.RowKit
open Sm
set_option linter.unusedVariables false
namespace Sm
/-- What is carried, with its own checksum. -/
def Kd (K : Pk) : Prop :=
  (K.proto = 17 ∧ ∃ D : Dg, K.body = udb D ∧ D.Ok ∧ D.body.length ≤ 65527 ∧ (D.sum = 0 ∨ D.sum = usum K.src K.dst D)) ∨
  (K.proto = 6 ∧ ∃ S : Sg, K.body = tcb S ∧ S.Ok ∧ TFits S ∧ S.sum = tsum K.src K.dst S) ∨
  (K.proto = 1 ∧ ∃ m : Mg, K.body = mgb m ∧ m.Ok ∧ m.body.length ≤ 65507 ∧ m.sum = msum m ∧ (mecho m = true ∨ (mecho m = false ∧ merror m = true ∧ inOk m.body = true)))

theorem ipOut_fits {K : Pk} (f : Fits K) : ipOut K = ipb K := if_pos ((fits_iff K).mpr f)
theorem udOut_fits {D : Dg} (f : D.body.length ≤ 65527) : udOut D = udb D := if_pos ((udbErr_zero D).mpr f)
theorem tcOut_fits {S : Sg} (f : TFits S) : tcOut S = tcb S := if_pos ((tfits_iff S).mpr f)
theorem mgOut_fits {m : Mg} (f : m.body.length ≤ 65507) : mgOut m = mgb m := if_pos ((mfits_iff m).mpr f)
theorem ip_back {K : Pk} (h : K.Ok) (f : Fits K) : ipErr (ipb K) = 0 ∧ ipPk (ipb K) = K ∧ ipRes (ipb K) = K := by
  have a := back_err h f []
  have b := back_pk h f []
  have c := back_res h f []
  rw [List.append_nil] at a b c
  exact ⟨a, b, c⟩

/-- What is read of it. -/
theorem kd_body {K : Pk} (h : K.Ok) (k : Kd K) : bdErr K = 0 ∧ bdRight K = true ∧ flErr K = 0 := by
  have h1 := h.src
  have h2 := h.dst
  rcases k with ⟨hp, D, hb, hD, hn, hs⟩ | ⟨hp, S, hb, hS, hn, hs⟩ | ⟨hp, m, hb, hm, hn, hs, hk⟩
  · have e := back_ures hD hn
    refine ⟨by unfold bdErr; rw [if_pos hp, hb]; exact back_uerr D hn, ?_, by unfold flErr; rw [if_pos hp]⟩
    unfold bdRight
    rw [if_pos hp, hb, e]
    have := uright_at hD hn K.src K.dst h1.1 h2.1 D.sum hD.sum.1 hD.sum.2
    rw [show D.at D.sum = D from rfl] at this
    rw [this]
    rcases hs with hs | hs
    · simp [hs]
    · simp [← hs]
  · have e := back_tres hS hn
    have hp1 : ¬ K.proto = 17 := by omega
    refine ⟨by unfold bdErr; rw [if_neg hp1, if_pos hp, hb]; exact back_terr S hn, ?_, by unfold flErr; rw [if_neg hp1, if_pos hp]⟩
    unfold bdRight
    rw [if_neg hp1, if_pos hp, hb, e]
    have := tright_at hS hn K.src K.dst h1.1 h2.1 S.sum hS.sum.1 hS.sum.2
    rw [show S.at S.sum = S from rfl] at this
    rw [this]
    simp [← hs]
  · have e := back_mres hm
    have hp1 : ¬ K.proto = 17 := by omega
    have hp2 : ¬ K.proto = 6 := by omega
    refine ⟨by unfold bdErr; rw [if_neg hp1, if_neg hp2, if_pos hp, hb]; exact back_merr m, ?_, ?_⟩
    · unfold bdRight
      rw [if_neg hp1, if_neg hp2, hb, e]
      have := mright_own hm ((mfits_iff m).mpr hn)
      rw [← hs, show m.at m.sum = m from rfl] at this
      exact this
    · unfold flErr mfErr
      rw [if_neg hp1, if_neg hp2, hb, e]
      rcases hk with hk | ⟨hk1, hk2, hk3⟩
      · rw [if_pos hk]
      · rw [if_neg (by simp [hk1]), if_pos ⟨hk2, hk3⟩]
theorem kd_look {K : Pk} (h : K.Ok) (f : Fits K) (k : Kd K) : lkErr (ipb K) = 0 ∧ ipPk (ipb K) = K := by
  obtain ⟨a, b, c⟩ := ip_back h f
  obtain ⟨d, e, g⟩ := kd_body h k
  refine ⟨?_, b⟩
  unfold lkErr
  rw [b, a, d, e, g, if_neg (by decide), if_neg (by decide), if_neg (by decide)]

/-- Changed, and changed back. -/
structure Twice (K X : Pk) (s d : Pt) : Prop where
  ok : X.Ok
  fits : Fits X
  kd : Kd X
  fl : flFl X = ⟨(flFl K).proto, s, d, (flFl K).flags, (flFl K).inner⟩
  fit : pfit (flFl X) (flFl K).src (flFl K).dst = true
  back : chPk X (flFl X) (flFl K).src (flFl K).dst = K
theorem usum_to (s d : Int) (u : Dg) (c : Int) : usum s d (u.at c) = usum s d u := rfl
theorem tsum_to (s d : Int) (u : Sg) (c : Int) : tsum s d (u.at c) = tsum s d u := rfl
theorem msum_to (u : Mg) (c : Int) : msum (u.at c) = msum u := rfl
theorem chDg_body (u : Dg) (s d : Pt) : (chDg u s d).body = u.body := by unfold chDg; split <;> rfl
theorem chDg_sum (u : Dg) (s d : Pt) : (chDg u s d).sum = 0 ∨ (chDg u s d).sum = usum s.ip d.ip (chDg u s d) := by
  unfold chDg
  split
  · left; assumption
  · right; rfl
theorem chDg_src (u : Dg) (s d : Pt) : (chDg u s d).src = s.port ∧ (chDg u s d).dst = d.port := by unfold chDg; split <;> exact ⟨rfl, rfl⟩
theorem chDg_none (u : Dg) (hn : u.body.length ≤ 65527) (s d : Pt) : (chDg u s d).sum = 0 ↔ u.sum = 0 := by
  unfold chDg
  by_cases e : u.sum = 0
  · rw [if_pos e]; exact Iff.rfl
  · rw [if_neg e]
    exact ⟨fun h => absurd h (usum_some (u := u.to s d) hn _ _), fun h => absurd h e⟩
theorem chDg_back {u : Dg} (hn : u.body.length ≤ 65527) {x y : Int} (hs : u.sum = 0 ∨ u.sum = usum x y u) (s d : Pt) : chDg (chDg u s d) ⟨x, u.src⟩ ⟨y, u.dst⟩ = u := by
  by_cases e : u.sum = 0
  · have e1 : chDg u s d = u.to s d := if_pos e
    rw [e1]
    have e2 : chDg (u.to s d) ⟨x, u.src⟩ ⟨y, u.dst⟩ = (u.to s d).to ⟨x, u.src⟩ ⟨y, u.dst⟩ := if_pos e
    rw [e2]; rfl
  · have hs' : u.sum = usum x y u := by rcases hs with h | h; exact absurd h e; exact h
    have e1 := mt (chDg_none u hn s d).mp e
    have e2 : chDg (chDg u s d) ⟨x, u.src⟩ ⟨y, u.dst⟩ = ((chDg u s d).to ⟨x, u.src⟩ ⟨y, u.dst⟩).at (usum x y ((chDg u s d).to ⟨x, u.src⟩ ⟨y, u.dst⟩)) := if_neg e1
    have e3 : chDg u s d = (u.to s d).at (usum s.ip d.ip (u.to s d)) := if_neg e
    have e4 : (chDg u s d).to ⟨x, u.src⟩ ⟨y, u.dst⟩ = u.at (usum s.ip d.ip (u.to s d)) := by rw [e3]; rfl
    rw [e2, e4, usum_to, ← hs']
    rfl
theorem chSg_back {u : Sg} {x y : Int} (hs : u.sum = tsum x y u) (s d : Pt) : chSg (chSg u s d) ⟨x, u.src⟩ ⟨y, u.dst⟩ = u := by
  show (u.at (tsum s.ip d.ip (u.to s d))).at (tsum x y (u.at (tsum s.ip d.ip (u.to s d)))) = u
  rw [tsum_to, ← hs]
  rfl
theorem msl_self {m : Mg} (h : m.sum = msum m) : msl m = m := by unfold msl; rw [← h]; rfl
theorem msl_id {m : Mg} (hm : m.Ok) (h : m.sum = msum m) (x : Int) (hx : 0 ≤ x ∧ x ≤ 65535) : msl ((msl (m.id x)).id (m.rest / 65536)) = m := by
  have hr := hm.rest
  have e : (msl (m.id x)).id (m.rest / 65536) = m.at (msum (m.id x)) := by
    have e1 : (m.rest / 65536) * 65536 + (x * 65536 + m.rest % 65536) % 65536 = m.rest := by omega
    show Mg.mk m.typ m.code (msum (m.id x)) ((m.rest / 65536) * 65536 + (x * 65536 + m.rest % 65536) % 65536) m.body = _
    rw [e1]; rfl
  rw [e]
  show (m.at (msum (m.id x))).at (msum (m.at (msum (m.id x)))) = m
  rw [msum_to, ← h]
  rfl
theorem pk_eta (K : Pk) : (⟨K.tos, K.ttl, K.proto, K.id, K.flags, K.off, K.src, K.dst, K.opts, K.body⟩ : Pk) = K := rfl

theorem kd_twice {K : Pk} (h : K.Ok) (f : Fits K) (k : Kd K) {s d : Pt} (hs : s.Ok) (hd : d.Ok) (hp : pfit (flFl K) s d = true) : Twice K (chPk K (flFl K) s d) s d := by
  have hok := chPk_ok h (flFl K) hs hd
  rcases k with ⟨pr, D, hb, hD, hn, hsm⟩ | ⟨pr, S, hb, hS, hn, hsm⟩ | ⟨pr, m, hb, hm, hn, hsm, hk⟩
  · have e1 := back_ures hD hn
    have hl : (chDg D s d).body.length ≤ 65527 := by rw [chDg_body]; exact hn
    have hDo := chDg_ok hD hs hd
    have eb : chBody K (flFl K) s d = udb (chDg D s d) := by unfold chBody; rw [if_pos pr, hb, e1, udOut_fits hl]
    have ef : flFl K = ⟨17, ⟨K.src, D.src⟩, ⟨K.dst, D.dst⟩, 0, []⟩ := by unfold flFl; rw [if_pos pr, hb, e1, pr]
    have ex : chPk K (flFl K) s d = ⟨K.tos, K.ttl, K.proto, K.id, K.flags, K.off, s.ip, d.ip, K.opts, udb (chDg D s d)⟩ := by unfold chPk Pk.to; rw [eb]
    have hlen : (udb (chDg D s d)).length = K.body.length := by rw [hb, udb_len, udb_len, chDg_body]
    rw [ef] at hp hok ex ⊢
    rw [ex] at hok ⊢
    have e2 := back_ures hDo hl
    have fx : flFl ⟨K.tos, K.ttl, K.proto, K.id, K.flags, K.off, s.ip, d.ip, K.opts, udb (chDg D s d)⟩ = ⟨17, s, d, 0, []⟩ := by
      unfold flFl; rw [if_pos pr]; simp only; rw [e2, pr, (chDg_src D s d).1, (chDg_src D s d).2]
    refine ⟨hok, ⟨f.o4, f.o40, f.flags, f.off, by have := f.n; simp only; omega⟩, Or.inl ⟨pr, _, rfl, hDo, hl, chDg_sum D s d⟩, ?_, ?_, ?_⟩
    · rw [fx, ef]
    · rw [fx]; simp [pfit]
    · rw [fx, ef]
      have eb2 : chBody ⟨K.tos, K.ttl, K.proto, K.id, K.flags, K.off, s.ip, d.ip, K.opts, udb (chDg D s d)⟩ ⟨17, s, d, 0, []⟩ ⟨K.src, D.src⟩ ⟨K.dst, D.dst⟩ = udb D := by
        unfold chBody; rw [if_pos pr]; simp only; rw [e2, chDg_back hn hsm, udOut_fits hn]
      unfold chPk Pk.to
      rw [eb2, ← hb]
  · have e1 := back_tres hS hn
    have p1 : ¬ K.proto = 17 := by omega
    have hl : TFits (chSg S s d) := ⟨hn.o4, hn.o40, hn.n⟩
    have hDo := chSg_ok hS hs hd
    have eb : chBody K (flFl K) s d = tcb (chSg S s d) := by unfold chBody; rw [if_neg p1, if_pos pr, hb, e1, tcOut_fits hl]
    have ef : flFl K = ⟨6, ⟨K.src, S.src⟩, ⟨K.dst, S.dst⟩, S.flags, []⟩ := by unfold flFl; rw [if_neg p1, if_pos pr, hb, e1, pr]
    have ex : chPk K (flFl K) s d = ⟨K.tos, K.ttl, K.proto, K.id, K.flags, K.off, s.ip, d.ip, K.opts, tcb (chSg S s d)⟩ := by unfold chPk Pk.to; rw [eb]
    have hlen : (tcb (chSg S s d)).length = K.body.length := by rw [hb, tcb_len, tcb_len]; rfl
    rw [ef] at hp hok ex ⊢
    rw [ex] at hok ⊢
    have e2 := back_tres hDo hl
    have fx : flFl ⟨K.tos, K.ttl, K.proto, K.id, K.flags, K.off, s.ip, d.ip, K.opts, tcb (chSg S s d)⟩ = ⟨6, s, d, S.flags, []⟩ := by
      unfold flFl; rw [if_neg p1, if_pos pr]; simp only; rw [e2, pr]; rfl
    refine ⟨hok, ⟨f.o4, f.o40, f.flags, f.off, by have := f.n; simp only; omega⟩, Or.inr (Or.inl ⟨pr, _, rfl, hDo, hl, rfl⟩), ?_, ?_, ?_⟩
    · rw [fx, ef]
    · rw [fx]; simp [pfit]
    · rw [fx, ef]
      have eb2 : chBody ⟨K.tos, K.ttl, K.proto, K.id, K.flags, K.off, s.ip, d.ip, K.opts, tcb (chSg S s d)⟩ ⟨6, s, d, S.flags, []⟩ ⟨K.src, S.src⟩ ⟨K.dst, S.dst⟩ = tcb S := by
        unfold chBody; rw [if_neg p1, if_pos pr]; simp only; rw [e2, chSg_back hsm, tcOut_fits hn]
      unfold chPk Pk.to
      rw [eb2, ← hb]
  · have e1 := back_mres hm
    have p1 : ¬ K.proto = 17 := by omega
    have p2 : ¬ K.proto = 6 := by omega
    have hr := hm.rest
    have sp := hs.port
    rcases hk with hk | ⟨hk1, hk2, hk3⟩
    · have ef : flFl K = ⟨1, ⟨K.src, m.rest / 65536⟩, ⟨K.dst, m.rest / 65536⟩, 0, []⟩ := by unfold flFl mfFl fl0; rw [if_neg p1, if_neg p2, hb, e1, if_pos hk, pr]
      have hl : (msl (m.id s.port)).body.length ≤ 65507 := hn
      have hDo : (msl (m.id s.port)).Ok := msl_ok ⟨hm.typ, hm.code, hm.sum, ⟨by simp only [Mg.id]; omega, by simp only [Mg.id]; omega⟩, hm.body⟩
      have eb : chBody K (flFl K) s d = mgb (msl (m.id s.port)) := by unfold chBody chMg; rw [ef, if_neg p1, if_neg p2, if_pos pr, hb, e1, if_neg (by simp), mgOut_fits hl]
      have ex : chPk K (flFl K) s d = ⟨K.tos, K.ttl, K.proto, K.id, K.flags, K.off, s.ip, d.ip, K.opts, mgb (msl (m.id s.port))⟩ := by unfold chPk Pk.to; rw [eb]
      have hlen : (mgb (msl (m.id s.port))).length = K.body.length := by rw [hb, mgb_len, mgb_len]; rfl
      have hk' : mecho (msl (m.id s.port)) = true := hk
      rw [ef] at hp hok ex ⊢
      rw [ex] at hok ⊢
      have hsd : s.port = d.port := by simpa [pfit] using hp
      have e2 := back_mres hDo
      have er : (msl (m.id s.port)).rest / 65536 = s.port := by show (s.port * 65536 + m.rest % 65536) / 65536 = s.port; omega
      have fx : flFl ⟨K.tos, K.ttl, K.proto, K.id, K.flags, K.off, s.ip, d.ip, K.opts, mgb (msl (m.id s.port))⟩ = ⟨1, s, d, 0, []⟩ := by
        unfold flFl mfFl fl0; rw [if_neg p1, if_neg p2]; simp only; rw [e2, if_pos hk', pr, er]
        cases s; cases d; simp only at hsd; subst hsd; rfl
      refine ⟨hok, ⟨f.o4, f.o40, f.flags, f.off, by have := f.n; simp only; omega⟩, Or.inr (Or.inr ⟨pr, _, rfl, hDo, hl, rfl, Or.inl hk'⟩), ?_, ?_, ?_⟩
      · rw [fx, ef]
      · rw [fx, ef]; simp [pfit]
      · rw [fx, ef]
        have eb2 : chBody ⟨K.tos, K.ttl, K.proto, K.id, K.flags, K.off, s.ip, d.ip, K.opts, mgb (msl (m.id s.port))⟩ ⟨1, s, d, 0, []⟩ ⟨K.src, m.rest / 65536⟩ ⟨K.dst, m.rest / 65536⟩ = mgb m := by
          unfold chBody chMg; rw [if_neg p1, if_neg p2, if_pos pr]; simp only; rw [e2, if_neg (by simp), msl_id hm hsm s.port sp, mgOut_fits hn]
        unfold chPk Pk.to
        rw [eb2, ← hb]
    · have ef : flFl K = ⟨1, ⟨K.src, 0⟩, ⟨K.dst, 0⟩, 0, [inSrc m.body, inDst m.body]⟩ := by unfold flFl mfFl fl0; rw [if_neg p1, if_neg p2, hb, e1, if_neg (by simp [hk1]), if_pos ⟨hk2, hk3⟩, pr]
      have eb : chBody K (flFl K) s d = mgb m := by unfold chBody chMg; rw [ef, if_neg p1, if_neg p2, if_pos pr, hb, e1, if_pos (by simp), msl_self hsm, mgOut_fits hn]
      have ex : chPk K (flFl K) s d = ⟨K.tos, K.ttl, K.proto, K.id, K.flags, K.off, s.ip, d.ip, K.opts, mgb m⟩ := by unfold chPk Pk.to; rw [eb]
      rw [ef] at hp hok ex ⊢
      rw [ex] at hok ⊢
      have hsd : s.port = 0 ∧ d.port = 0 := by simpa [pfit] using hp
      have fx : flFl ⟨K.tos, K.ttl, K.proto, K.id, K.flags, K.off, s.ip, d.ip, K.opts, mgb m⟩ = ⟨1, s, d, 0, [inSrc m.body, inDst m.body]⟩ := by
        unfold flFl mfFl fl0; rw [if_neg p1, if_neg p2]; simp only; rw [e1, if_neg (by simp [hk1]), if_pos ⟨hk2, hk3⟩, pr]
        cases s; cases d; simp only at hsd; obtain ⟨rfl, rfl⟩ := hsd; rfl
      refine ⟨hok, ⟨f.o4, f.o40, f.flags, f.off, by have := f.n; rw [hb] at this; exact this⟩, Or.inr (Or.inr ⟨pr, _, rfl, hm, hn, hsm, Or.inr ⟨hk1, hk2, hk3⟩⟩), ?_, ?_, ?_⟩
      · rw [fx, ef]
      · rw [fx, ef]; simp [pfit]
      · rw [fx, ef]
        have eb2 : chBody ⟨K.tos, K.ttl, K.proto, K.id, K.flags, K.off, s.ip, d.ip, K.opts, mgb m⟩ ⟨1, s, d, 0, [inSrc m.body, inDst m.body]⟩ ⟨K.src, 0⟩ ⟨K.dst, 0⟩ = mgb m := by
          unfold chBody chMg; rw [if_neg p1, if_neg p2, if_pos pr]; simp only; rw [e1, if_pos (by simp), msl_self hsm, mgOut_fits hn]
        unfold chPk Pk.to
        rw [eb2, ← hb]
end Sm
end Go.Proofs.Ytjalpbkfpjfigaa

namespace Go.Proofs.Ytjalpbkfpjfigaa
open Go.RowKit
open Sm
set_option linter.unusedVariables false
set_option maxRecDepth 20000

set_option maxHeartbeats 2000000 in
theorem hops_long {w : World} (a : Option Addr) (n c : Nat) (P : Pa) (side : Int) (h : 2000 < n) :
    Calls Try.prog 3 #[.slice a n c, .agg (paB P), .int .u8 side] w fun e w' => e = .returned (.bool true) ∧ Below w.heap.size w w' := by
  have hk := rknown_any (w.alloc (.cells (paB P) paT))
  have h1 : (2000 : Int) < n := by omega
  have HB : Hid (Below w.heap.size w (w.alloc (.cells (paB P) paT))) := (Below.refl _ _).alloc (Nat.le_refl _) _
  clear h
  go_enter Try.func3, Try.ntmps3
  go_wp2_with fail
  refine hk.mono ?_
  rintro e w2 ⟨rfl, hbel⟩
  have HB2 : Hid (Below w.heap.size w w2) := HB.out.trans (hbel.mono HB.out.size)
  clear hk hbel
  go_wp2_with fail
  go_ret
  exact ⟨rfl, HB2.out⟩

namespace Sm
theorem hopOut_facts {l : List Int} (h : IsBytes l) : IsBytes (hopOut l) ∧ (hopOut l).length ≤ 65535 := hopOut_bytes h
end Sm

set_option maxHeartbeats 4000000 in
theorem hops_core {w : World} {a : Option Addr} {n c : Nat} {l : List Int} (hr : Row w a l) (hn : l.length = n) (hc : n ≤ c) (h1 : n ≤ 2000) (P : Pa) (hP : P.Ok) (side : Int) (s0 : 0 ≤ side) (s1 : side ≤ 255) :
    Calls Try.prog 3 #[.slice a n c, .agg (paB P), .int .u8 side] w fun e w' => e = .returned (.bool true) ∧ Below w.heap.size w w' := by
  have hk := rknown_any (w.alloc (.cells (paB P) paT))
  have h1' : (n : Int) ≤ 2000 := by omega
  have hst : side.tmod 2 = side % 2 := Int.tmod_eq_emod_of_nonneg s0
  have hsw := wrap64_small (side % 2) (by omega) (by omega)
  have HS : Hid (side % 2 = 0 ∨ side % 2 = 1) := by show _ ∨ _; omega
  have HR : Hid (∀ W, Below w.heap.size w W → Row W a l) := fun W hb => hr.below hb (Nat.le_refl _)
  have HN : Hid (l.length = n ∧ n ≤ c ∧ P.Ok ∧ IsBytes l) := ⟨hn, hc, hP, hr.bytes⟩
  have HM1 : Hid (Mem w (w.alloc (.cells (paB P) paT)) [(w.heap.size, .cells (paB P) paT)]) := (Mem.nil w).push1 rfl
  have hof := hopOut_facts hr.bytes
  obtain ⟨E, hE⟩ : ∃ E, hopErr l = E := ⟨_, rfl⟩
  obtain ⟨L, hL⟩ : ∃ L, hopOut l = L := ⟨_, rfl⟩
  obtain ⟨nL, hnL⟩ : ∃ n, L.length = n := ⟨_, rfl⟩
  rw [hL] at hof
  have HE : Hid (hopErr l = E ∧ hopOut l = L ∧ L.length = nL ∧ IsBytes L ∧ L.length ≤ 65535) := ⟨hE, hL, hnL, hof.1, hof.2⟩
  clear hr hn hc h1 hP hof hE hL hnL
  generalize side % 2 = sd at *
  go_enter Try.func3, Try.ntmps3
  go_wp2_with fail
  refine hk.mono ?_
  rintro e w2 ⟨rfl, hbel⟩
  have HM2 : Hid (Mem w w2 [(w.heap.size, .cells (paB P) paT)]) := HM1.out.after hbel
  have hH := hop_any (HR.out w2 HM2.out.below) HN.out.1 HN.out.2.1
  rw [HE.out.1, HE.out.2.1, HE.out.2.2.1] at hH
  clear hk hbel HM1
  go_wp2_with fail
  refine hH.mono ?_
  rintro e w3 ⟨u1, rfl, ho1, hb3⟩
  have HM3 : Hid (Mem w w3 [(w.heap.size, .cells (paB P) paT)]) := HM2.out.after hb3
  have HO1 : Hid _ := ho1
  have hH2 := rhop_any (HR.out w3 HM3.out.below) HN.out.1 HN.out.2.1
  rw [HE.out.1, HE.out.2.1, HE.out.2.2.1] at hH2
  clear hH ho1 hb3 HM2
  go_wp2_with fail
  refine hH2.mono ?_
  rintro e w4 ⟨u2, rfl, ho2, hb4⟩
  have HM4 : Hid (Mem w w4 [(w.heap.size, .cells (paB P) paT)]) := HM3.out.after hb4
  have HO : Hid (w4.ownsRow 0 5 1 u1 nL (L.map (Value.int .u8)) ∧ w4.ownsRow 0 5 1 u2 nL (L.map (Value.int .u8))) := ⟨own_base (own_after HO1.out hb4 (Nat.le_refl _)) (Nat.zero_le _), own_base ho2 (Nat.zero_le _)⟩
  have hPk := packet_any w4 P HN.out.2.2.1 sd 0 HS.out ⟨by omega, by omega⟩
  have kc : ∀ i, w4.cell? ⟨w.heap.size, i, none⟩ = (paB P)[i]? := HM4.out.cell 0 rfl
  have hpf := pktb_facts HN.out.2.2.1 (side := sd) (k := 0) ⟨by omega, by omega⟩
  obtain ⟨B, hB⟩ : ∃ B, pktb P sd 0 = B := ⟨_, rfl⟩
  obtain ⟨nB, hnB⟩ : ∃ n, B.length = n := ⟨_, rfl⟩
  rw [hB] at hPk hpf
  rw [hnB] at hPk
  have HB : Hid (B.length = nB ∧ IsBytes B ∧ B.length ≤ 65535) := ⟨hnB, hpf⟩
  clear hH2 ho2 hb4 HM3 HO1 hB hnB hpf
  go_wp2_with fail
  refine hPk.mono ?_
  rintro e w5 ⟨u3, rfl, ho3, hb5⟩
  have HM5 : Hid (Mem w w5 [(w.heap.size, .cells (paB P) paT)]) := HM4.out.after hb5
  have HO5 : Hid (w5.ownsRow 0 5 1 u1 nL (L.map (Value.int .u8)) ∧ w5.ownsRow 0 5 1 u2 nL (L.map (Value.int .u8))) := ⟨own_after HO.out.1 hb5 (Nat.le_refl _), own_after HO.out.2 hb5 (Nat.le_refl _)⟩
  obtain ⟨a3, c3, rfl, hr3, hn3, hf3, hc3⟩ := own_read ho3 HB.out.1 HB.out.2.1 (by have := HB.out; omega)
  have HR3 : Hid (∀ W, Below w5.heap.size w5 W → Row W a3 B) := fun W hb => hr3.below hb (Nat.le_refl _)
  have HC3 : Hid (nB ≤ c3) := hc3
  have hH := hop_any hr3 HB.out.1 hc3
  have hof := hopOut_facts HB.out.2.1
  obtain ⟨F, hF⟩ : ∃ E, hopErr B = E := ⟨_, rfl⟩
  obtain ⟨K, hK⟩ : ∃ L, hopOut B = L := ⟨_, rfl⟩
  obtain ⟨nK, hnK⟩ : ∃ n, K.length = n := ⟨_, rfl⟩
  rw [hK] at hof
  have HF : Hid (hopErr B = F ∧ hopOut B = K ∧ K.length = nK ∧ IsBytes K ∧ K.length ≤ 65535) := ⟨hF, hK, hnK, hof.1, hof.2⟩
  rw [hF, hK, hnK] at hH
  clear hPk ho3 hb5 HM4 HO kc hr3 hn3 hf3 hc3 hof hF hK hnK
  go_wp2_with fail
  refine hH.mono ?_
  rintro e w6 ⟨u4, rfl, ho4, hb6⟩
  have HM6 : Hid (Mem w w6 [(w.heap.size, .cells (paB P) paT)]) := HM5.out.after hb6
  have HO6 : Hid (w6.ownsRow 0 5 1 u1 nL (L.map (Value.int .u8)) ∧ w6.ownsRow 0 5 1 u2 nL (L.map (Value.int .u8)) ∧ w6.ownsRow 0 5 1 u4 nK (K.map (Value.int .u8))) := ⟨own_after HO5.out.1 hb6 (Nat.le_refl _), own_after HO5.out.2 hb6 (Nat.le_refl _), own_base ho4 (Nat.zero_le _)⟩
  have hH2 := rhop_any (HR3.out w6 hb6) HB.out.1 HC3.out
  rw [HF.out.1, HF.out.2.1, HF.out.2.2.1] at hH2
  clear hH ho4 hb6 HM5 HO5
  go_wp2_with fail
  refine hH2.mono ?_
  rintro e w7 ⟨u5, rfl, ho5, hb7⟩
  have HB7 : Hid (Below w.heap.size w w7) := (HM6.out.after hb7).below
  obtain ⟨a1, c1, rfl, hr1, -⟩ := own_read (own_after HO6.out.1 hb7 (Nat.le_refl _)) HE.out.2.2.1 HE.out.2.2.2.1 (by have := HE.out; omega)
  obtain ⟨a2, c2, rfl, hr2, -⟩ := own_read (own_after HO6.out.2.1 hb7 (Nat.le_refl _)) HE.out.2.2.1 HE.out.2.2.2.1 (by have := HE.out; omega)
  obtain ⟨a4, c4, rfl, hr4, -⟩ := own_read (own_after HO6.out.2.2 hb7 (Nat.le_refl _)) HF.out.2.2.1 HF.out.2.2.2.1 (by have := HF.out; omega)
  obtain ⟨a5, c5, rfl, hr5, -⟩ := own_read ho5 HF.out.2.2.1 HF.out.2.2.2.1 (by have := HF.out; omega)
  have hh := hbytes_yes hr1 hr2 nL nL HE.out.2.2.1 HE.out.2.2.1 c1 c2
  have hh2 := hbytes_yes hr4 hr5 nK nK HF.out.2.2.1 HF.out.2.2.1 c4 c5
  have HH2 : Hid (Calls Try.prog 10 #[.slice a4 nK c4, .slice a5 nK c5] w7 fun e w' => e = .returned (.bool true) ∧ w7 = w') := hh2
  clear hH2 ho5 hb7 HM6 HO6 hr1 hr2 hr4 hr5 hh2
  go_wp2_with fail
  refine hh.mono ?_
  rintro e w' ⟨rfl, rfl⟩
  clear hh
  go_wp2_with fail
  refine HH2.out.mono ?_
  rintro e w' ⟨rfl, rfl⟩
  go_wp2_with fail
  go_ret
  exact ⟨rfl, HB7.out⟩
end Go.Proofs.Ytjalpbkfpjfigaa

namespace Go.Proofs.Ytjalpbkfpjfigaa
open Go.ChangeShapes Go.WideShapes Go.ChangeAt Go.RowKit Go.Joins
open Sm
set_option linter.unusedVariables false
set_option maxRecDepth 100000

theorem array2 {α : Type} {cs : Array α} (h : cs.size = 2) : ∃ c0 c1, cs = #[c0, c1] := by
  obtain ⟨l⟩ := cs
  simp only [List.size_toArray] at h
  rcases l with _ | ⟨c0, l⟩
  · simp at h
  rcases l with _ | ⟨c1, l⟩
  · simp at h
  rcases l with _ | ⟨c2, l⟩
  · exact ⟨c0, c1, rfl⟩
  · simp at h

section
variable {H : Type} {enc : TypeId × Value → H} {W : World} {base : Nat} {held : Bool}
theorem trod_struct2 {t : TypeId} {f0 f1 : Field} {fuel : Nat} {cs : List Value} {x : DataW H × List MemPlace} (ht : Try.prog.underlying t = some (.struct #[f0, f1])) (h : DataW.trod enc Try.prog W base (fun _ => true) held fuel t cs = some x) :
    ∃ y0 y1 n, DataW.trod enc Try.prog W base (fun _ => true) held n f0.type ((cs.drop f0.offset).take (Try.prog.cellsOf f0.type)) = some y0 ∧ DataW.trod enc Try.prog W base (fun _ => true) held n f1.type ((cs.drop f1.offset).take (Try.prog.cellsOf f1.type)) = some y1 := by
  obtain ⟨xs, n, _, _, hl, hlen, hf⟩ := DataW.trod_struct ht h
  match xs, hlen with
  | [y0, y1], _ => exact ⟨y0, y1, n, by simpa using hf 0 f0 rfl, by simpa using hf 1 f1 rfl⟩
theorem open_point {r : Reach} {b0 : Nat} {v : Value} {d : DataW H} {p : List MemPlace} (hv : Value.okWide Try.prog W r b0 ptT v) (h : DataW.Trod enc Try.prog W base (fun _ => true) held ptT v d p) :
    ∃ s : Pt, v = .agg (ptA s) ∧ s.Ok := by
  obtain ⟨cs, rfl, hsz⟩ := okWide_struct Try.underlying37 hv
  rw [show Try.prog.cellsOf 37 = 2 by kernel_rfl] at hsz
  obtain ⟨c0, c1, rfl⟩ := array2 hsz
  obtain ⟨fuel, hf⟩ := h
  obtain ⟨y0, y1, n, h0, h1⟩ := trod_struct2 Try.underlying37 hf
  have k0 : DataW.trod enc Try.prog W base (fun _ => true) held n 34 [c0] = some y0 := by
    have := h0; simp only [show Try.prog.cellsOf 34 = 1 by kernel_rfl] at this; exact this
  have k1 : DataW.trod enc Try.prog W base (fun _ => true) held n 35 [c1] = some y1 := by
    have := h1; simp only [show Try.prog.cellsOf 35 = 1 by kernel_rfl] at this; exact this
  obtain ⟨x0, rfl, q0⟩ := open_cell Try.underlying34 k0
  obtain ⟨x1, rfl, q1⟩ := open_cell Try.underlying35 k1
  exact ⟨⟨x0, x1⟩, rfl, bounds_u32 q0, bounds_u16 q1⟩
theorem open_pack {r : Reach} {b0 : Nat} {v : Value} {d : DataW H} {p : List MemPlace} (hv : Value.okWide Try.prog W r b0 paT v) (h : DataW.Trod enc Try.prog W base (fun _ => true) held paT v d p) :
    ∃ P : Pa, v = .agg (paB P) ∧ P.Ok := by
  obtain ⟨cs, rfl, hsz⟩ := okWide_struct Try.underlying24 hv
  rw [show Try.prog.cellsOf 24 = 10 by kernel_rfl] at hsz
  obtain ⟨c0, c1, c2, c3, c4, c5, c6, c7, c8, c9, rfl⟩ := array10 hsz
  obtain ⟨fuel, hf⟩ := h
  obtain ⟨y0, y1, y2, y3, y4, y5, y6, y7, y8, y9, n, h0, h1, h2, h3, h4, h5, h6, h7, h8, h9⟩ := trod_struct10 Try.underlying24 hf
  have k0 : DataW.trod enc Try.prog W base (fun _ => true) held n 5 [c0] = some y0 := by
    have := h0; simp only [show Try.prog.cellsOf 5 = 1 by kernel_rfl] at this; exact this
  have k1 : DataW.trod enc Try.prog W base (fun _ => true) held n 5 [c1] = some y1 := by
    have := h1; simp only [show Try.prog.cellsOf 5 = 1 by kernel_rfl] at this; exact this
  have k2 : DataW.trod enc Try.prog W base (fun _ => true) held n 5 [c2] = some y2 := by
    have := h2; simp only [show Try.prog.cellsOf 5 = 1 by kernel_rfl] at this; exact this
  have k3 : DataW.trod enc Try.prog W base (fun _ => true) held n 5 [c3] = some y3 := by
    have := h3; simp only [show Try.prog.cellsOf 5 = 1 by kernel_rfl] at this; exact this
  have k4 : DataW.trod enc Try.prog W base (fun _ => true) held n 5 [c4] = some y4 := by
    have := h4; simp only [show Try.prog.cellsOf 5 = 1 by kernel_rfl] at this; exact this
  have k5 : DataW.trod enc Try.prog W base (fun _ => true) held n 5 [c5] = some y5 := by
    have := h5; simp only [show Try.prog.cellsOf 5 = 1 by kernel_rfl] at this; exact this
  have k6 : DataW.trod enc Try.prog W base (fun _ => true) held n 5 [c6] = some y6 := by
    have := h6; simp only [show Try.prog.cellsOf 5 = 1 by kernel_rfl] at this; exact this
  have k7 : DataW.trod enc Try.prog W base (fun _ => true) held n 5 [c7] = some y7 := by
    have := h7; simp only [show Try.prog.cellsOf 5 = 1 by kernel_rfl] at this; exact this
  have k8 : DataW.trod enc Try.prog W base (fun _ => true) held n 5 [c8] = some y8 := by
    have := h8; simp only [show Try.prog.cellsOf 5 = 1 by kernel_rfl] at this; exact this
  have k9 : DataW.trod enc Try.prog W base (fun _ => true) held n 5 [c9] = some y9 := by
    have := h9; simp only [show Try.prog.cellsOf 5 = 1 by kernel_rfl] at this; exact this
  obtain ⟨x0, rfl, q0⟩ := open_cell Try.underlying5 k0
  obtain ⟨x1, rfl, q1⟩ := open_cell Try.underlying5 k1
  obtain ⟨x2, rfl, q2⟩ := open_cell Try.underlying5 k2
  obtain ⟨x3, rfl, q3⟩ := open_cell Try.underlying5 k3
  obtain ⟨x4, rfl, q4⟩ := open_cell Try.underlying5 k4
  obtain ⟨x5, rfl, q5⟩ := open_cell Try.underlying5 k5
  obtain ⟨x6, rfl, q6⟩ := open_cell Try.underlying5 k6
  obtain ⟨x7, rfl, q7⟩ := open_cell Try.underlying5 k7
  obtain ⟨x8, rfl, q8⟩ := open_cell Try.underlying5 k8
  obtain ⟨x9, rfl, q9⟩ := open_cell Try.underlying5 k9
  exact ⟨⟨x0, x1, x2, x3, x4, x5, x6, x7, x8, x9⟩, rfl, bounds_u8 q0, bounds_u8 q1, bounds_u8 q2, bounds_u8 q3, bounds_u8 q4, bounds_u8 q5, bounds_u8 q6, bounds_u8 q7, bounds_u8 q8, bounds_u8 q9⟩
theorem open_slice {r : Reach} {b0 : Nat} {v : Value} {d : DataW H} {p : List MemPlace} (hv : Value.okWide Try.prog W r b0 22 v) (h : DataW.Trod enc Try.prog W base (fun _ => true) held 22 v d p) :
    ∃ a len cap l, v = .slice a len cap ∧ (len ≤ 140737488351232 → Row W a l ∧ l.length = len ∧ len ≤ cap) := by
  obtain ⟨a, len, cap, rfl⟩ := okWide_slice Try.underlying22 hv
  obtain ⟨fuel, hf⟩ := h
  rcases open_ints Try.underlying22 Try.underlying5 (by kernel_rfl) hf with ⟨hcs, _⟩ | ⟨x, l, c, zs, hcs, _, hl, hm, hz, _, hcell, hwz⟩
  · simp [Value.cells] at hcs
    obtain ⟨rfl, rfl, rfl⟩ := hcs
    exact ⟨none, 0, 0, [], rfl, fun _ => ⟨row_nil W, rfl, Nat.le_refl _⟩⟩
  · simp [Value.cells] at hcs
    obtain ⟨rfl, rfl, rfl⟩ := hcs
    refine ⟨some x, len, cap, zs.take len, rfl, fun h2 => ?_⟩
    obtain ⟨hrow, hlen⟩ := row_of hl (by simpa using hz) hcell (fun n hn => bounds_u8 (hwz n hn)) h2
    exact ⟨hrow, hlen, hl⟩
end
end Go.Proofs.Ytjalpbkfpjfigaa

