/-
  What the document's own lychref8.Change answers, whatever bytes and points it is handed.
-/
import Derived.Test.YtjalpbkfpjfigaaGreatM41
import Derived.Test.YtjalpbkfpjfigaaGreatM34
import Derived.Test.YtjalpbkfpjfigaaGreatM35
import Derived.Test.YtjalpbkfpjfigaaGreatM25
import Derived.Test.YtjalpbkfpjfigaaGreatM11
import Derived.Test.YtjalpbkfpjfigaaGreatM13
namespace Go.Proofs.YtjalpbkfpjfigaaGreat
open Go.RowKit
open Sm
set_option linter.unusedVariables false
set_option maxRecDepth 20000

namespace Sm
theorem ud_len {l : List Int} (h : udErr l = 0) : 8 + (udRes l).body.length ≤ l.length := by
  have e : udRes l = udDg l := if_pos h
  rw [e]
  unfold udErr at h
  split at h
  · omega
  · split at h
    · omega
    · split at h
      · omega
      · simp only [udDg, List.length_take, List.length_drop]; omega
theorem mg_len8 {l : List Int} (h : mgErr l = 0) : 8 + (mgRes l).body.length ≤ l.length := by
  have e : mgRes l = mgMg l := if_pos h
  rw [e]
  unfold mgErr at h
  split at h
  · omega
  · simp only [mgMg, List.length_take, List.length_drop]; omega
theorem tc_len {l : List Int} (h : tcErr l = 0) : 20 + (tcRes l).opts.length + (tcRes l).body.length ≤ l.length := by
  have e : tcRes l = tcSg l := if_pos h
  rw [e]
  unfold tcErr at h
  split at h
  · omega
  · split at h
    · omega
    · split at h
      · omega
      · simp only [tcSg, List.length_take, List.length_drop]; omega
theorem chBody_len {p : Pk} (f : Fl) (s d : Pt) (h : bdErr p = 0) : (chBody p f s d).length ≤ p.body.length := by
  rcases bd_kind h with ⟨k, e⟩ | ⟨k, e⟩ | ⟨k, e⟩
  · have := ud_len e
    have hb : (chDg (udRes p.body) s d).body = (udRes p.body).body := by unfold chDg; split <;> rfl
    unfold chBody
    rw [if_pos k]
    unfold udOut
    split
    · rw [udb_len, hb]; omega
    · simp
  · have := tc_len e
    unfold chBody
    rw [if_neg (by omega), if_pos k]
    unfold tcOut
    split
    · rw [tcb_len]; show 20 + (tcRes p.body).opts.length + (tcRes p.body).body.length ≤ _; omega
    · simp
  · have := mg_len8 e
    have hb : (msl (chMg f (mgRes p.body) s)).body = (mgRes p.body).body := by unfold chMg; split <;> rfl
    unfold chBody
    rw [if_neg (by omega), if_neg (by omega), if_pos k]
    unfold mgOut
    split
    · rw [mgb_len]; unfold mlen; rw [hb]; omega
    · simp
theorem ch_err {l : List Int} (h : IsBytes l) (h0 : lkErr l = 0) (s d : Pt) : ipbErr (chPk (ipPk l) (flFl (ipPk l)) s d) = 0 := by
  obtain ⟨a, b, -, -⟩ := lk_parts h0
  have f := (pk_fits h a).1
  have := chBody_len (flFl (ipPk l)) s d b
  refine (fits_iff _).mpr ⟨f.o4, f.o40, f.flags, f.off, ?_⟩
  have := f.n
  show 20 + (ipPk l).opts.length + (chBody (ipPk l) (flFl (ipPk l)) s d).length ≤ 65535
  omega
end Sm

set_option maxHeartbeats 2000000 in
theorem rchange_no {w : World} {a : Option Addr} {n c : Nat} {l : List Int} (hr : Row w a l) (hn : l.length = n) (hc : n ≤ c) (s d : Pt) (h0 : lkErr l ≠ 0) :
    Calls Tryz.prog 10 #[.slice a n c, .agg (ptA s), .agg (ptA d)] w fun e w' => e = .returned (.tuple #[.slice none 0 0, .int .i64 (lkErr l)]) ∧ Below w.heap.size w w' := by
  have hM : Mem w ((w.alloc (.cells (ptA s) ptT)).alloc (.cells (ptA d) ptT)) [(w.heap.size, .cells (ptA s) ptT), (w.heap.size + 1, .cells (ptA d) ptT)] := ((Mem.nil w).push1 rfl).push2 (by simp)
  have hL : Calls Tryz.prog 16 #[.slice a n c] _ fun e w' => e = .returned (.tuple #[.agg ip0, .agg flZ, .int .i64 (lkErr l)]) ∧ Below _ _ w' := (rLook_any (hM.row hr) hn hc).mono (by
    rintro e w' (⟨-, h, hb⟩ | ⟨h, -⟩)
    · exact ⟨h, hb⟩
    · exact absurd h h0)
  have HM : Hid _ := hM
  clear hM hr hn hc
  generalize lkErr l = E at *
  have h0' : (E == 0) = false := by simp [h0]
  have h0'' : (E != 0) = true := bne_iff_ne.mpr h0
  go_enter Tryz.func10, Tryz.ntmps10
  go_wp2_with fail
  refine hL.mono ?_
  rintro e w1 ⟨rfl, hb1⟩
  have HB : Hid (Below w.heap.size w w1) := HM.out.below.trans (hb1.mono HM.out.below.size)
  clear hL hb1 HM
  go_upto_region 2 with fail
  refine wp_letter (fun W => Below w.heap.size w W) ((HB.out.alloc HB.out.size _).alloc (by have := HB.out.size; simp; omega) _) ?_
  intro w2 hb2
  have HB2 : Hid (Below w.heap.size w w2) := hb2
  clear hb2 HB
  go_wp2_with fail
  go_ret2
  exact ⟨rfl, HB2.out⟩

set_option maxHeartbeats 8000000 in
theorem rchange_yes {w : World} {a : Option Addr} {n c : Nat} {l : List Int} (hr : Row w a l) (hn : l.length = n) (hc : n ≤ c) (s d : Pt) (hs : s.Ok) (hd : d.Ok) (h0 : lkErr l = 0) :
    Calls Tryz.prog 10 #[.slice a n c, .agg (ptA s), .agg (ptA d)] w fun e w' => ∃ u, e = .returned (.tuple #[u, .int .i64 (chErr l s d)]) ∧ w'.ownsRow w.heap.size 5 1 u (chOut l s d).length ((chOut l s d).map (Value.int .u8)) ∧ Below w.heap.size w w' := by
  have hM : Mem w ((w.alloc (.cells (ptA s) ptT)).alloc (.cells (ptA d) ptT)) [(w.heap.size, .cells (ptA s) ptT), (w.heap.size + 1, .cells (ptA d) ptT)] := ((Mem.nil w).push1 rfl).push2 (by simp)
  have hL := rLook_any (hM.row hr) hn hc
  have hok : (ipPk l).Ok := by have := ipRes_ok hr.bytes; rwa [show ipRes l = ipPk l from if_pos (lk_parts h0).1] at this
  have HO : Hid ((ipPk l).Ok ∧ s.Ok ∧ d.Ok ∧ (ipPk l).body.length ≤ 65535) := ⟨hok, hs, hd, by have := (pk_fits hr.bytes (lk_parts h0).1).1.n; omega⟩
  have HZ : Hid (∀ W W' e, RlV W W' l e → ∃ ao bo ia co cb ic, e = .returned (.tuple #[.agg (ipB (ipPk l) (.slice ao (ipPk l).opts.length co) (.slice bo (ipPk l).body.length cb)), .agg (flB (flFl (ipPk l)) (.slice ia (flFl (ipPk l)).inner.length ic)), .int .i64 0]) ∧
    IpV W' W.heap.size (.agg (ipB (ipPk l) (.slice ao (ipPk l).opts.length co) (.slice bo (ipPk l).body.length cb))) (ipPk l) ∧ (ipPk l).body.length ≤ cb ∧ Below W.heap.size W W') := fun W W' e h => by
    rcases h with ⟨h, -⟩ | ⟨-, ao, bo, ia, co, cb, ic, h1, h2, h3, -, h4⟩
    · exact absurd h0 h
    · exact ⟨ao, bo, ia, co, cb, ic, h1, h2, h3, h4⟩
  have HE : Hid (chErr l s d = if pfit (flFl (ipPk l)) s d = false then 21 else 0) := by
    show _ = _
    unfold chErr
    rw [if_neg (by omega), ch_err hr.bytes h0]
  have HU : Hid (chOut l s d = if pfit (flFl (ipPk l)) s d = false then [] else ipOut (chPk (ipPk l) (flFl (ipPk l)) s d)) := by show _ = _; unfold chOut; rw [if_neg (by omega)]
  have HBd : Hid (bdErr (ipPk l) = 0) := (lk_parts h0).2.1
  have HPF : Hid (∀ f, flFl (ipPk l) = f → f.proto = (ipPk l).proto ∧ ((ipPk l).proto ≠ 1 → f.inner = [])) := fun f hf => by
    subst hf
    obtain ⟨-, b, -, e⟩ := lk_parts h0
    unfold flErr at e
    unfold flFl
    rcases bd_kind b with ⟨k, -⟩ | ⟨k, -⟩ | ⟨k, -⟩
    · rw [if_pos k]; exact ⟨rfl, fun _ => rfl⟩
    · rw [if_neg (by omega), if_pos k]; exact ⟨rfl, fun _ => rfl⟩
    · rw [if_neg (by omega), if_neg (by omega)] at e ⊢
      unfold mfErr at e
      unfold mfFl fl0
      split
      · exact ⟨rfl, fun h => absurd k h⟩
      · split
        · exact ⟨rfl, fun h => absurd k h⟩
        · rename_i h1 h2
          rw [if_neg h1, if_neg h2] at e
          omega
  have HM : Hid _ := hM
  clear hM hr hn hc h0 hok hs hd
  generalize chErr l s d = EE at *
  generalize chOut l s d = UU at *
  generalize ipPk l = p at *
  obtain ⟨f, hff⟩ : ∃ f, flFl p = f := ⟨_, rfl⟩
  have HP := HPF.out f hff
  have HPP : Hid (f.proto = p.proto ∧ (p.proto ≠ 1 → f.inner = [])) := HP
  rw [hff] at HZ HE HU
  clear HPF HP hff
  generalize hno : p.opts.length = no at *
  generalize hnb : p.body.length = nb at *
  generalize hni : f.inner.length = ni at *
  have HNO : Hid (p.opts.length = no ∧ p.body.length = nb ∧ f.inner.length = ni) := ⟨hno, hnb, hni⟩
  clear hno hnb hni
  go_enter Tryz.func10, Tryz.ntmps10
  go_wp2_with fail
  refine hL.mono ?_
  rintro e w1 hrl
  obtain ⟨ao, bo, ia, co, cb, ic, rfl, hv1, hcap, hb1⟩ := HZ.out _ _ _ hrl
  have hM1 := HM.out.after hb1
  have HV1 : Hid (IpV w1 0 (.agg (ipB p (.slice ao no co) (.slice bo nb cb))) p) := hv1.mono (Nat.zero_le _)
  have HC : Hid (nb ≤ cb) := hcap
  clear hL hb1 hv1 hcap hrl HZ HM
  go_upto_region 2 with fail
  obtain ⟨Q, hQ⟩ : ∃ Q, w1.heap.size = Q := ⟨_, rfl⟩
  rw [hQ]
  have HFa : Hid (Far Q ao p.opts) := far_low (ipv_rows HV1.out).1 (by omega)
  have HNl : Hid (ao = none → co = 0) := by
    have := HV1.out
    obtain ⟨ao', co', bo', cb', e, -, -, h3, -⟩ := this
    simp only [ipA, Value.agg.injEq, Array.mk.injEq, List.cons.injEq, true_and, and_true, Value.slice.injEq] at e
    obtain ⟨⟨rfl, -, rfl⟩, -⟩ := e
    exact h3
  refine wp_letter (fun W => Mem w W [(w.heap.size, .cells (ptA s) ptT), (w.heap.size + 1, .cells (ptA d) ptT), (Q, .cells (ipB p (.slice ao no co) (.slice bo nb cb)) ipT), (Q + 1, .cells (flB f (.slice ia ni ic)) rfT)] ∧ IpV W 0 (.agg (ipB p (.slice ao no co) (.slice bo nb cb))) p) ⟨by rw [← hQ]; exact (hM1.push3 rfl).push4 (by simp), (HV1.out.below ((Below.refl _ _).alloc (Nat.le_refl _) _) (Nat.le_refl _)).below ((Below.refl _ _).alloc (Nat.le_refl _) _) (Nat.le_refl _)⟩ ?_
  intro w2 ⟨hM2, hv2⟩
  have HM2 : Hid (Mem w w2 [(w.heap.size, .cells (ptA s) ptT), (w.heap.size + 1, .cells (ptA d) ptT), (Q, .cells (ipB p (.slice ao no co) (.slice bo nb cb)) ipT), (Q + 1, .cells (flB f (.slice ia ni ic)) rfT)]) := hM2
  have HR2 : Hid (Row w2 ao p.opts ∧ Row w2 bo p.body) := ipv_rows hv2
  have HFb : Hid (Far Q bo p.body) := far_low (ipv_rows HV1.out).2 (by omega)
  have a0 : w2.cell? ⟨w.heap.size, 0, none⟩ = some (.int .u32 s.ip) := hM2.cell 0 rfl 0
  have a1 : w2.cell? ⟨w.heap.size + 1, 0, none⟩ = some (.int .u32 d.ip) := hM2.cell 1 rfl 0
  have k6 : w2.cell? ⟨Q, 6, none⟩ = some (.int .u32 p.src) := hM2.cell 2 rfl 6
  have k7 : w2.cell? ⟨Q, 7, none⟩ = some (.int .u32 p.dst) := hM2.cell 2 rfl 7
  have kf : ∀ i, w2.frozen? ⟨Q, i, none⟩ = false := hM2.free 2 rfl
  have n1 : w.heap.size ≠ Q := hM2.ne 0 2 rfl rfl (by decide)
  have n2 : w.heap.size + 1 ≠ Q := hM2.ne 1 2 rfl rfl (by decide)
  have n1' : Q ≠ w.heap.size := fun e => n1 e.symm
  have n2' : Q ≠ w.heap.size + 1 := fun e => n2 e.symm
  clear hM1 HV1 hM2 hv2 hQ
  go_upto_region 4 with fail
  go_region_held3 (fun w' => w'.cell? ⟨w.heap.size, 0, none⟩ = some (.int .u32 s.ip) ∧ w'.cell? ⟨w.heap.size + 1, 0, none⟩ = some (.int .u32 d.ip)) (go_keep) (fail)
  all_goals
    go_upto_region 5 with fail
    refine wp_letter (fun W => Mem w W [(w.heap.size, .cells (ptA s) ptT), (w.heap.size + 1, .cells (ptA d) ptT), (Q, .cells (ipA p.tos p.ttl p.proto p.id p.flags p.off s.ip d.ip (.slice ao no co) (.slice bo nb cb)) ipT), (Q + 1, .cells (flB f (.slice ia ni ic)) rfT)] ∧ Row W ao p.opts ∧ Row W bo p.body) ⟨by first | exact ((HM2.out.drew.set 2 rfl 6 _).set 2 rfl 7 _) | exact ((HM2.out.drew.set 2 rfl 7 _).set 2 rfl 6 _), ((row_drew HR2.out.1).beside HFa.out).beside HFa.out, ((row_drew HR2.out.2).beside HFb.out).beside HFb.out⟩ ?_
    intro w3 ⟨hM3, hr3⟩
    have HM3 : Hid (Mem w w3 [(w.heap.size, .cells (ptA s) ptT), (w.heap.size + 1, .cells (ptA d) ptT), (Q, .cells (ipA p.tos p.ttl p.proto p.id p.flags p.off s.ip d.ip (.slice ao no co) (.slice bo nb cb)) ipT), (Q + 1, .cells (flB f (.slice ia ni ic)) rfT)]) := hM3
    have HR3 : Hid (Row w3 ao p.opts ∧ Row w3 bo p.body) := hr3
    clear a0 a1 k6 k7 kf HM2 HR2 hr3
    have r2 : w3.cell? ⟨Q, 2, none⟩ = some (.int .u8 p.proto) := hM3.cell 2 rfl 2
    have r9 : w3.cell? ⟨Q, 9, none⟩ = some (.slice bo nb cb) := hM3.cell 2 rfl 9
    clear hM3
    obtain ⟨X, hX⟩ : ∃ X, chBody p f s d = X := ⟨_, rfl⟩
    have HX : Hid (chBody p f s d = X) := hX
    have HXb : Hid (IsBytes X ∧ X.length ≤ 65535) := by have := chBody_ok HO.out.1 f HO.out.2.1 HO.out.2.2.1; rw [hX] at this; exact this
    clear hX
    go_upto_block 0 with fail
    go_cut [6, 7] (fun s6 s7 wx => s6 = .slice none 0 0 ∧ s7 = .int .i64 0 ∧ ∃ xa xc, Mem w wx [(w.heap.size, .cells (ptA s) ptT), (w.heap.size + 1, .cells (ptA d) ptT), (Q, .cells (ipA p.tos p.ttl p.proto p.id p.flags p.off s.ip d.ip (.slice ao no co) (.slice xa X.length xc)) ipT), (Q + 1, .cells (flB f (.slice ia ni ic)) rfT)] ∧ Row wx ao p.opts ∧ Row wx xa X ∧ (xa = none → xc = 0) ∧ pfit f s d = true)
    case first =>
      by_cases p17 : p.proto = 17
      · have HXu : Hid (X = udOut (chDg (udRes p.body) s d)) := by show _ = _; rw [← HX.out]; unfold chBody; rw [if_pos p17]
        have HPf : Hid (pfit f s d = true) := by
          have h1 := HPP.out.2 (by omega)
          have h2 := HPP.out.1
          show pfit f s d = true
          unfold pfit
          rw [h1, h2, if_neg (by simp)]
          exact decide_eq_true (Or.inl (by omega))
        have hU := rudp_any HR3.out.2 HNO.out.2.1 HC.out
        have HUo : Hid ((udRes p.body).Ok) := udRes_ok HO.out.1.body
        have b17 : (p.proto == 17) = true := beq_iff_eq.mpr p17
        clear p17
        generalize udRes p.body = u at *
        generalize udErr p.body = E1 at *
        go_wp2_with fail
        refine hU.mono ?_
        rintro e w4 ⟨v, rfl, hv4, hb4⟩
        obtain ⟨ub, uc, rfl, hur, hun, huf⟩ := hv4
        obtain ⟨un, hlen⟩ : ∃ un, u.body.length = un := ⟨_, rfl⟩
        have HLn : Hid (u.body.length = un ∧ (ub = none → uc = 0)) := ⟨hlen, hun⟩
        have hM4 := HM3.out.after hb4
        have HR4 : Hid (Row w4 ub u.body ∧ Row w4 ao p.opts) := ⟨hur, HR3.out.1.below hb4 (Nat.le_refl _)⟩
        rw [hlen]
        clear hU hb4 hur hun huf r9 r2 hlen
        go_upto_region 17 with fail
        obtain ⟨D, hD⟩ : ∃ D, w4.heap.size = D := ⟨_, rfl⟩
        rw [hD]
        have HFd : Hid (Far D ub u.body ∧ Far D ao p.opts) := ⟨far_low HR4.out.1 (by omega), far_low HR4.out.2 (by omega)⟩
        refine wp_letter (fun W => Mem w W [(w.heap.size, .cells (ptA s) ptT), (w.heap.size + 1, .cells (ptA d) ptT), (Q, .cells (ipA p.tos p.ttl p.proto p.id p.flags p.off s.ip d.ip (.slice ao no co) (.slice bo nb cb)) ipT), (Q + 1, .cells (flB f (.slice ia ni ic)) rfT), (D, .cells (udA u.src u.dst u.sum (.slice ub un uc)) udT)] ∧ Row W ub u.body ∧ Row W ao p.opts) ⟨by rw [← hD]; exact hM4.push _ _ rfl, row_alloc HR4.out.1, row_alloc HR4.out.2⟩ ?_
        intro w5 ⟨hM5, hr5⟩
        have HM5 : Hid (Mem w w5 [(w.heap.size, .cells (ptA s) ptT), (w.heap.size + 1, .cells (ptA d) ptT), (Q, .cells (ipA p.tos p.ttl p.proto p.id p.flags p.off s.ip d.ip (.slice ao no co) (.slice bo nb cb)) ipT), (Q + 1, .cells (flB f (.slice ia ni ic)) rfT), (D, .cells (udA u.src u.dst u.sum (.slice ub un uc)) udT)]) := hM5
        have HR5 : Hid (Row w5 ub u.body ∧ Row w5 ao p.opts) := hr5
        clear hM4 HR4 hr5 hD
        have c1 : w5.cell? ⟨w.heap.size, 1, none⟩ = some (.int .u16 s.port) := hM5.cell 0 rfl 1
        have c2 : w5.cell? ⟨w.heap.size + 1, 1, none⟩ = some (.int .u16 d.port) := hM5.cell 1 rfl 1
        have kd : ∀ i, w5.cell? ⟨D, i, none⟩ = (udA u.src u.dst u.sum (.slice ub un uc))[i]? := hM5.cell 4 rfl
        have kfd : ∀ i, w5.frozen? ⟨D, i, none⟩ = false := hM5.free 4 rfl
        have e1 : w.heap.size ≠ D := hM5.ne 0 4 rfl rfl (by decide)
        have e2 : w.heap.size + 1 ≠ D := hM5.ne 1 4 rfl rfl (by decide)
        have e1' : D ≠ w.heap.size := fun e => e1 e.symm
        have e2' : D ≠ w.heap.size + 1 := fun e => e2 e.symm
        clear hM5
        go_region_held3 (fun w' => w'.cell? ⟨w.heap.size, 1, none⟩ = some (.int .u16 s.port) ∧ w'.cell? ⟨w.heap.size + 1, 1, none⟩ = some (.int .u16 d.port)) (go_keep) (fail)
        all_goals
          go_upto_region 18 with fail
          refine wp_letter (fun W => Mem w W [(w.heap.size, .cells (ptA s) ptT), (w.heap.size + 1, .cells (ptA d) ptT), (Q, .cells (ipA p.tos p.ttl p.proto p.id p.flags p.off s.ip d.ip (.slice ao no co) (.slice bo nb cb)) ipT), (Q + 1, .cells (flB f (.slice ia ni ic)) rfT), (D, .cells (udA s.port d.port u.sum (.slice ub un uc)) udT)] ∧ Row W ub u.body ∧ Row W ao p.opts) ⟨by first | exact ((HM5.out.drew.set 4 rfl 0 _).set 4 rfl 1 _) | exact ((HM5.out.drew.set 4 rfl 1 _).set 4 rfl 0 _), ((row_drew HR5.out.1).beside HFd.out.1).beside HFd.out.1, ((row_drew HR5.out.2).beside HFd.out.2).beside HFd.out.2⟩ ?_
          intro w6 ⟨hM6, hr6⟩
          have HM6 : Hid (Mem w w6 [(w.heap.size, .cells (ptA s) ptT), (w.heap.size + 1, .cells (ptA d) ptT), (Q, .cells (ipA p.tos p.ttl p.proto p.id p.flags p.off s.ip d.ip (.slice ao no co) (.slice bo nb cb)) ipT), (Q + 1, .cells (flB f (.slice ia ni ic)) rfT), (D, .cells (udA s.port d.port u.sum (.slice ub un uc)) udT)]) := hM6
          have HRo : Hid (Row w6 ao p.opts) := hr6.2
          clear c1 c2 kd kfd HM5 HR5
          have kd : ∀ i, w6.cell? ⟨D, i, none⟩ = (udA s.port d.port u.sum (.slice ub un uc))[i]? := hM6.cell 4 rfl
          have hv6 : UdV w6 0 (.agg (udA s.port d.port u.sum (.slice ub un uc))) (u.to s d) := ⟨ub, uc, by rw [← HLn.out.1] <;> rfl, hr6.1, HLn.out.2, fun _ _ => Nat.zero_le _⟩
          by_cases hz : u.sum = 0
          · have HCu : Hid (chDg u s d = u.to s d) := if_pos hz
            have hz1 : (u.sum != 0) = false := by simp [hz]
            have hB := rubytes_any (u := u.to s d) (by rw [← HCu.out]; exact chDg_ok HUo.out HO.out.2.1 HO.out.2.2.1) hv6
            rw [← HCu.out, ← HXu.out] at hB
            generalize udbErr (chDg u s d) = E9 at *
            clear hz hv6 hr6 hM6
            go_wp2_with fail
            refine hB.mono ?_
            rintro e w9 ⟨x, rfl, hown, hb9⟩
            obtain ⟨xa, xc, rfl⟩ := own_len hown
            have hM9 := HM6.out.after hb9
            have HM9 : Hid (Mem w w9 _) := hM9
            have HO9 : Hid (Row w9 ao p.opts ∧ Q < w6.heap.size) := ⟨HRo.out.below hb9 (Nat.le_refl _), HM6.out.ltAt 2 rfl⟩
            have HX9 : Hid (w9.ownsRow w6.heap.size 5 1 (.slice xa X.length xc) X.length (X.map (Value.int .u8))) := hown
            have k9 : w9.cell? ⟨Q, 9, none⟩ = some (.slice bo nb cb) := hM9.cell 2 rfl 9
            have kf9 : ∀ i, w9.frozen? ⟨Q, i, none⟩ = false := hM9.free 2 rfl
            clear hB hown hb9 hM9 kd
            go_wp2_with fail
            go_meet
            case rel =>
              obtain ⟨za, zc, e, hr, hnil, hfar, -⟩ := own_read HX9.out rfl HXb.out.1 (by have := HXb.out.2; omega)
              cases e
              exact ⟨rfl, rfl, xa, xc, (HM9.out.set 2 rfl 9 _).lead, HO9.out.1.beside HFa.out, hr.beside (Or.inr fun y hy e => by have := hfar y hy; have := HO9.out; omega), hnil, HPf.out⟩
          · have HCu : Hid (chDg u s d = (u.to s d).at (usum s.ip d.ip (u.to s d))) := if_neg hz
            have hz1 : (u.sum != 0) = true := bne_iff_ne.mpr hz
            have hzo : (u.to s d).Ok := ⟨HO.out.2.1.port, HO.out.2.2.1.port, HUo.out.sum, HUo.out.body⟩
            have hS := rusum_any hzo hv6 s.ip d.ip HO.out.2.1.ip.1 HO.out.2.1.ip.2 HO.out.2.2.1.ip.1 HO.out.2.2.1.ip.2
            obtain ⟨S, hSS⟩ : ∃ S, usum s.ip d.ip (u.to s d) = S := ⟨_, rfl⟩
            rw [hSS] at hS HCu
            have q6 : w6.cell? ⟨Q, 6, none⟩ = some (.int .u32 s.ip) := hM6.cell 2 rfl 6
            have q7 : w6.cell? ⟨Q, 7, none⟩ = some (.int .u32 d.ip) := hM6.cell 2 rfl 7
            have HR6 : Hid (Row w6 ub u.body) := hr6.1
            clear hz hv6 hr6 hM6 hSS hzo
            go_wp2_with fail
            refine hS.mono ?_
            rintro e w7 ⟨rfl, hb7⟩
            have hM7 := HM6.out.after hb7
            have HM7 : Hid (Mem w w7 [(w.heap.size, .cells (ptA s) ptT), (w.heap.size + 1, .cells (ptA d) ptT), (Q, .cells (ipA p.tos p.ttl p.proto p.id p.flags p.off s.ip d.ip (.slice ao no co) (.slice bo nb cb)) ipT), (Q + 1, .cells (flB f (.slice ia ni ic)) rfT), (D, .cells (udA s.port d.port u.sum (.slice ub un uc)) udT)]) := hM7
            have HR7 : Hid (Row w7 ub u.body ∧ Row w7 ao p.opts) := ⟨HR6.out.below hb7 (Nat.le_refl _), HRo.out.below hb7 (Nat.le_refl _)⟩
            clear hS hb7 kd q6 q7 HM6 HR6 HRo
            have kd : ∀ i, w7.cell? ⟨D, i, none⟩ = (udA s.port d.port u.sum (.slice ub un uc))[i]? := hM7.cell 4 rfl
            have kfd : ∀ i, w7.frozen? ⟨D, i, none⟩ = false := hM7.free 4 rfl
            clear hM7
            go_upto_region 20 with fail
            refine wp_letter (fun W => Mem w W [(w.heap.size, .cells (ptA s) ptT), (w.heap.size + 1, .cells (ptA d) ptT), (Q, .cells (ipA p.tos p.ttl p.proto p.id p.flags p.off s.ip d.ip (.slice ao no co) (.slice bo nb cb)) ipT), (Q + 1, .cells (flB f (.slice ia ni ic)) rfT), (D, .cells (udA s.port d.port S (.slice ub un uc)) udT)] ∧ Row W ub u.body ∧ Row W ao p.opts) ⟨HM7.out.set 4 rfl 2 _, HR7.out.1.beside HFd.out.1, HR7.out.2.beside HFd.out.2⟩ ?_
            intro w8 ⟨hM8, hr8⟩
            have HM8 : Hid (Mem w w8 [(w.heap.size, .cells (ptA s) ptT), (w.heap.size + 1, .cells (ptA d) ptT), (Q, .cells (ipA p.tos p.ttl p.proto p.id p.flags p.off s.ip d.ip (.slice ao no co) (.slice bo nb cb)) ipT), (Q + 1, .cells (flB f (.slice ia ni ic)) rfT), (D, .cells (udA s.port d.port S (.slice ub un uc)) udT)]) := hM8
            have HRo : Hid (Row w8 ao p.opts) := hr8.2
            clear kd kfd HM7 HR7
            have kd : ∀ i, w8.cell? ⟨D, i, none⟩ = (udA s.port d.port S (.slice ub un uc))[i]? := hM8.cell 4 rfl
            have hv8 : UdV w8 0 (.agg (udA s.port d.port S (.slice ub un uc))) ((u.to s d).at S) := ⟨ub, uc, by rw [← HLn.out.1] <;> rfl, hr8.1, HLn.out.2, fun _ _ => Nat.zero_le _⟩
            have hB := rubytes_any (u := (u.to s d).at S) (by rw [← HCu.out]; exact chDg_ok HUo.out HO.out.2.1 HO.out.2.2.1) hv8
            rw [← HCu.out, ← HXu.out] at hB
            generalize udbErr (chDg u s d) = E9 at *
            clear hv8 hr8 hM8
            go_wp2_with fail
            refine hB.mono ?_
            rintro e w9 ⟨x, rfl, hown, hb9⟩
            obtain ⟨xa, xc, rfl⟩ := own_len hown
            have hM9 := HM8.out.after hb9
            have HM9 : Hid (Mem w w9 _) := hM9
            have HO9 : Hid (Row w9 ao p.opts ∧ Q < w8.heap.size) := ⟨HRo.out.below hb9 (Nat.le_refl _), HM8.out.ltAt 2 rfl⟩
            have HX9 : Hid (w9.ownsRow w8.heap.size 5 1 (.slice xa X.length xc) X.length (X.map (Value.int .u8))) := hown
            have k9 : w9.cell? ⟨Q, 9, none⟩ = some (.slice bo nb cb) := hM9.cell 2 rfl 9
            have kf9 : ∀ i, w9.frozen? ⟨Q, i, none⟩ = false := hM9.free 2 rfl
            clear hB hown hb9 hM9 kd
            go_wp2_with fail
            go_meet
            case rel =>
              obtain ⟨za, zc, e, hr, hnil, hfar, -⟩ := own_read HX9.out rfl HXb.out.1 (by have := HXb.out.2; omega)
              cases e
              exact ⟨rfl, rfl, xa, xc, (HM9.out.set 2 rfl 9 _).lead, HO9.out.1.beside HFa.out, hr.beside (Or.inr fun y hy e => by have := hfar y hy; have := HO9.out; omega), hnil, HPf.out⟩
      · by_cases p6 : p.proto = 6
        · have HXu : Hid (X = tcOut (chSg (tcRes p.body) s d)) := by show _ = _; rw [← HX.out]; unfold chBody; rw [if_neg p17, if_pos p6]
          have HPf : Hid (pfit f s d = true) := by
            have h1 := HPP.out.2 (by omega)
            have h2 := HPP.out.1
            show pfit f s d = true
            unfold pfit
            rw [h1, h2, if_neg (by simp)]
            exact decide_eq_true (Or.inl (by omega))
          have hU := rtcp_any HR3.out.2 HNO.out.2.1 HC.out (by have := HO.out.2.2.2; omega)
          have HUo : Hid ((tcRes p.body).Ok) := tcRes_ok HO.out.1.body
          have b17 : (p.proto == 17) = false := beq_eq_false_iff_ne.mpr p17
          have b6 : (p.proto == 6) = true := beq_iff_eq.mpr p6
          clear p17 p6
          generalize tcRes p.body = u at *
          generalize tcErr p.body = E1 at *
          go_wp2_with fail
          refine hU.mono ?_
          rintro e w4 ⟨v, rfl, hv4, hb4⟩
          obtain ⟨uo, ud, ub, uc, rfl, hur, hur2, hun, hun2, huf⟩ := hv4
          obtain ⟨um, hlen1⟩ : ∃ um, u.opts.length = um := ⟨_, rfl⟩
          obtain ⟨un, hlen⟩ : ∃ un, u.body.length = un := ⟨_, rfl⟩
          have HLn : Hid (u.opts.length = um ∧ u.body.length = un ∧ (uo = none → ud = 0) ∧ (ub = none → uc = 0)) := ⟨hlen1, hlen, hun, hun2⟩
          have hM4 := HM3.out.after hb4
          have HR4 : Hid (Row w4 uo u.opts ∧ Row w4 ub u.body ∧ Row w4 ao p.opts) := ⟨hur, hur2, HR3.out.1.below hb4 (Nat.le_refl _)⟩
          rw [hlen1, hlen]
          clear hU hb4 hur hur2 hun hun2 huf r9 r2 hlen hlen1
          go_upto_region 23 with fail
          obtain ⟨D, hD⟩ : ∃ D, w4.heap.size = D := ⟨_, rfl⟩
          rw [hD]
          have HFd : Hid (Far D uo u.opts ∧ Far D ub u.body ∧ Far D ao p.opts) := ⟨far_low HR4.out.1 (by omega), far_low HR4.out.2.1 (by omega), far_low HR4.out.2.2 (by omega)⟩
          refine wp_letter (fun W => Mem w W [(w.heap.size, .cells (ptA s) ptT), (w.heap.size + 1, .cells (ptA d) ptT), (Q, .cells (ipA p.tos p.ttl p.proto p.id p.flags p.off s.ip d.ip (.slice ao no co) (.slice bo nb cb)) ipT), (Q + 1, .cells (flB f (.slice ia ni ic)) rfT), (D, .cells (tcA u.src u.dst u.seq u.ack u.flags u.win u.sum u.urg (.slice uo um ud) (.slice ub un uc)) tcT)] ∧ Row W uo u.opts ∧ Row W ub u.body ∧ Row W ao p.opts) ⟨by rw [← hD]; exact hM4.push _ _ rfl, row_alloc HR4.out.1, row_alloc HR4.out.2.1, row_alloc HR4.out.2.2⟩ ?_
          intro w5 ⟨hM5, hr5⟩
          have HM5 : Hid (Mem w w5 [(w.heap.size, .cells (ptA s) ptT), (w.heap.size + 1, .cells (ptA d) ptT), (Q, .cells (ipA p.tos p.ttl p.proto p.id p.flags p.off s.ip d.ip (.slice ao no co) (.slice bo nb cb)) ipT), (Q + 1, .cells (flB f (.slice ia ni ic)) rfT), (D, .cells (tcA u.src u.dst u.seq u.ack u.flags u.win u.sum u.urg (.slice uo um ud) (.slice ub un uc)) tcT)]) := hM5
          have HR5 : Hid (Row w5 uo u.opts ∧ Row w5 ub u.body ∧ Row w5 ao p.opts) := hr5
          clear hM4 HR4 hr5 hD
          have c1 : w5.cell? ⟨w.heap.size, 1, none⟩ = some (.int .u16 s.port) := hM5.cell 0 rfl 1
          have c2 : w5.cell? ⟨w.heap.size + 1, 1, none⟩ = some (.int .u16 d.port) := hM5.cell 1 rfl 1
          have kd : ∀ i, w5.cell? ⟨D, i, none⟩ = (tcA u.src u.dst u.seq u.ack u.flags u.win u.sum u.urg (.slice uo um ud) (.slice ub un uc))[i]? := hM5.cell 4 rfl
          have kfd : ∀ i, w5.frozen? ⟨D, i, none⟩ = false := hM5.free 4 rfl
          have e1 : w.heap.size ≠ D := hM5.ne 0 4 rfl rfl (by decide)
          have e2 : w.heap.size + 1 ≠ D := hM5.ne 1 4 rfl rfl (by decide)
          have e1' : D ≠ w.heap.size := fun e => e1 e.symm
          have e2' : D ≠ w.heap.size + 1 := fun e => e2 e.symm
          clear hM5
          go_region_held3 (fun w' => w'.cell? ⟨w.heap.size, 1, none⟩ = some (.int .u16 s.port) ∧ w'.cell? ⟨w.heap.size + 1, 1, none⟩ = some (.int .u16 d.port)) (go_keep) (fail)
          all_goals
            go_upto_region 24 with fail
            refine wp_letter (fun W => Mem w W [(w.heap.size, .cells (ptA s) ptT), (w.heap.size + 1, .cells (ptA d) ptT), (Q, .cells (ipA p.tos p.ttl p.proto p.id p.flags p.off s.ip d.ip (.slice ao no co) (.slice bo nb cb)) ipT), (Q + 1, .cells (flB f (.slice ia ni ic)) rfT), (D, .cells (tcA s.port d.port u.seq u.ack u.flags u.win u.sum u.urg (.slice uo um ud) (.slice ub un uc)) tcT)] ∧ Row W uo u.opts ∧ Row W ub u.body ∧ Row W ao p.opts) ⟨by first | exact ((HM5.out.drew.set 4 rfl 0 _).set 4 rfl 1 _) | exact ((HM5.out.drew.set 4 rfl 1 _).set 4 rfl 0 _), ((row_drew HR5.out.1).beside HFd.out.1).beside HFd.out.1, ((row_drew HR5.out.2.1).beside HFd.out.2.1).beside HFd.out.2.1, ((row_drew HR5.out.2.2).beside HFd.out.2.2).beside HFd.out.2.2⟩ ?_
            intro w6 ⟨hM6, hr6⟩
            have HM6 : Hid (Mem w w6 [(w.heap.size, .cells (ptA s) ptT), (w.heap.size + 1, .cells (ptA d) ptT), (Q, .cells (ipA p.tos p.ttl p.proto p.id p.flags p.off s.ip d.ip (.slice ao no co) (.slice bo nb cb)) ipT), (Q + 1, .cells (flB f (.slice ia ni ic)) rfT), (D, .cells (tcA s.port d.port u.seq u.ack u.flags u.win u.sum u.urg (.slice uo um ud) (.slice ub un uc)) tcT)]) := hM6
            have HR6 : Hid (Row w6 uo u.opts ∧ Row w6 ub u.body ∧ Row w6 ao p.opts) := hr6
            clear c1 c2 kd kfd HM5 HR5
            have kd : ∀ i, w6.cell? ⟨D, i, none⟩ = (tcA s.port d.port u.seq u.ack u.flags u.win u.sum u.urg (.slice uo um ud) (.slice ub un uc))[i]? := hM6.cell 4 rfl
            have hv6 : TcV w6 0 (.agg (tcA s.port d.port u.seq u.ack u.flags u.win u.sum u.urg (.slice uo um ud) (.slice ub un uc))) (u.to s d) := ⟨uo, ud, ub, uc, by rw [← HLn.out.1, ← HLn.out.2.1]; rfl, hr6.1, hr6.2.1, HLn.out.2.2.1, HLn.out.2.2.2, fun _ _ => Nat.zero_le _, fun _ _ => Nat.zero_le _⟩
            have hzo : (u.to s d).Ok := ⟨HO.out.2.1.port, HO.out.2.2.1.port, HUo.out.seq, HUo.out.ack, HUo.out.flags, HUo.out.win, HUo.out.sum, HUo.out.urg, HUo.out.opts, HUo.out.body⟩
            have HCu : Hid (chSg u s d = (u.to s d).at (tsum s.ip d.ip (u.to s d))) := rfl
            have hS := rtsum_any hzo hv6 s.ip d.ip HO.out.2.1.ip.1 HO.out.2.1.ip.2 HO.out.2.2.1.ip.1 HO.out.2.2.1.ip.2
            obtain ⟨S, hSS⟩ : ∃ S, tsum s.ip d.ip (u.to s d) = S := ⟨_, rfl⟩
            rw [hSS] at hS HCu
            have q6 : w6.cell? ⟨Q, 6, none⟩ = some (.int .u32 s.ip) := hM6.cell 2 rfl 6
            have q7 : w6.cell? ⟨Q, 7, none⟩ = some (.int .u32 d.ip) := hM6.cell 2 rfl 7
            clear hv6 hr6 hM6 hSS hzo
            go_wp2_with fail
            refine hS.mono ?_
            rintro e w7 ⟨rfl, hb7⟩
            have hM7 := HM6.out.after hb7
            have HM7 : Hid (Mem w w7 [(w.heap.size, .cells (ptA s) ptT), (w.heap.size + 1, .cells (ptA d) ptT), (Q, .cells (ipA p.tos p.ttl p.proto p.id p.flags p.off s.ip d.ip (.slice ao no co) (.slice bo nb cb)) ipT), (Q + 1, .cells (flB f (.slice ia ni ic)) rfT), (D, .cells (tcA s.port d.port u.seq u.ack u.flags u.win u.sum u.urg (.slice uo um ud) (.slice ub un uc)) tcT)]) := hM7
            have HR7 : Hid (Row w7 uo u.opts ∧ Row w7 ub u.body ∧ Row w7 ao p.opts) := ⟨HR6.out.1.below hb7 (Nat.le_refl _), HR6.out.2.1.below hb7 (Nat.le_refl _), HR6.out.2.2.below hb7 (Nat.le_refl _)⟩
            clear hS hb7 kd q6 q7 HM6 HR6
            have kd : ∀ i, w7.cell? ⟨D, i, none⟩ = (tcA s.port d.port u.seq u.ack u.flags u.win u.sum u.urg (.slice uo um ud) (.slice ub un uc))[i]? := hM7.cell 4 rfl
            have kfd : ∀ i, w7.frozen? ⟨D, i, none⟩ = false := hM7.free 4 rfl
            clear hM7
            go_upto_region 25 with fail
            refine wp_letter (fun W => Mem w W [(w.heap.size, .cells (ptA s) ptT), (w.heap.size + 1, .cells (ptA d) ptT), (Q, .cells (ipA p.tos p.ttl p.proto p.id p.flags p.off s.ip d.ip (.slice ao no co) (.slice bo nb cb)) ipT), (Q + 1, .cells (flB f (.slice ia ni ic)) rfT), (D, .cells (tcA s.port d.port u.seq u.ack u.flags u.win S u.urg (.slice uo um ud) (.slice ub un uc)) tcT)] ∧ Row W uo u.opts ∧ Row W ub u.body ∧ Row W ao p.opts) ⟨HM7.out.set 4 rfl 6 _, HR7.out.1.beside HFd.out.1, HR7.out.2.1.beside HFd.out.2.1, HR7.out.2.2.beside HFd.out.2.2⟩ ?_
            intro w8 ⟨hM8, hr8⟩
            have HM8 : Hid (Mem w w8 [(w.heap.size, .cells (ptA s) ptT), (w.heap.size + 1, .cells (ptA d) ptT), (Q, .cells (ipA p.tos p.ttl p.proto p.id p.flags p.off s.ip d.ip (.slice ao no co) (.slice bo nb cb)) ipT), (Q + 1, .cells (flB f (.slice ia ni ic)) rfT), (D, .cells (tcA s.port d.port u.seq u.ack u.flags u.win S u.urg (.slice uo um ud) (.slice ub un uc)) tcT)]) := hM8
            have HRo : Hid (Row w8 ao p.opts) := hr8.2.2
            clear kd kfd HM7 HR7
            have kd : ∀ i, w8.cell? ⟨D, i, none⟩ = (tcA s.port d.port u.seq u.ack u.flags u.win S u.urg (.slice uo um ud) (.slice ub un uc))[i]? := hM8.cell 4 rfl
            have hv8 : TcV w8 0 (.agg (tcA s.port d.port u.seq u.ack u.flags u.win S u.urg (.slice uo um ud) (.slice ub un uc))) ((u.to s d).at S) := ⟨uo, ud, ub, uc, by rw [← HLn.out.1, ← HLn.out.2.1]; rfl, hr8.1, hr8.2.1, HLn.out.2.2.1, HLn.out.2.2.2, fun _ _ => Nat.zero_le _, fun _ _ => Nat.zero_le _⟩
            have hB := rtbytes_any (q := (u.to s d).at S) (by rw [← HCu.out]; exact chSg_ok HUo.out HO.out.2.1 HO.out.2.2.1) hv8
            rw [← HCu.out, ← HXu.out] at hB
            generalize tcbErr (chSg u s d) = E9 at *
            clear hv8 hr8 hM8
            go_wp2_with fail
            refine hB.mono ?_
            rintro e w9 ⟨x, rfl, hown, hb9⟩
            obtain ⟨xa, xc, rfl⟩ := own_len hown
            have hM9 := HM8.out.after hb9
            have HM9 : Hid (Mem w w9 _) := hM9
            have HO9 : Hid (Row w9 ao p.opts ∧ Q < w8.heap.size) := ⟨HRo.out.below hb9 (Nat.le_refl _), HM8.out.ltAt 2 rfl⟩
            have HX9 : Hid (w9.ownsRow w8.heap.size 5 1 (.slice xa X.length xc) X.length (X.map (Value.int .u8))) := hown
            have k9 : w9.cell? ⟨Q, 9, none⟩ = some (.slice bo nb cb) := hM9.cell 2 rfl 9
            have kf9 : ∀ i, w9.frozen? ⟨Q, i, none⟩ = false := hM9.free 2 rfl
            clear hB hown hb9 hM9 kd
            go_wp2_with fail
            go_meet
            case rel =>
              obtain ⟨za, zc, e, hr, hnil, hfar, -⟩ := own_read HX9.out rfl HXb.out.1 (by have := HXb.out.2; omega)
              cases e
              exact ⟨rfl, rfl, xa, xc, (HM9.out.set 2 rfl 9 _).lead, HO9.out.1.beside HFa.out, hr.beside (Or.inr fun y hy e => by have := hfar y hy; have := HO9.out; omega), hnil, HPf.out⟩
        · have p1 : p.proto = 1 := by
            rcases bd_kind HBd.out with ⟨k, -⟩ | ⟨k, -⟩ | ⟨k, -⟩
            · exact absurd k p17
            · exact absurd k p6
            · exact k
          have HXm : Hid (X = mgOut (msl (chMg f (mgRes p.body) s))) := by show _ = _; rw [← HX.out]; unfold chBody; rw [if_neg p17, if_neg p6, if_pos p1]
          have HPr : Hid (f.proto = 1) := HPP.out.1.trans p1
          have hU := rmsg_own HR3.out.2 HNO.out.2.1 HC.out (by have := HO.out.2.2.2; omega)
          have HUo : Hid ((mgRes p.body).Ok) := mgRes_ok HO.out.1.body
          have b17 : (p.proto == 17) = false := beq_eq_false_iff_ne.mpr p17
          have b6 : (p.proto == 6) = false := beq_eq_false_iff_ne.mpr p6
          clear p17 p6 p1
          generalize mgRes p.body = m at *
          generalize mgErr p.body = E1 at *
          go_wp2_with fail
          refine hU.mono ?_
          rintro e w4 ⟨v, rfl, hv4, hb4⟩
          obtain ⟨ub, uc, rfl, hur, hun, huf⟩ := hv4.v
          obtain ⟨un, hlen⟩ : ∃ un, m.body.length = un := ⟨_, rfl⟩
          have HLn : Hid (m.body.length = un ∧ (ub = none → uc = 0)) := ⟨hlen, hun⟩
          have hM4 := HM3.out.after hb4
          have HR4 : Hid (Row w4 ub m.body ∧ Row w4 ao p.opts) := ⟨hur, HR3.out.1.below hb4 (Nat.le_refl _)⟩
          rw [hlen]
          clear hU hb4 hur hun huf r9 r2 hlen hv4
          go_upto_region 7 with fail
          obtain ⟨D, hD⟩ : ∃ D, w4.heap.size = D := ⟨_, rfl⟩
          rw [hD]
          have HFd : Hid (Far D ub m.body ∧ Far D ao p.opts) := ⟨far_low HR4.out.1 (by omega), far_low HR4.out.2 (by omega)⟩
          refine wp_letter (fun W => Mem w W [(w.heap.size, .cells (ptA s) ptT), (w.heap.size + 1, .cells (ptA d) ptT), (Q, .cells (ipA p.tos p.ttl p.proto p.id p.flags p.off s.ip d.ip (.slice ao no co) (.slice bo nb cb)) ipT), (Q + 1, .cells (flB f (.slice ia ni ic)) rfT), (D, .cells (mgA m.typ m.code m.sum m.rest (.slice ub un uc)) mgT)] ∧ Row W ub m.body ∧ Row W ao p.opts) ⟨by rw [← hD]; exact hM4.push _ _ rfl, row_alloc HR4.out.1, row_alloc HR4.out.2⟩ ?_
          intro w5 ⟨hM5, hr5⟩
          have HMm : Hid (Mem w w5 [(w.heap.size, .cells (ptA s) ptT), (w.heap.size + 1, .cells (ptA d) ptT), (Q, .cells (ipA p.tos p.ttl p.proto p.id p.flags p.off s.ip d.ip (.slice ao no co) (.slice bo nb cb)) ipT), (Q + 1, .cells (flB f (.slice ia ni ic)) rfT), (D, .cells (mgA m.typ m.code m.sum m.rest (.slice ub un uc)) mgT)]) := hM5
          have HRm : Hid (Row w5 ub m.body ∧ Row w5 ao p.opts) := hr5
          have HBe : Hid (Below w.heap.size w w5) := hM5.below
          clear hM4 HR4 hr5 hD
          have c1 : w5.cell? ⟨w.heap.size, 1, none⟩ = some (.int .u16 s.port) := hM5.cell 0 rfl 1
          have c2 : w5.cell? ⟨w.heap.size + 1, 1, none⟩ = some (.int .u16 d.port) := hM5.cell 1 rfl 1
          have g6 : w5.cell? ⟨Q + 1, 6, none⟩ = some (.slice ia ni ic) := hM5.cell 3 rfl 6
          have k3 : w5.cell? ⟨D, 3, none⟩ = some (.int .u32 m.rest) := hM5.cell 4 rfl 3
          have kfd : ∀ i, w5.frozen? ⟨D, i, none⟩ = false := hM5.free 4 rfl
          clear hM5
          have ret : ∀ (q : Bool), q = false → pfit f s d = q → EE = 21 ∧ UU = [] := fun q hq h => by
            subst hq
            have h1 := HE.out
            have h2 := HU.out
            rw [if_pos h] at h1 h2
            exact ⟨h1, h2⟩
          have HRet : Hid (∀ (q : Bool), q = false → pfit f s d = q → EE = 21 ∧ UU = []) := ret
          clear ret
          by_cases hi : 0 < ni
          · have hi' : (0 : Int) < ni := by omega
            have hpd : pfit f s d = decide (s.port = 0 ∧ d.port = 0) := by unfold pfit; rw [HNO.out.2.2, if_pos hi]
            by_cases hz : s.port = 0 ∧ d.port = 0
            · have HPf : Hid (pfit f s d = true) := by show _ = _; rw [hpd]; exact decide_eq_true hz
              have z1 : (s.port != 0) = false := by simp [hz.1]
              have z2 : (d.port != 0) = false := by simp [hz.2]
              have HXu : Hid (X = mgOut (msl m)) := by show _ = _; rw [HXm.out]; unfold chMg; rw [HNO.out.2.2, if_pos hi]
              have HQo : Hid m.Ok := HUo.out
              clear hz hpd hi
              have hv6 : MgV w5 0 (.agg (mgA m.typ m.code m.sum m.rest (.slice ub un uc))) (m) := ⟨ub, uc, by rw [← HLn.out.1] <;> rfl, HRm.out.1, HLn.out.2, fun _ _ => Nat.zero_le _⟩
              have kd : ∀ i, w5.cell? ⟨D, i, none⟩ = (mgA m.typ m.code m.sum m.rest (.slice ub un uc))[i]? := HMm.out.cell 4 rfl
              have hS := rmsum_any HQo.out hv6
              have HCu : Hid (msl (m) = (m).at (msum (m))) := rfl
              obtain ⟨S, hSS⟩ : ∃ S, msum (m) = S := ⟨_, rfl⟩
              have hSr := msum_range (m)
              rw [hSS] at hS HCu hSr
              have HSr : Hid (0 ≤ S ∧ S ≤ 65535) := hSr
              clear hv6 hSS hSr
              go_wp2_with fail
              refine hS.mono ?_
              rintro e w7 ⟨rfl, hb7⟩
              have hM7 := HMm.out.after hb7
              have HM7 : Hid (Mem w w7 [(w.heap.size, .cells (ptA s) ptT), (w.heap.size + 1, .cells (ptA d) ptT), (Q, .cells (ipA p.tos p.ttl p.proto p.id p.flags p.off s.ip d.ip (.slice ao no co) (.slice bo nb cb)) ipT), (Q + 1, .cells (flB f (.slice ia ni ic)) rfT), (D, .cells (mgA m.typ m.code m.sum m.rest (.slice ub un uc)) mgT)]) := hM7
              have HR7 : Hid (Row w7 ub m.body ∧ Row w7 ao p.opts) := ⟨HRm.out.1.below hb7 (Nat.le_refl _), HRm.out.2.below hb7 (Nat.le_refl _)⟩
              clear hS hb7 kd HMm HRm
              have kd : ∀ i, w7.cell? ⟨D, i, none⟩ = (mgA m.typ m.code m.sum m.rest (.slice ub un uc))[i]? := hM7.cell 4 rfl
              have kfd : ∀ i, w7.frozen? ⟨D, i, none⟩ = false := hM7.free 4 rfl
              clear hM7
              go_upto_region 14 with fail
              refine wp_letter (fun W => Mem w W [(w.heap.size, .cells (ptA s) ptT), (w.heap.size + 1, .cells (ptA d) ptT), (Q, .cells (ipA p.tos p.ttl p.proto p.id p.flags p.off s.ip d.ip (.slice ao no co) (.slice bo nb cb)) ipT), (Q + 1, .cells (flB f (.slice ia ni ic)) rfT), (D, .cells (mgA m.typ m.code S m.rest (.slice ub un uc)) mgT)] ∧ Row W ub m.body ∧ Row W ao p.opts) ⟨HM7.out.set 4 rfl 2 _, HR7.out.1.beside HFd.out.1, HR7.out.2.beside HFd.out.2⟩ ?_
              intro w8 ⟨hM8, hr8⟩
              have HM8 : Hid (Mem w w8 [(w.heap.size, .cells (ptA s) ptT), (w.heap.size + 1, .cells (ptA d) ptT), (Q, .cells (ipA p.tos p.ttl p.proto p.id p.flags p.off s.ip d.ip (.slice ao no co) (.slice bo nb cb)) ipT), (Q + 1, .cells (flB f (.slice ia ni ic)) rfT), (D, .cells (mgA m.typ m.code S m.rest (.slice ub un uc)) mgT)]) := hM8
              have HRo : Hid (Row w8 ao p.opts) := hr8.2
              clear kd kfd HM7 HR7
              have kd : ∀ i, w8.cell? ⟨D, i, none⟩ = (mgA m.typ m.code S m.rest (.slice ub un uc))[i]? := hM8.cell 4 rfl
              have hv8 : MgV w8 0 (.agg (mgA m.typ m.code S m.rest (.slice ub un uc))) ((m).at S) := ⟨ub, uc, by rw [← HLn.out.1] <;> rfl, hr8.1, HLn.out.2, fun _ _ => Nat.zero_le _⟩
              have hB := rmbytes_any (q := (m).at S) (HQo.out.at HSr.out.1 HSr.out.2) hv8
              rw [← HCu.out, ← HXu.out] at hB
              generalize mgbErr (msl (m)) = E9 at *
              clear hv8 hr8 hM8
              go_wp2_with fail
              refine hB.mono ?_
              rintro e w9 ⟨x, rfl, hown, hb9⟩
              obtain ⟨xa, xc, rfl⟩ := own_len hown
              have hM9 := HM8.out.after hb9
              have HM9 : Hid (Mem w w9 _) := hM9
              have HO9 : Hid (Row w9 ao p.opts ∧ Q < w8.heap.size) := ⟨HRo.out.below hb9 (Nat.le_refl _), HM8.out.ltAt 2 rfl⟩
              have HX9 : Hid (w9.ownsRow w8.heap.size 5 1 (.slice xa X.length xc) X.length (X.map (Value.int .u8))) := hown
              have k9 : w9.cell? ⟨Q, 9, none⟩ = some (.slice bo nb cb) := hM9.cell 2 rfl 9
              have kf9 : ∀ i, w9.frozen? ⟨Q, i, none⟩ = false := hM9.free 2 rfl
              clear hB hown hb9 hM9 kd
              go_wp2_with fail
              go_meet
              case rel =>
                obtain ⟨za, zc, e, hr, hnil, hfar, -⟩ := own_read HX9.out rfl HXb.out.1 (by have := HXb.out.2; omega)
                cases e
                exact ⟨rfl, rfl, xa, xc, (HM9.out.set 2 rfl 9 _).lead, HO9.out.1.beside HFa.out, hr.beside (Or.inr fun y hy e => by have := hfar y hy; have := HO9.out; omega), hnil, HPf.out⟩
            · obtain ⟨h1, h2⟩ := HRet.out false rfl (by rw [hpd]; exact decide_eq_false hz)
              have HEU : Hid (EE = 21 ∧ UU = []) := ⟨h1, h2⟩
              have zs : ((s.port != 0) = true) ∨ ((s.port != 0) = false ∧ (d.port != 0) = true) := by
                by_cases e1 : s.port = 0
                · right
                  exact ⟨by simp [e1], bne_iff_ne.mpr fun e2 => hz ⟨e1, e2⟩⟩
                · left
                  exact bne_iff_ne.mpr e1
              clear h1 h2 hz hpd
              rcases zs with z1 | ⟨z1, z2⟩
              all_goals
                go_wp2_with fail
                go_ret2
                exact ⟨_, by rw [HEU.out.1] <;> rfl, by rw [HEU.out.2]; exact World.ownsRow_nil _ _ _ _, HBe.out⟩
          · have hi' : ¬ (0 : Int) < ni := by omega
            have hpd : pfit f s d = decide (s.port = d.port) := by
              unfold pfit
              rw [HNO.out.2.2, if_neg hi, HPr.out]
              simp
            by_cases hz : s.port = d.port
            · have HPf : Hid (pfit f s d = true) := by show _ = _; rw [hpd]; exact decide_eq_true hz
              have z1 : (s.port != d.port) = false := by simp [hz]
              have HXu : Hid (X = mgOut (msl (m.id s.port))) := by show _ = _; rw [HXm.out]; unfold chMg; rw [HNO.out.2.2, if_neg hi]
              have hrs := HUo.out.rest
              have hsp := HO.out.2.1.port
              have HQo : Hid (m.id s.port).Ok := ⟨HUo.out.typ, HUo.out.code, HUo.out.sum, ⟨by simp only [Mg.id]; omega, by simp only [Mg.id]; omega⟩, HUo.out.body⟩
              have hlow := sm_low32 m.rest hrs.1 hrs.2
              have hor : bits .or .u32 (s.port * 65536) (m.rest % 65536) = s.port * 65536 + m.rest % 65536 := sm_long s.port (m.rest % 65536) hsp.1 hsp.2 (by omega) (by omega)
              have v1 := wrap32_small s.port (by omega) (by omega)
              have v2 := wrap32_small (s.port * 65536) (by omega) (by omega)
              clear hz hpd hi hrs hsp
              go_upto_region 13 with fail
              refine wp_letter (fun W => Mem w W [(w.heap.size, .cells (ptA s) ptT), (w.heap.size + 1, .cells (ptA d) ptT), (Q, .cells (ipA p.tos p.ttl p.proto p.id p.flags p.off s.ip d.ip (.slice ao no co) (.slice bo nb cb)) ipT), (Q + 1, .cells (flB f (.slice ia ni ic)) rfT), (D, .cells (mgA m.typ m.code m.sum (s.port * 65536 + m.rest % 65536) (.slice ub un uc)) mgT)] ∧ Row W ub m.body ∧ Row W ao p.opts) ⟨HMm.out.set 4 rfl 3 _, HRm.out.1.beside HFd.out.1, HRm.out.2.beside HFd.out.2⟩ ?_
              intro w6 ⟨hM6, hr6⟩
              clear HMm HRm c1 c2 g6 k3 kfd hlow hor v1 v2 z1
              have HMm : Hid (Mem w w6 [(w.heap.size, .cells (ptA s) ptT), (w.heap.size + 1, .cells (ptA d) ptT), (Q, .cells (ipA p.tos p.ttl p.proto p.id p.flags p.off s.ip d.ip (.slice ao no co) (.slice bo nb cb)) ipT), (Q + 1, .cells (flB f (.slice ia ni ic)) rfT), (D, .cells (mgA m.typ m.code m.sum (s.port * 65536 + m.rest % 65536) (.slice ub un uc)) mgT)]) := hM6
              have HRm : Hid (Row w6 ub m.body ∧ Row w6 ao p.opts) := hr6
              clear hM6 hr6
              have hv6 : MgV w6 0 (.agg (mgA m.typ m.code m.sum (s.port * 65536 + m.rest % 65536) (.slice ub un uc))) (m.id s.port) := ⟨ub, uc, by rw [← HLn.out.1] <;> rfl, HRm.out.1, HLn.out.2, fun _ _ => Nat.zero_le _⟩
              have kd : ∀ i, w6.cell? ⟨D, i, none⟩ = (mgA m.typ m.code m.sum (s.port * 65536 + m.rest % 65536) (.slice ub un uc))[i]? := HMm.out.cell 4 rfl
              have hS := rmsum_any HQo.out hv6
              have HCu : Hid (msl (m.id s.port) = (m.id s.port).at (msum (m.id s.port))) := rfl
              obtain ⟨S, hSS⟩ : ∃ S, msum (m.id s.port) = S := ⟨_, rfl⟩
              have hSr := msum_range (m.id s.port)
              rw [hSS] at hS HCu hSr
              have HSr : Hid (0 ≤ S ∧ S ≤ 65535) := hSr
              clear hv6 hSS hSr
              go_wp2_with fail
              refine hS.mono ?_
              rintro e w7 ⟨rfl, hb7⟩
              have hM7 := HMm.out.after hb7
              have HM7 : Hid (Mem w w7 [(w.heap.size, .cells (ptA s) ptT), (w.heap.size + 1, .cells (ptA d) ptT), (Q, .cells (ipA p.tos p.ttl p.proto p.id p.flags p.off s.ip d.ip (.slice ao no co) (.slice bo nb cb)) ipT), (Q + 1, .cells (flB f (.slice ia ni ic)) rfT), (D, .cells (mgA m.typ m.code m.sum (s.port * 65536 + m.rest % 65536) (.slice ub un uc)) mgT)]) := hM7
              have HR7 : Hid (Row w7 ub m.body ∧ Row w7 ao p.opts) := ⟨HRm.out.1.below hb7 (Nat.le_refl _), HRm.out.2.below hb7 (Nat.le_refl _)⟩
              clear hS hb7 kd HMm HRm
              have kd : ∀ i, w7.cell? ⟨D, i, none⟩ = (mgA m.typ m.code m.sum (s.port * 65536 + m.rest % 65536) (.slice ub un uc))[i]? := hM7.cell 4 rfl
              have kfd : ∀ i, w7.frozen? ⟨D, i, none⟩ = false := hM7.free 4 rfl
              clear hM7
              go_upto_region 14 with fail
              refine wp_letter (fun W => Mem w W [(w.heap.size, .cells (ptA s) ptT), (w.heap.size + 1, .cells (ptA d) ptT), (Q, .cells (ipA p.tos p.ttl p.proto p.id p.flags p.off s.ip d.ip (.slice ao no co) (.slice bo nb cb)) ipT), (Q + 1, .cells (flB f (.slice ia ni ic)) rfT), (D, .cells (mgA m.typ m.code S (s.port * 65536 + m.rest % 65536) (.slice ub un uc)) mgT)] ∧ Row W ub m.body ∧ Row W ao p.opts) ⟨HM7.out.set 4 rfl 2 _, HR7.out.1.beside HFd.out.1, HR7.out.2.beside HFd.out.2⟩ ?_
              intro w8 ⟨hM8, hr8⟩
              have HM8 : Hid (Mem w w8 [(w.heap.size, .cells (ptA s) ptT), (w.heap.size + 1, .cells (ptA d) ptT), (Q, .cells (ipA p.tos p.ttl p.proto p.id p.flags p.off s.ip d.ip (.slice ao no co) (.slice bo nb cb)) ipT), (Q + 1, .cells (flB f (.slice ia ni ic)) rfT), (D, .cells (mgA m.typ m.code S (s.port * 65536 + m.rest % 65536) (.slice ub un uc)) mgT)]) := hM8
              have HRo : Hid (Row w8 ao p.opts) := hr8.2
              clear kd kfd HM7 HR7
              have kd : ∀ i, w8.cell? ⟨D, i, none⟩ = (mgA m.typ m.code S (s.port * 65536 + m.rest % 65536) (.slice ub un uc))[i]? := hM8.cell 4 rfl
              have hv8 : MgV w8 0 (.agg (mgA m.typ m.code S (s.port * 65536 + m.rest % 65536) (.slice ub un uc))) ((m.id s.port).at S) := ⟨ub, uc, by rw [← HLn.out.1] <;> rfl, hr8.1, HLn.out.2, fun _ _ => Nat.zero_le _⟩
              have hB := rmbytes_any (q := (m.id s.port).at S) (HQo.out.at HSr.out.1 HSr.out.2) hv8
              rw [← HCu.out, ← HXu.out] at hB
              generalize mgbErr (msl (m.id s.port)) = E9 at *
              clear hv8 hr8 hM8
              go_wp2_with fail
              refine hB.mono ?_
              rintro e w9 ⟨x, rfl, hown, hb9⟩
              obtain ⟨xa, xc, rfl⟩ := own_len hown
              have hM9 := HM8.out.after hb9
              have HM9 : Hid (Mem w w9 _) := hM9
              have HO9 : Hid (Row w9 ao p.opts ∧ Q < w8.heap.size) := ⟨HRo.out.below hb9 (Nat.le_refl _), HM8.out.ltAt 2 rfl⟩
              have HX9 : Hid (w9.ownsRow w8.heap.size 5 1 (.slice xa X.length xc) X.length (X.map (Value.int .u8))) := hown
              have k9 : w9.cell? ⟨Q, 9, none⟩ = some (.slice bo nb cb) := hM9.cell 2 rfl 9
              have kf9 : ∀ i, w9.frozen? ⟨Q, i, none⟩ = false := hM9.free 2 rfl
              clear hB hown hb9 hM9 kd
              go_wp2_with fail
              go_meet
              case rel =>
                obtain ⟨za, zc, e, hr, hnil, hfar, -⟩ := own_read HX9.out rfl HXb.out.1 (by have := HXb.out.2; omega)
                cases e
                exact ⟨rfl, rfl, xa, xc, (HM9.out.set 2 rfl 9 _).lead, HO9.out.1.beside HFa.out, hr.beside (Or.inr fun y hy e => by have := hfar y hy; have := HO9.out; omega), hnil, HPf.out⟩
            · obtain ⟨h1, h2⟩ := HRet.out false rfl (by rw [hpd]; exact decide_eq_false hz)
              have HEU : Hid (EE = 21 ∧ UU = []) := ⟨h1, h2⟩
              have z1 : (s.port != d.port) = true := bne_iff_ne.mpr hz
              clear h1 h2 hpd hz
              go_wp2_with fail
              go_ret2
              exact ⟨_, by rw [HEU.out.1] <;> rfl, by rw [HEU.out.2]; exact World.ownsRow_nil _ _ _ _, HBe.out⟩
    case rest =>
      obtain ⟨rfl, rfl, xa, xc, hM5, hro, hrx, hnx, hpf⟩ := hcut
      rw [if_neg (by simp [hpf])] at HE HU
      have HM5 : Hid (Mem w wc [(w.heap.size, .cells (ptA s) ptT), (w.heap.size + 1, .cells (ptA d) ptT), (Q, .cells (ipA p.tos p.ttl p.proto p.id p.flags p.off s.ip d.ip (.slice ao no co) (.slice xa X.length xc)) ipT), (Q + 1, .cells (flB f (.slice ia ni ic)) rfT)]) := hM5
      have hv5 : IpV wc 0 (.agg (ipA p.tos p.ttl p.proto p.id p.flags p.off s.ip d.ip (.slice ao no co) (.slice xa X.length xc))) (chPk p f s d) := ⟨ao, co, xa, xc, by simp only [chPk, Pk.to, HX.out, HNO.out.1], hro, (by show Row wc xa (chBody p f s d); rw [HX.out]; exact hrx), HNl.out, hnx, fun _ _ => Nat.zero_le _, fun _ _ => Nat.zero_le _⟩
      have hB := rbytes_any (chPk_ok HO.out.1 f HO.out.2.1 HO.out.2.2.1) hv5
      have kc : ∀ i, wc.cell? ⟨Q, i, none⟩ = (ipA p.tos p.ttl p.proto p.id p.flags p.off s.ip d.ip (.slice ao no co) (.slice xa X.length xc))[i]? := hM5.cell 2 rfl
      clear hM5 hro hrx hnx hpf hv5 r2 r9 HM3 HR3
      go_wp2_with fail
      refine hB.mono ?_
      rintro e w6 ⟨u, rfl, hown, hb6⟩
      have HB6 : Hid _ := HM5.out.below.trans (hb6.mono HM5.out.below.size)
      have HU6 : Hid _ := own_base hown HM5.out.below.size
      clear hown hb6 hB kc
      go_wp2_with fail
      go_ret2
      exact ⟨_, by rw [HE.out] <;> rfl, by rw [HU.out]; exact HU6.out, HB6.out⟩
/-- What the document's own Change answers, whatever it is handed. -/
theorem rchange_any {w : World} {a : Option Addr} {n c : Nat} {l : List Int} (hr : Row w a l) (hn : l.length = n) (hc : n ≤ c) (s d : Pt) (hs : s.Ok) (hd : d.Ok) :
    Calls Tryz.prog 10 #[.slice a n c, .agg (ptA s), .agg (ptA d)] w fun e w' => ∃ u, e = .returned (.tuple #[u, .int .i64 (chErr l s d)]) ∧ w'.ownsRow w.heap.size 5 1 u (chOut l s d).length ((chOut l s d).map (Value.int .u8)) ∧ Below w.heap.size w w' := by
  by_cases h0 : lkErr l = 0
  · exact rchange_yes hr hn hc s d hs hd h0
  · refine (rchange_no hr hn hc s d h0).mono ?_
    rintro e w' ⟨rfl, hb⟩
    rw [show chErr l s d = lkErr l by unfold chErr; rw [if_pos h0], show chOut l s d = [] by unfold chOut; rw [if_pos h0]]
    exact ⟨_, rfl, World.ownsRow_nil _ _ _ _, hb⟩
end Go.Proofs.YtjalpbkfpjfigaaGreat

