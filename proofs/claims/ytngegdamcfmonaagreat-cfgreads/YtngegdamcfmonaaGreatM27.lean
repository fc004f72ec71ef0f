/-
  Settings as bytes: the program's whole (lych/api.Change): what all bytes are.
  Settings as bytes: the document's own reader: pairs.
  Settings as bytes: the field of the tenants.
  Settings as bytes: a tenant that was written is read back, but for what was cut off, and no part of it is read.
  Settings held against one another: lychhelp.Tenant, at any two tenants.
-/
import Derived.Test.YtngegdamcfmonaaGreatM23
import Derived.Test.YtngegdamcfmonaaGreatM25
import Derived.Test.YtngegdamcfmonaaGreatM24
namespace Go.Proofs.YtngegdamcfmonaaGreat
open Go.RowKit
open Sm
open Cf
set_option linter.unusedVariables false
set_option maxRecDepth 20000

set_option maxHeartbeats 8000000 in
theorem whole_H {α ρ : Type} {w W : World} {E L : List (Nat × Obj)} {I : Rp α ρ} {J : St' α} {f : Fv} {s : Sp α} {a : Option Addr} {l : List Int} {c : Nat} (h : Mem w W (E ++ L)) (er : Ent f.kr)
    (hrd : ∀ K, Sub E K → ∀ x g T pre post a l c V, J w x g T pre post V K → Sl w a l c → Calls Tryz.prog f.kr (#[.slice a l.length c, .pointer (some ⟨g, pre.length, none⟩)] ++ f.cr) V (RPost w K (fun y V' => J w y g T pre post V' K) (s.dec l x)))
    (hS : Sl w a l c) (x0 : α) (hz : ∀ g V K, Mem w V ((g, .cells hz0 35 (0, 0)) :: K) → J w x0 g 35 [] [] V K) (Q : α → World → Value → Prop) (hJM : ∀ x V K, J w x (W.heap.size + 1 + 1) 35 [] [] V K → Mem w V K)
    (hfin : ∀ x g rb z V K, Sub (E ++ L) K → J w x g 35 [] [] V ((rb, .cells z 35 (0, 0)) :: K) → ∃ tl, V.heap[g]? = some (.cells tl 35 (0, 0)) ∧ tl.size = 35 ∧ tl.all (·.oneCell') = true ∧ V.heap[rb]? = some (.cells z 35 (0, 0)) ∧ Mem w (V.setRow rb tl) ((rb, .cells tl 35 (0, 0)) :: K) ∧ Q x (V.setRow rb tl) (.agg tl)) :
    Calls Tryz.prog 43 #[f.val, .slice a l.length c] W fun e W' => Mem w W' (E ++ L) ∧ match s.dec l x0 with
      | some (x, []) => ∃ v, e = .returned (.tuple #[v, .int .i64 0]) ∧ Q x W' v
      | _ => e = .returned (.tuple #[.agg hz0, .int .i64 70]) := by
  obtain ⟨k1, k2, k3, c1, c2, c3⟩ := f
  obtain ⟨bf, hbf⟩ : ∃ bf, W.heap.size = bf := ⟨_, rfl⟩
  rw [hbf] at hJM
  have hM0 : Mem w ((((W.alloc (.cells #[.func (.func k1) #[] c1, .func (.func k2) #[] c2, .func (.func k3) #[] c3] 86)).alloc (.cells hz0 35)).alloc (.cells hz0 35)).alloc (.cells hz0 35))
      ((bf + 1 + 1, .cells hz0 35 (0, 0)) :: (bf + 1, .cells hz0 35 (0, 0)) :: (bf + 1 + 1 + 1, .cells hz0 35 (0, 0)) :: (bf, .cells #[.func (.func k1) #[] c1, .func (.func k2) #[] c2, .func (.func k3) #[] c3] 86 (0, 0)) :: (E ++ L)) := by
    have h1 := (((h.push bf (.cells #[.func (.func k1) #[] c1, .func (.func k2) #[] c2, .func (.func k3) #[] c3] 86 (0, 0)) hbf.symm).push (bf + 1) (.cells hz0 35 (0, 0)) (by simp; omega)).push (bf + 1 + 1) (.cells hz0 35 (0, 0)) (by simp; omega)).push (bf + 1 + 1 + 1) (.cells hz0 35 (0, 0)) (by simp; omega)
    refine h1.perm ?_
    classical
    rw [List.perm_iff_count]
    intro q
    simp only [List.count_append, List.count_cons, List.count_nil]
    omega
  have hJ0 := hz (bf + 1 + 1) _ _ hM0
  have CR := hrd ((bf + 1, .cells hz0 35 (0, 0)) :: (bf + 1 + 1 + 1, .cells hz0 35 (0, 0)) :: (bf, .cells #[.func (.func k1) #[] c1, .func (.func k2) #[] c2, .func (.func k3) #[] c3] 86 (0, 0)) :: (E ++ L)) (fun q hq => List.mem_cons_of_mem _ (List.mem_cons_of_mem _ (List.mem_cons_of_mem _ (List.mem_append_left _ hq)))) x0 (bf + 1 + 1) 35 [] [] a l c _ hJ0 hS
  have eg : ∀ args V, (callFunc k2 args).run Tryz.prog V = .ok (.enter k2 args) V := er
  simp only [List.length_nil] at CR
  obtain ⟨R, hR⟩ : ∃ R, s.dec l x0 = R := ⟨_, rfl⟩
  rw [hR] at CR ⊢
  simp only [Fv.val]
  have HFIN := hfin
  have HF : Hid (∀ x g rb z V K, Sub (E ++ L) K → J w x g 35 [] [] V ((rb, .cells z 35 (0, 0)) :: K) → ∃ tl, V.heap[g]? = some (.cells tl 35 (0, 0)) ∧ tl.size = 35 ∧ tl.all (·.oneCell') = true ∧ V.heap[rb]? = some (.cells z 35 (0, 0)) ∧ Mem w (V.setRow rb tl) ((rb, .cells tl 35 (0, 0)) :: K) ∧ Q x (V.setRow rb tl) (.agg tl)) := hfin
  clear hrd hfin HFIN hz hJ0 hM0 hR h er
  have hsz : (Tryz.prog.info? 35).map (·.size) = some (hz0).size := by kernel_rfl
  generalize l.length = n at *
  have key : ∀ V M, Mem w V ((bf + 1, .cells hz0 35 (0, 0)) :: (bf + 1 + 1 + 1, .cells hz0 35 (0, 0)) :: M) → V.heap[bf + 1]? = some (.cells hz0 35 (0, 0)) ∧ V.heap[bf + 1 + 1 + 1]? = some (.cells hz0 35 (0, 0)) ∧ Mem w (V.setRow (bf + 1) hz0) ((bf + 1, .cells hz0 35 (0, 0)) :: (bf + 1 + 1 + 1, .cells hz0 35 (0, 0)) :: M) := by
    intro V M hV
    exact ⟨hV.get 0 rfl, hV.get 1 rfl, hV.wrote 0 rfl (wrote_setRow V (bf + 1) _ _ _ (hV.get 0 rfl))⟩
  have KY : Hid (∀ V M, Mem w V ((bf + 1, .cells hz0 35 (0, 0)) :: (bf + 1 + 1 + 1, .cells hz0 35 (0, 0)) :: M) → V.heap[bf + 1]? = some (.cells hz0 35 (0, 0)) ∧ V.heap[bf + 1 + 1 + 1]? = some (.cells hz0 35 (0, 0)) ∧ Mem w (V.setRow (bf + 1) hz0) ((bf + 1, .cells hz0 35 (0, 0)) :: (bf + 1 + 1 + 1, .cells hz0 35 (0, 0)) :: M)) := key
  clear key
  have hzone : (hz0 : Array Value).all (·.oneCell') = true := by kernel_rfl
  have hsub : ∀ V A, Mem w V ((bf + 1, A) :: (bf + 1 + 1 + 1, .cells hz0 35 (0, 0)) :: (bf, .cells #[.func (.func k1) #[] c1, .func (.func k2) #[] c2, .func (.func k3) #[] c3] 86 (0, 0)) :: (E ++ L)) → Mem w V (E ++ L) := fun V A h => h.sub.sub.sub
  have HS : Hid (∀ V A, Mem w V ((bf + 1, A) :: (bf + 1 + 1 + 1, .cells hz0 35 (0, 0)) :: (bf, .cells #[.func (.func k1) #[] c1, .func (.func k2) #[] c2, .func (.func k3) #[] c3] 86 (0, 0)) :: (E ++ L)) → Mem w V (E ++ L)) := hsub
  clear hsub
  cases R with
  | none =>
    go_enter Tryz.func43, Tryz.ntmps43
    go_wp2_with fail
    refine CR.mono ?_
    rintro e V ⟨rfl, hM⟩
    obtain ⟨g1, g2, hM4⟩ := KY.out V _ hM
    clear CR
    go_wp2_with (first | (refine wpList_load_row rfl 35 (.tmp 7) (by with_reducible rfl) (bf + 1 + 1 + 1) rfl 35 _ (0, 0) _ g2 Tryz.underlying35 rfl hsz ?_) | (refine wpList_store_row rfl 35 (.tmp 4) (.tmp 24) (by with_reducible rfl) (bf + 1) hz0 rfl rfl 35 _ g1 hsz rfl hzone ?_))
    refine bodyPost_ret (v := .tuple #[.agg hz0, .int .i64 70]) ?_ rfl ⟨HS.out _ _ hM4, rfl⟩
    exact results_two' (p := 4) (q := 5) (ty := 35) rfl _ _ (bf + 1) _ rfl (run_loadVar_row _ _ 35 35 _ (0, 0) _ (hM4.get 0 rfl) Tryz.underlying35 rfl hsz)
  | some y =>
    obtain ⟨x, l'⟩ := y
    cases l' with
    | nil =>
      go_enter Tryz.func43, Tryz.ntmps43
      go_wp2_with fail
      refine CR.mono ?_
      rintro e V ⟨a2, c2', rfl, hS2, hJ⟩
      obtain ⟨tl, hg, htl, hone, hgr, hM4, hQ⟩ := HF.out _ _ _ _ _ _ (fun q hq => List.mem_cons_of_mem _ (List.mem_cons_of_mem _ hq)) hJ
      have hi33 : (Tryz.prog.info? 35).map (·.size) = some tl.size := by rw [htl]; kernel_rfl
      have HQ : Hid (Q x (V.setRow (bf + 1) tl) (.agg tl)) := hQ
      clear CR hJ hS2 HF hQ KY
      go_wp2_with (first | (refine wpList_load_row rfl 35 (.tmp 6) (by with_reducible rfl) (bf + 1 + 1) rfl 35 tl (0, 0) _ hg Tryz.underlying35 rfl hi33 ?_) | (refine wpList_store_row rfl 35 (.tmp 4) (.tmp 25) (by with_reducible rfl) (bf + 1) tl rfl rfl 35 _ hgr hi33 (by rw [htl]; rfl) hone ?_))
      refine bodyPost_ret (v := .tuple #[.agg tl, .int .i64 0]) ?_ rfl ⟨HS.out _ _ hM4, _, rfl, HQ.out⟩
      exact results_two' (p := 4) (q := 5) (ty := 35) rfl _ _ (bf + 1) _ rfl (run_loadVar_row _ _ 35 35 _ (0, 0) _ (hM4.get 0 rfl) Tryz.underlying35 rfl hi33)
    | cons b r =>
      go_enter Tryz.func43, Tryz.ntmps43
      go_wp2_with fail
      refine CR.mono ?_
      rintro e V ⟨a2, c2', rfl, hS2, hJ⟩
      have hM := hJM _ _ _ hJ
      obtain ⟨g1, g2, hM4⟩ := KY.out V _ hM
      have hpos : (0 : Int) < ((b :: r).length : Int) := by simp only [List.length_cons]; omega
      clear CR hJ hS2 HF hM
      generalize (b :: r).length = m at *
      go_wp2_with (first | (refine wpList_load_row rfl 35 (.tmp 7) (by with_reducible rfl) (bf + 1 + 1 + 1) rfl 35 _ (0, 0) _ g2 Tryz.underlying35 rfl hsz ?_) | (refine wpList_store_row rfl 35 (.tmp 4) (.tmp 24) (by with_reducible rfl) (bf + 1) hz0 rfl rfl 35 _ g1 hsz rfl hzone ?_))
      refine bodyPost_ret (v := .tuple #[.agg hz0, .int .i64 70]) ?_ rfl ⟨HS.out _ _ hM4, rfl⟩
      exact results_two' (p := 4) (q := 5) (ty := 35) rfl _ _ (bf + 1) _ rfl (run_loadVar_row _ _ 35 35 _ (0, 0) _ (hM4.get 0 rfl) Tryz.underlying35 rfl hsz)
end Go.Proofs.YtngegdamcfmonaaGreat

namespace Go.Proofs.YtngegdamcfmonaaGreat
open Go.RowKit
open Sm
open Cf
set_option linter.unusedVariables false
set_option linter.unusedSimpArgs false
set_option maxRecDepth 20000

/-- So many pairs, while there are bytes; and what is left. -/
def prs : Nat → Option (List Int) → List (Int × Int) × Option (List Int)
  | 0, σ => ([], σ)
  | _ + 1, none => ([], none)
  | n + 1, some r => ((num (tk 4 (some r)), num (tk 4 (nx 4 (some r)))) :: (prs n (nx 4 (nx 4 (some r)))).1, (prs n (nx 4 (nx 4 (some r)))).2)
/-- A list of the call's own in blocks B. -/
def OwB (T : TypeId) (sz : Nat) (v : Value) (n : Nat) (xs : List Value) (B : List (Nat × Obj)) : Prop :=
  xs.length = n * sz ∧ ((v = .slice none 0 0 ∧ n = 0 ∧ B = []) ∨ ∃ g cap cur, v = .slice (some ⟨g, 0, none⟩) n cap ∧ B = [(g, .cells cur T (0, 0))] ∧ n ≤ cap ∧ cap ≤ maxLen ∧ cur.size = cap * sz ∧ cur.toList.take (n * sz) = xs)
theorem OwB.nil (T : TypeId) (sz : Nat) : OwB T sz (.slice none 0 0) 0 [] [] := ⟨by simp, Or.inl ⟨rfl, rfl, rfl⟩⟩
theorem OwB.ow {w V : World} {T : TypeId} {sz n : Nat} {v : Value} {xs : List Value} {B L : List (Nat × Obj)} (h : OwB T sz v n xs B) (hM : Mem w V (B ++ L)) : Ow w V T sz v n xs L := by
  obtain ⟨h1, h2⟩ := h
  refine ⟨h1, ?_⟩
  rcases h2 with ⟨rfl, e, rfl⟩ | ⟨g, cap, cur, rfl, rfl, r⟩
  · exact Or.inl ⟨rfl, e, hM⟩
  · exact Or.inr ⟨g, cap, cur, rfl, hM, r⟩
theorem Ow.owb {w V : World} {T : TypeId} {sz n : Nat} {v : Value} {xs : List Value} {L : List (Nat × Obj)} (h : Ow w V T sz v n xs L) : ∃ B, OwB T sz v n xs B ∧ Mem w V (B ++ L) := by
  obtain ⟨h1, h2⟩ := h
  rcases h2 with ⟨rfl, e, hM⟩ | ⟨g, cap, cur, rfl, hM, r⟩
  · exact ⟨[], ⟨h1, Or.inl ⟨rfl, e, rfl⟩⟩, hM⟩
  · exact ⟨[(g, .cells cur T (0, 0))], ⟨h1, Or.inr ⟨g, cap, cur, rfl, rfl, r⟩⟩, hM⟩
/-- A list that grows beside a reader: one element more. -/
theorem rd_append {w V : World} {gr : Nat} {a : Option Addr} {l : List Int} {c : Nat} {σ : Option (List Int)} {K B : List (Nat × Obj)} {t e ty : TypeId} {sz bytes n : Nat} {z v : Value} {xs : List Value} (ht : Tryz.prog.underlying t = some (.slice e)) (hi : (Tryz.prog.info? e).map (fun i => (i.zero, i.size, i.bytes)) = some (some z, sz, bytes)) (hzs : z.cells.size = sz) (hsz : 0 < sz)
    (h : Rd w V gr a l c σ (B ++ K)) (hB : OwB e sz v n xs B) (ad : Addr) (news : List Value) (hl : news.length = sz) (hnews : ∀ j u, news[j]? = some u → V.cell? (ad.add j) = some u) (h1 : ∀ u ∈ news, u.oneCell' = true) (h63 : n + 1 ≤ 1000000) (hb : (n + 1) * bytes ≤ 140737488355328) :
    ∃ v' V' B', (Builtin.append_ #[t, t] ty #[v, .slice (some ad) 1 1]).run Tryz.prog V = .ok v' V' ∧ Rd w V' gr a l c σ (B' ++ K) ∧ OwB e sz v' (n + 1) (xs ++ news) B' := by
  obtain ⟨i, k1, hM, k3⟩ := h
  have hM2 : Mem w V (B ++ ((gr, .cells #[.slice a l.length c, .int .i64 i, .bool σ.isNone] 95 (0, 0)) :: K)) := hM.perm List.perm_middle.symm
  obtain ⟨v', V', hr, hO⟩ := ow_append (ty := ty) ht hi hzs hsz (hB.ow hM2) ad 1 1 news (by omega) hnews h1 (by unfold maxLen; omega) hb
  obtain ⟨B', hB', hM'⟩ := hO.owb
  exact ⟨v', V', B', hr, ⟨i, k1, hM'.perm List.perm_middle, k3⟩, hB'⟩
theorem px_snoc (acc : List (Int × Int)) (x : Int × Int) : (px (acc ++ [x])).flatten = (px acc).flatten ++ [.int .u32 x.1, .int .u32 x.2] := by simp [px]
theorem ux_snoc (acc : List Int) (x : Int) : (ux (acc ++ [x])).flatten = (ux acc).flatten ++ [.int .u32 x] := by simp [ux]
theorem addr_mid (b off j : Nat) : (Addr.mk b off none).add j = ⟨b, off + j, none⟩ := Addr.add_mid b off j
theorem tk4 {σ : Option (List Int)} (h : ∀ r, σ = some r → IsBytes r) : 0 ≤ num (tk 4 σ) ∧ num (tk 4 σ) < 4294967296 := by
  have h1 := num_range (tk_bytes 4 h)
  rw [tk_len] at h1
  have : (256 : Int) ^ 4 = 4294967296 := by decide
  omega
set_option maxHeartbeats 8000000 in
theorem rpairs2_any {w V : World} {gr : Nat} {a : Option Addr} {l : List Int} {c : Nat} {σ : Option (List Int)} {K : List (Nat × Obj)} (h : Rd w V gr a l c σ K) (hS : Sl w a l c) (hl : l.length ≤ 1000000) (n : Nat) (hn : n ≤ 255) :
    Calls Tryz.prog 92 #[.pointer (some ⟨gr, 0, none⟩), .int .i64 n] V fun e V' => ∃ v, e = .returned v ∧ ∃ B, Rd w V' gr a l c (prs n σ).2 (B ++ K) ∧ OwB 142 2 v (prs n σ).1.length (px (prs n σ).1).flatten B := by
  obtain ⟨R1, hR1⟩ : ∃ R, (prs n σ).1 = R := ⟨_, rfl⟩
  obtain ⟨R2, hR2⟩ : ∃ R, (prs n σ).2 = R := ⟨_, rfl⟩
  rw [hR1, hR2]
  have HS : Hid (Sl w a l c ∧ l.length ≤ 1000000) := ⟨hS, hl⟩
  have H0 : Hid (∃ B, Rd w V gr a l c σ (B ++ K) ∧ OwB 142 2 (.slice none 0 0) ([] : List (Int × Int)).length (px []).flatten B ∧ ([] : List (Int × Int)).length = 0 ∧ [] ++ (prs (n - 0) σ).1 = R1 ∧ (prs (n - 0) σ).2 = R2) := ⟨[], h, OwB.nil _ _, rfl, by simpa using hR1, by simpa using hR2⟩
  clear h hS hl hR1 hR2
  go_enter Tryz.func92, Tryz.ntmps92
  go_wp2_with fail
  go_loopw [5, 6] (fun u5 u6 w' => ∃ (i : Nat) (acc : List (Int × Int)) (τ : Option (List Int)), i ≤ n ∧ u6 = .int .i64 i ∧ Hid (∃ B, Rd w w' gr a l c τ (B ++ K) ∧ OwB 142 2 u5 acc.length (px acc).flatten B ∧ acc.length = i ∧ acc ++ (prs (n - i) τ).1 = R1 ∧ (prs (n - i) τ).2 = R2)) (fun u5 u6 w' => n - (intOf u6).toNat)
  case atStart => exact ⟨0, [], σ, Nat.zero_le _, rfl, H0⟩
  case round =>
    obtain ⟨i, acc, τ, hi, rfl, HR⟩ := hrel
    clear H0
    obtain ⟨B, hRd, hB, hacc, hp1, hp2⟩ := HR.out
    have cbad : wr.cell? ⟨gr, 2, none⟩ = some (.bool τ.isNone) := by
      obtain ⟨j, -, hm, -⟩ := hRd
      exact hm.cell 0 rfl 2
    by_cases hlt : i < n
    · have h1 : (i : Int) < n := by omega
      cases τ with
      | none =>
        simp only [Option.isNone_none] at cbad
        have e : n - i = (n - i - 1) + 1 := by omega
        rw [e, prs] at hp1 hp2
        simp only [List.append_nil] at hp1 hp2
        subst hp1
        subst hp2
        have HF : Hid (∃ B, Rd w wr gr a l c none (B ++ K) ∧ OwB 142 2 u5 acc.length (px acc).flatten B) := ⟨B, hRd, hB⟩
        clear HR hRd hB hacc
        go_wp2_with fail
        go_ret
        obtain ⟨B, h1, h2⟩ := HF.out
        exact ⟨_, rfl, B, h1, h2⟩
      | some r =>
        simp only [Option.isNone_some] at cbad
        have e : n - i = (n - (i + 1)) + 1 := by omega
        rw [e, prs] at hp1 hp2
        simp only at hp1 hp2
        have b1 := tk4 (hRd.bytes HS.out.1)
        have CN := rn_any hRd HS.out.1 4 (by omega) HS.out.2
        have HB : Hid (OwB 142 2 u5 acc.length (px acc).flatten B) := hB
        have hb2 : ∀ r', nx 4 (some r) = some r' → IsBytes r' := by
          intro r' hr'
          have hbr := hRd.bytes HS.out.1 r rfl
          simp only [nx] at hr'
          split at hr'
          · simp only [Option.some.injEq] at hr'
            rw [← hr']
            exact bytes_dr hbr 4
          · cases hr'
        have b2 := tk4 hb2
        have HP : Hid (acc.length = i ∧ acc ++ ((num (tk 4 (some r)), num (tk 4 (nx 4 (some r)))) :: (prs (n - (i + 1)) (nx 4 (nx 4 (some r)))).1) = R1 ∧ (prs (n - (i + 1)) (nx 4 (nx 4 (some r)))).2 = R2) := ⟨hacc, hp1, hp2⟩
        obtain ⟨x, hx⟩ : ∃ x, num (tk 4 (some r)) = x := ⟨_, rfl⟩
        obtain ⟨y, hy⟩ : ∃ y, num (tk 4 (nx 4 (some r))) = y := ⟨_, rfl⟩
        obtain ⟨τ2, hτ⟩ : ∃ y, nx 4 (nx 4 (some r)) = y := ⟨_, rfl⟩
        rw [hx, hy, hτ] at HP
        rw [hx] at CN b1
        rw [hy] at b2
        have HE : Hid (num (tk 4 (nx 4 (some r))) = y ∧ nx 4 (nx 4 (some r)) = τ2) := ⟨hy, hτ⟩
        have w1 : IntKind.u32.wrap x = x := wraps_u32 x b1.1 (by omega)
        have w2 : IntKind.u32.wrap y = y := wraps_u32 y b2.1 (by omega)
        have w3 : x % 4294967296 = x := by omega
        have w4 : y % 4294967296 = y := by omega
        simp only [Int.cast_ofNat_Int] at CN
        clear HR hRd hB hacc hp1 hp2 hb2 hx hy hτ
        go_wp2_with fail
        refine CN.mono ?_
        rintro e V1 ⟨rfl, hR1⟩
        have CN2 := rn_any hR1 HS.out.1 4 (by omega) HS.out.2
        rw [HE.out.1, HE.out.2] at CN2
        simp only [Int.cast_ofNat_Int] at CN2
        clear CN hR1 cbad
        go_wp2_with fail
        refine CN2.mono ?_
        rintro e V2 ⟨rfl, hR2⟩
        have hR3 := hR2.after ((Below.refl V2.heap.size V2).alloc (Nat.le_refl _) (.cells #[.int .u32 x, .int .u32 y] 142 (0, 0)))
        obtain ⟨v4, V4, B4, hrun, hR4, hB4⟩ := rd_append (t := 31) (ty := 31) Tryz.underlying31 infoP rfl (by decide) hR3 HB.out ⟨V2.heap.size, 0, none⟩ [.int .u32 x, .int .u32 y] rfl (fun j u hj => by
          rw [addr_mid, Nat.zero_add, World.cell?_alloc_new]
          simpa using hj) (by simp; exact ⟨rfl, rfl⟩) (by have := HP.out.1; omega) (by have := HP.out.1; omega)
        have HH : Hid (∃ B, Rd w V4 gr a l c τ2 (B ++ K) ∧ OwB 142 2 v4 (acc ++ [(x, y)]).length (px (acc ++ [(x, y)])).flatten B ∧ (acc ++ [(x, y)]).length = i + 1 ∧ (acc ++ [(x, y)]) ++ (prs (n - (i + 1)) τ2).1 = R1 ∧ (prs (n - (i + 1)) τ2).2 = R2) := by
          refine ⟨B4, hR4, ?_, by simp [HP.out.1], by rw [List.append_assoc]; exact HP.out.2.1, HP.out.2.2⟩
          rw [px_snoc, List.length_append]
          exact hB4
        clear CN2 hR2 hR3 hR4 hB4 HP HB HE
        go_wp2_with (at_builtin; refine wpList_append_run (.tmp 27) (.tmp 31) 31 31 (by with_reducible rfl) hrun rfl rfl (by simp [Act.eval]) (by simp [Act.eval]) ?_)
        go_roundw
        case rel => exact ⟨i + 1, acc ++ [(x, y)], τ2, by omega, by go_num, HH⟩
        case measure => simp [intOf]; omega
    · obtain rfl : i = n := by omega
      have h1 : ¬ ((i : Int) < i) := by omega
      rw [Nat.sub_self, prs] at hp1 hp2
      simp only [List.append_nil] at hp1 hp2
      subst hp1
      subst hp2
      have HF : Hid (∃ B, Rd w wr gr a l c τ (B ++ K) ∧ OwB 142 2 u5 acc.length (px acc).flatten B) := ⟨B, hRd, hB⟩
      clear HR hRd hB hacc
      go_wp2_with fail
      go_ret
      obtain ⟨B, h1, h2⟩ := HF.out
      exact ⟨_, rfl, B, h1, h2⟩
end Go.Proofs.YtngegdamcfmonaaGreat

namespace Go.Proofs.YtngegdamcfmonaaGreat
open Go.RowKit
open Sm
open Cf
set_option linter.unusedVariables false
set_option maxRecDepth 20000

def fvItm_CT (bo bi : Nat) : Fv := ⟨110, 111, 112, #[.pointer (some ⟨bo, 0, none⟩), .pointer (some ⟨bi, 0, none⟩)], #[.pointer (some ⟨bo, 0, none⟩), .pointer (some ⟨bi, 0, none⟩)], #[.pointer (some ⟨bo, 0, none⟩), .pointer (some ⟨bi, 0, none⟩)]⟩
/-- Tenants one behind the other. -/
def spTenants : Sp Cgf := ⟨fun c => cat (fun i => tenc (c.ten.getD i ten0)) (min c.ten.length 255), fun l c => (sq (itd ten0 spT) 0 c.ten.length l c.ten).map (fun q => ({ c with ten := q.1 }, q.2)), fun _ _ => false⟩
theorem pick {α : Type} : ∀ (l : List α) (i : Nat), i < l.length → ∃ A z B, l = A ++ z :: B ∧ A.length = i
  | z :: l, 0, _ => ⟨[], z, l, rfl, rfl⟩
  | y :: l, i + 1, h => by
    obtain ⟨A, z, B, e, hA⟩ := pick l i (by simpa using h)
    exact ⟨y :: A, z, B, by rw [e]; rfl, by simp [hA]⟩
theorem fw_Itm_CT {w : World} {L : List (Nat × Obj)} (bo bi ko : Nat) (fi : Fv) (hfi : Fd w L IT JT fi spT)
    (mo : (bo, .cells #[.func (.func ko) #[] #[]] 110 (0, 0)) ∈ L) (mi : (bi, .cells fi.cells.toArray 79 (0, 0)) ∈ L)
    (eo : Ent ko) (ho : ∀ V g off, Calls Tryz.prog ko #[.pointer (some ⟨g, off, none⟩)] V fun e V' => e = .returned (.pointer (some ⟨g, off + 28, none⟩)) ∧ V = V') :
    Fw w L IC JC (fvItm_CT bo bi) spTenants := by
  have ci : ∀ K, Sub L K → ∀ V, Mem w V K → V.cell? ⟨bi, 0, none⟩ = some (.func (.func fi.kw) #[] fi.cw) ∧ V.cell? ⟨bi, 1, none⟩ = some (.func (.func fi.kr) #[] fi.cr) ∧ V.cell? ⟨bi, 2, none⟩ = some (.func (.func fi.ks) #[] fi.cs) :=
    fun K hK V hV => ⟨by rw [mem_box hV (hK _ mi)]; rfl, by rw [mem_box hV (hK _ mi)]; rfl, by rw [mem_box hV (hK _ mi)]; rfl⟩
  refine ⟨enters_of Tryz.func110 (by kernel_rfl) rfl, enters_of Tryz.func111 (by kernel_rfl) rfl, ?_, ?_⟩
  · rintro K hK x ⟨sv, zs⟩ g off hx v l V hO hb
    have h0 := hx V hO.mem
    have hlen : (zs.map zc).length = x.ten.length := by rw [List.length_map, ← h0.2.2.1, List.length_map]
    have := iwr_CT hO bo bi ko fi.kw fi.kr fi.ks fi.cw fi.cr fi.cs ⟨g, off, none⟩ ⟨g, off + 28, none⟩ sv (zs.map zc) ?hx (fun V hV => by rw [mem_box hV (hK _ mo)]; rfl) (ci K hK) eo (fun V => ho V g off) hfi.ew
      (fun V hV => (hx V hV).cell 28 (cget (hx V hV).1.len (by rintro ip a b c d f g a1 b1 c1 d1 f1 g1 a2 b2 c2 d2 f2 g2 k1 k2 k3 k4 k5 k6 k7 k8 dr te rfl; rfl))) (fun V hV => (hx V hV).2.2.2.1) (fun i => tenc (x.ten.getD i ten0)) ?hw (by rw [hlen]; exact hb)
    case hx =>
      intro q hq
      obtain ⟨z, hz, rfl⟩ := List.mem_map.mp hq
      have h1 := h0.2.2.2.2 z hz
      exact ⟨tc_len h1.1.len _ _ _, zc_one h1.2⟩
    case hw =>
      intro i hi ge v l V hV hbb
      rw [hlen] at hi
      have hil : i < zs.length := by rw [List.length_map] at hlen; omega
      obtain ⟨z, hz⟩ : ∃ z, zs[i]? = some z := ⟨_, List.getElem?_eq_getElem hil⟩
      have hzm : z ∈ zs := List.mem_of_getElem? hz
      have ez : (zs.map zc).getD i [] = zc z := by simp [List.getD, hz]
      have ed : x.ten.getD i ten0 = z.1 := by rw [← h0.2.2.1]; simp [List.getD, hz]
      rw [ez] at hV
      simp only [ed] at hbb ⊢
      refine (hfi.wr _ (hK.cons _) z.1 z.2 ge 0 (fun V hV => ?_) v l V hV hbb).mono ?_
      · obtain ⟨h1, h2⟩ := (hx V hV.sub).2.2.2.2 z hzm
        refine ⟨h1, fun j u hj => ?_, h2⟩
        rw [Nat.zero_add, hV.cell 0 rfl, List.getElem?_toArray]
        exact hj
      · rintro e V' ⟨v', h1, h2⟩
        exact ⟨v', h1, h2.drop⟩
    rw [hlen] at this
    exact this
  · intro K hK x g T pre post a l c V hj hS
    obtain ⟨hle, hb, M, sa, sc, hsa, hsub, hback, hcell, hIM, hset⟩ := lens_Iten x g T pre post V K hj
    have := ird_CT (σ := List Ten) (w := w) (L := M) (J := fun ys V => ys.length = x.ten.length ∧ IMT w hb M V ys) ?st (fun ys V h => by obtain ⟨-, zs, -, -, h⟩ := h; exact h.dropA) bo bi ko fi.kw fi.kr fi.ks fi.cw fi.cr fi.cs ⟨g, pre.length, none⟩ ⟨g, pre.length + 28, none⟩ sa x.ten.length sc hle hb hsa
      (fun V hV => by rw [mem_box hV (hsub _ (hK _ mo))]; rfl) (ci M (hK.trans hsub)) eo (fun V => ho V g pre.length) hfi.er (itd ten0 spT) ?hr x.ten l a c V ⟨rfl, hIM⟩ hS hcell
    case st =>
      rintro ys V V' ⟨h1, zs, h2, h3, h4⟩ hB
      exact ⟨h1, zs, h2, h3, h4.after hB⟩
    case hr =>
      rintro i hi ys l a c V ⟨h1, zs, rfl, h3, h4⟩ hS
      rw [List.length_map] at h1
      obtain ⟨A, z, B, rfl, hA⟩ := pick zs i (by omega)
      have ed : ((A ++ z :: B).map Prod.fst).getD i ten0 = z.1 := by
        subst hA; simp [List.getD]
      have es : ∀ q : Ten, ∀ n : Nat × Nat × Nat, ((A ++ z :: B).map Prod.fst).set i q = (A ++ (q, n) :: B).map Prod.fst := by
        intro q n; subst hA; simp [List.set_append_right]
      have hokA : ∀ z ∈ A, tok z := fun z hz => h3 z (List.mem_append_left _ hz)
      have hpl : (A.flatMap tcs).length = i * 33 := by rw [tcs_len hokA, hA]
      have ft : ∀ u : Tz, (A ++ u :: B).flatMap tcs = A.flatMap tcs ++ (tcs u ++ B.flatMap tcs) := fun u => by simp
      have fb : ∀ u : Tz, ((A ++ u :: B).flatMap tbs ++ M).Perm (lb u.2.1 22 (ux u.1.pool) ++ (lb u.2.2.1 142 (px u.1.stat) ++ (lb u.2.2.2 142 (px u.1.twi) ++ (A.flatMap tbs ++ (B.flatMap tbs ++ M))))) := by
        intro u
        classical
        rw [List.perm_iff_count]
        intro q
        simp only [List.flatMap_append, List.flatMap_cons, tbs, List.count_append]
        omega
      rw [tbk_ne (by simp), ft] at h4
      have hz := h3 z (by simp)
      have hJ : JT w z.1 hb 33 (A.flatMap tcs) (B.flatMap tcs) V (A.flatMap tbs ++ (B.flatMap tbs ++ M)) := ⟨hz.1, hz.2, z.2.1, z.2.2.1, z.2.2.2, h4.perm ((fb z).cons _)⟩
      have := hfi.rd (A.flatMap tbs ++ (B.flatMap tbs ++ M)) (((hK.trans hsub).app _).app _) z.1 hb 33 (A.flatMap tcs) (B.flatMap tcs) a l c V hJ hS
      rw [hpl] at this
      refine this.mono ?_
      intro e V' hR
      refine hR.mono (fun q => ((A ++ z :: B).map Prod.fst).set i q) (by simp only [itd, ed]) (fun h => h.dropA.dropA) (fun q hq => ⟨by rw [List.length_set, List.length_map]; exact h1, ?_⟩)
      obtain ⟨j1, j2, hp, hs, hq', j3⟩ := hq
      refine ⟨A ++ (q, hp, hs, hq') :: B, (es q _).symm, fun u hu => ?_, ?_⟩
      · rcases List.mem_append.mp hu with hu | hu
        · exact hokA u hu
        · rcases List.mem_cons.mp hu with rfl | hu
          · exact ⟨j1, j2⟩
          · exact h3 u (List.mem_append_right _ (List.mem_cons_of_mem _ hu))
      · rw [tbk_ne (by simp), ft]
        exact j3.perm ((fb (q, hp, hs, hq')).symm.cons _)
    refine this.mono ?_
    intro e V' hR
    exact hR.mono (fun ys => { x with ten := ys }) rfl (hback V') (fun ys hy => hset ys V' hy.1 hy.2)

set_option maxHeartbeats 2000000 in
/-- The field is made. -/
theorem mk_Itm_CT {w W : World} {L : List (Nat × Obj)} (h : Mem w W L) (ko : Nat) (fi : Fv) :
    Calls Tryz.prog 60 #[.func (.func ko) #[] #[], fi.val] W fun e W' => ∃ bo bi, e = .returned (fvItm_CT bo bi).val ∧ Mem w W' ((bo, .cells #[.func (.func ko) #[] #[]] 110 (0, 0)) :: (bi, .cells fi.cells.toArray 79 (0, 0)) :: L) := by
  obtain ⟨k1, k2, k3, c1, c2, c3⟩ := fi
  have hM : Mem w ((W.alloc (.cells #[.func (.func ko) #[] #[]] 110)).alloc (.cells #[.func (.func k1) #[] c1, .func (.func k2) #[] c2, .func (.func k3) #[] c3] 79)) ((W.heap.size, .cells #[.func (.func ko) #[] #[]] 110 (0, 0)) :: (W.heap.size + 1, .cells #[.func (.func k1) #[] c1, .func (.func k2) #[] c2, .func (.func k3) #[] c3] 79 (0, 0)) :: L) := by
    have h1 := (h.push W.heap.size (.cells #[.func (.func ko) #[] #[]] 110 (0, 0)) rfl).push (W.heap.size + 1) (.cells #[.func (.func k1) #[] c1, .func (.func k2) #[] c2, .func (.func k3) #[] c3] 79 (0, 0)) (by simp)
    refine h1.perm ?_
    rw [List.append_assoc]
    exact List.perm_append_comm
  have hmf : ∀ (fn : Fn) (first cap : Array Value) (w : World), (Instr.makeFunc fn first cap).run Tryz.prog w = .ok (.func fn first cap) w := fun _ _ _ _ => rfl
  have HM : Hid (Mem w ((W.alloc (.cells #[.func (.func ko) #[] #[]] 110)).alloc (.cells #[.func (.func k1) #[] c1, .func (.func k2) #[] c2, .func (.func k3) #[] c3] 79)) ((W.heap.size, .cells #[.func (.func ko) #[] #[]] 110 (0, 0)) :: (W.heap.size + 1, .cells #[.func (.func k1) #[] c1, .func (.func k2) #[] c2, .func (.func k3) #[] c3] 79 (0, 0)) :: L)) := hM
  clear hM h
  simp only [Fv.val]
  go_enter Tryz.func60, Tryz.ntmps60
  go_wp2_with fail
  refine bodyPost_ret (v := (fvItm_CT W.heap.size (W.heap.size + 1)).val) ?_ rfl ⟨_, _, rfl, HM.out.after ((Below.refl _ _).alloc (Nat.le_refl _) _)⟩
  exact results_cell_row (p := 4) (ty := 71) rfl _ _ (W.heap.size + 1 + 1) 71 _ (0, 0) _ rfl (heap_alloc3_new _ _ _ _) Tryz.underlying71 rfl (by kernel_rfl)
end Go.Proofs.YtngegdamcfmonaaGreat

namespace Go.Proofs.YtngegdamcfmonaaGreat
open Go.RowKit
open Sm
open Cf
set_option linter.unusedVariables false
set_option maxRecDepth 20000

theorem rb_pair (y z : Int × Int) : RB spP.dec (spP.enc y) z (num (be 4 y.1), num (be 4 y.2)) := by
  obtain ⟨x', h, e⟩ := sq_rb (dec := fun i => ([spA, spB].getD i sp0).dec) (enc := fun i => ([spA, spB].getD i sp0).enc y)
    (Inv := fun k x => x = (if 0 < k then num (be 4 y.1) else z.1, if 1 < k then num (be 4 y.2) else z.2)) 2 0 z (fun k _ hk x hx => by
      subst hx
      match k, hk with
      | 0, _ => exact ⟨_, (rb_num 4 _ _ y _ : RB spA.dec (spA.enc y) _ _), rfl⟩
      | 1, _ => exact ⟨_, (rb_num 4 _ _ y _ : RB spB.dec (spB.enc y) _ _), rfl⟩) rfl
  subst e
  rw [← cat_eq] at h
  exact h
theorem rb_u (y z : Int) : RB spU.dec (spU.enc y) z (num (be 4 y)) := rb_num 4 id (fun _ y => y) y z
/-- A tenant as it is read back. -/
def tcut (t : Ten) : Ten := ⟨strOfNums ((sb t.name).take 255), num (be 4 t.vni), t.key, num (be 4 t.vtep), t.vmac, t.host, (t.pool.take 255).map (fun v => num (be 4 v)), num (be 2 t.lo), num (be 2 t.hi), num (be 1 t.filter),
  (t.stat.take 255).map (fun v => (num (be 4 v.1), num (be 4 v.2))), (t.twi.take 255).map (fun v => (num (be 4 v.1), num (be 4 v.2))), num (be 2 t.sess), num (be 2 t.queue), num (be 4 t.rate), num (be 4 t.burst)⟩
/-- What is read of it behind k fields. -/
def stt (t : Ten) (k : Nat) : Ten := ⟨if 0 < k then (tcut t).name else ten0.name, if 1 < k then (tcut t).vni else ten0.vni, if 2 < k then t.key else ten0.key, if 3 < k then (tcut t).vtep else ten0.vtep, if 4 < k then t.vmac else ten0.vmac, if 5 < k then t.host else ten0.host,
  if 16 < k then (tcut t).pool else if 13 < k then List.replicate (min t.pool.length 255) 0 else [], if 6 < k then (tcut t).lo else ten0.lo, if 7 < k then (tcut t).hi else ten0.hi, if 8 < k then (tcut t).filter else ten0.filter,
  if 17 < k then (tcut t).stat else if 14 < k then List.replicate (min t.stat.length 255) (0, 0) else [], if 18 < k then (tcut t).twi else if 15 < k then List.replicate (min t.twi.length 255) (0, 0) else [],
  if 9 < k then (tcut t).sess else ten0.sess, if 10 < k then (tcut t).queue else ten0.queue, if 11 < k then (tcut t).rate else ten0.rate, if 12 < k then (tcut t).burst else ten0.burst⟩
theorem set_pool_eq (x : Ten) (m : Nat) (h : x.pool = []) : set_pool x m = { x with pool := List.replicate m 0 } := by
  unfold set_pool
  split
  · rename_i e; subst e; cases x; simp only at h; subst h; rfl
  · rfl
theorem set_stat_eq (x : Ten) (m : Nat) (h : x.stat = []) : set_stat x m = { x with stat := List.replicate m (0, 0) } := by
  unfold set_stat
  split
  · rename_i e; subst e; cases x; simp only at h; subst h; rfl
  · rfl
theorem set_twi_eq (x : Ten) (m : Nat) (h : x.twi = []) : set_twi x m = { x with twi := List.replicate m (0, 0) } := by
  unfold set_twi
  split
  · rename_i e; subst e; cases x; simp only at h; subst h; rfl
  · rfl
set_option maxHeartbeats 4000000 in
theorem tenc_rb (t : Ten) (hl : TLen t) : RB spT.dec (spT.enc t) ten0 (tcut t) := by
  obtain ⟨x', h, e⟩ := sq_rb (dec := fun i => (tsp.getD i sp0).dec) (enc := fun i => (tsp.getD i sp0).enc t) (Inv := fun k x => x = stt t k) 19 0 ten0 (fun k _ hk x hx => by
      subst hx
      match k, hk with
      | 0, _ => exact ⟨_, (rb_txt _ _ t _ (sb_len _) : RB spName.dec (spName.enc t) _ _), rfl⟩
      | 1, _ => exact ⟨_, (rb_num 4 _ _ t _ : RB spVni.dec (spVni.enc t) _ _), rfl⟩
      | 2, _ => exact ⟨_, (rb_oct 8 _ _ t _ hl.key : RB spKey.dec (spKey.enc t) _ _), rfl⟩
      | 3, _ => exact ⟨_, (rb_num 4 _ _ t _ : RB spVtep.dec (spVtep.enc t) _ _), rfl⟩
      | 4, _ => exact ⟨_, (rb_oct 6 _ _ t _ hl.vmac : RB spVtepMac.dec (spVtepMac.enc t) _ _), rfl⟩
      | 5, _ => exact ⟨_, (rb_oct 6 _ _ t _ hl.host : RB spHost.dec (spHost.enc t) _ _), rfl⟩
      | 6, _ => exact ⟨_, (rb_num 2 _ _ t _ : RB spLo.dec (spLo.enc t) _ _), rfl⟩
      | 7, _ => exact ⟨_, (rb_num 2 _ _ t _ : RB spHi.dec (spHi.enc t) _ _), rfl⟩
      | 8, _ => exact ⟨_, (rb_num 1 _ _ t _ : RB spFilter.dec (spFilter.enc t) _ _), rfl⟩
      | 9, _ => exact ⟨_, (rb_num 2 _ _ t _ : RB spSess.dec (spSess.enc t) _ _), rfl⟩
      | 10, _ => exact ⟨_, (rb_num 2 _ _ t _ : RB spQueue.dec (spQueue.enc t) _ _), rfl⟩
      | 11, _ => exact ⟨_, (rb_num 4 _ _ t _ : RB spRate.dec (spRate.enc t) _ _), rfl⟩
      | 12, _ => exact ⟨_, (rb_num 4 _ _ t _ : RB spBurst.dec (spBurst.enc t) _ _), rfl⟩
      | 13, _ => exact ⟨_, (rb_cnt _ _ t _ : RB spPool.dec (spPool.enc t) _ _), set_pool_eq _ _ rfl⟩
      | 14, _ => exact ⟨_, (rb_cnt _ _ t _ : RB spStatics.dec (spStatics.enc t) _ _), set_stat_eq _ _ rfl⟩
      | 15, _ => exact ⟨_, (rb_cnt _ _ t _ : RB spTwices.dec (spTwices.enc t) _ _), set_twi_eq _ _ rfl⟩
      | 16, _ => exact ⟨_, (rb_itm 0 spU _ rb_u _ _ t _ (List.length_replicate ..) : RB spPoolI.dec (spPoolI.enc t) _ _), rfl⟩
      | 17, _ => exact ⟨_, (rb_itm (0, 0) spP _ rb_pair _ _ t _ (List.length_replicate ..) : RB spStaticsI.dec (spStaticsI.enc t) _ _), rfl⟩
      | 18, _ => exact ⟨_, (rb_itm (0, 0) spP _ rb_pair _ _ t _ (List.length_replicate ..) : RB spTwicesI.dec (spTwicesI.enc t) _ _), rfl⟩
      | n + 19, h => exact absurd (show n + 19 < 0 + 19 from h) (by omega)) rfl
  subst e
  rw [← cat_eq] at h
  exact h
/-- A tenant that was written is read back. -/
theorem tdec_back (t : Ten) (hl : TLen t) (r : List Int) : tdec (tenc t ++ r) = some (tcut t, r) := (tenc_rb t hl).1 r
/-- No part of it is read. -/
theorem tdec_cut (t : Ten) (hl : TLen t) (l : List Int) (h : l <+: tenc t) (hs : l.length < (tenc t).length) : tdec l = none := (tenc_rb t hl).2 l h hs
end Go.Proofs.YtngegdamcfmonaaGreat

namespace Go.Proofs.YtngegdamcfmonaaGreat
open Go.RowKit
open Sm
open Cf
set_option linter.unusedVariables false
set_option maxRecDepth 20000

/-- All fields are the same. -/
def TSame (t z : Ten) : Prop := sb t.name = sb z.name ∧ t.vni = z.vni ∧ t.key = z.key ∧ t.vtep = z.vtep ∧ t.vmac = z.vmac ∧ t.host = z.host ∧ t.pool = z.pool ∧ t.lo = z.lo ∧ t.hi = z.hi ∧ t.filter = z.filter ∧ t.stat = z.stat ∧ t.twi = z.twi ∧ t.sess = z.sess ∧ t.queue = z.queue ∧ t.rate = z.rate ∧ t.burst = z.burst
end Go.Proofs.YtngegdamcfmonaaGreat

