/-
  Settings as text: the program's reader: a whole text.
  Settings as text: the program's reader: a whole text that is not too long.
  Settings as text: the program's Parse: settings, or the place of the first fault.
  Settings as text: the settings of few numbers, there and back (lychlaw13's known).
-/
import Derived.Test.YtneciccdiledfaaGreatDoorMl45
import Derived.Test.YtneciccdiledfaaGreatDoorMl44
import Derived.Test.YtneciccdiledfaaGreatDoorMl26
import Derived.Defers
import Derived.Recover
import Derived.Test.YtneciccdiledfaaGreatDoorMl36
import Derived.Test.YtneciccdiledfaaGreatDoorMl33
import Derived.Test.YtneciccdiledfaaGreatDoorMl30
namespace Go.Proofs.YtneciccdiledfaaGreatDoor
open Go.RowKit
open La
open Ad
set_option linter.unusedVariables false
set_option linter.unusedSimpArgs false
set_option maxRecDepth 20000

theorem into_any {w V : World} {g : Nat} {lp : List Value} {lt : TypeId} {σ : Sg} {W K L : List (Nat × Obj)} {gc : Nat} {c : Cgf} (hV : Vs w) (hF : FW w) (h : LnS w V g lp lt σ W (L ++ K)) (hC : CfI gc c L) (hn : c.ten.length ≤ 900000) (hl : ∀ t ∈ c.ten, t.pool.length + σ.ws.length ≤ 900000 ∧ t.stat.length ≤ 900000 ∧ t.twi.length ≤ 900000) (hne : σ.ws ≠ []) :
    Calls Tryz.prog 46 #[.pointer (some ⟨g, 0, none⟩), .pointer (some ⟨gc, 0, none⟩)] V (VP w (done (ln c σ).2) fun e V' => e = .returned (.tuple #[]) ∧ ∃ L', CfI gc (ln c σ).1 L' ∧ LnS w V' g lp lt (done (ln c σ).2) W (L' ++ K)) := by
  cases hws : σ.ws with
  | nil => exact absurd hws hne
  | cons x r =>
    by_cases hx : x.1.data.toList = wTenant
    · exact into_tenant hV hF h hC hn hws hx
    · by_cases ht : c.ten = []
      · exact into_none hV hF h hC ht hws hx
      · exact into_part hV hF h hC hl ht hws hx
/-- Settings that a call has made, and the blocks that they stand in. -/
def CMm (w V : World) (v : Value) (c : Cgf) : Prop := CLen c ∧ ∃ (u : Value) (zs : List Tv) (B C : List (Nat × Obj)), v = .agg (cc c u).toArray ∧ zs.map Prod.fst = c.ten ∧ OwB 45 33 u zs.length (zs.map zc).flatten B ∧ (∀ z ∈ zs, ZB z C) ∧ Mem w V (B ++ C)
/-- What read answers. -/
def RdP (w : World) (r : Except Nat Cgf) (e : Ending) (V : World) : Prop := match r with
  | .error a => Pan w a e V
  | .ok c => Below w.heap.size w V ∧ ∃ v, e = .returned v ∧ CVs w.heap.size V v c ∧ CMm w V v c
theorem rdp_err {w V : World} {a : Nat} {e : Ending} (h : Pan w a e V) : RdP w (.error a) e V := h
theorem gwC_len (σ : Sg) : CLen (gwC σ) := by
  have h1 := m6_len (g2 σ)
  have h2 := m6_len (g3 σ)
  have h3 := m6_len (g4 σ)
  have h4 := k8_len (g5 σ)
  unfold gwC
  generalize m6 (val mac (g2 σ)) = a at *
  generalize m6 (val mac (g3 σ)) = b at *
  generalize m6 (val mac (g4 σ)) = c at *
  generalize k8 (val key (g5 σ)) = d at *
  exact ⟨h1, h2, h3, h4⟩
theorem gwC_ten (σ : Sg) : (gwC σ).ten = [] := by
  unfold gwC
  generalize m6 (val mac (g2 σ)) = a
  generalize m6 (val mac (g3 σ)) = b
  generalize m6 (val mac (g4 σ)) = c
  generalize k8 (val key (g5 σ)) = d
  rfl
theorem lcs_at (zs : List Lz) (Y : List Value) : ∀ (i : Nat) (z : Lz), zs[i]? = some z → ((zs.map lcs).flatten ++ Y)[2 * i]? = some z.1 ∧ ((zs.map lcs).flatten ++ Y)[2 * i + 1]? = some (.int .i64 z.2.2) := by
  induction zs with
  | nil => intro i z h; simp at h
  | cons y l ih =>
    intro i z h
    cases i with
    | zero => simp at h; subst h; simp [lcs]
    | succ i =>
      have := ih i z (by simpa using h)
      rw [List.map_cons, List.flatten_cons]
      simp only [lcs, List.cons_append, List.nil_append]
      rw [show 2 * (i + 1) = 2 * i + 1 + 1 by omega]
      simpa using this
set_option maxHeartbeats 4000000 in
theorem read_long {w : World} (s : ByteArray) (hs : 32768 < s.size) : Calls Tryz.prog 20 #[.string s] w (RdP w (parse s)) := by
  have hp : parse s = .error 32768 := by unfold parse; rw [if_pos hs]
  rw [hp]
  have hz : (32768 : Int) < s.size := by omega
  have CF := fail_any ((Mem.nil w).after ((Below.refl _ _).alloc (Nat.le_refl _) (.cells cz 29 (0, 0)))) 32768
  clear hp
  go_enter Tryz.func20, Tryz.ntmps20
  go_wp2_with fail
  refine CF.mono ?_
  rintro e V3 ⟨g', rfl, hM⟩
  exact ⟨rfl, rdp_err ⟨g', rfl, hM⟩⟩
end Go.Proofs.YtneciccdiledfaaGreatDoor

namespace Go.Proofs.YtneciccdiledfaaGreatDoor
open Go.RowKit
open La
open Ad
set_option linter.unusedVariables false
set_option linter.unusedSimpArgs false
set_option maxRecDepth 20000

theorem rdn_first (σ : Sg) : rdn none σ = (gwC σ, g8 σ) := rfl
theorem rdn_snd (σ : Sg) : (rdn none σ).2 = g8 σ := by rw [rdn_first]
theorem rdn_fst (σ : Sg) : (rdn none σ).1 = gwC σ := by rw [rdn_first]
theorem rdl_first_bad {n a : Nat} {l : List Wd × Nat} {r : List (List Wd × Nat)} (h : (gwS ⟨l.1, l.2, none⟩).bad = some a) : rdl n none (l :: r) = .error a := by
  unfold gwS at h
  rw [← rdn_snd] at h
  exact rdl_bad h
theorem rdl_first_good {n : Nat} {l : List Wd × Nat} {r : List (List Wd × Nat)} (h : (gwS ⟨l.1, l.2, none⟩).bad = none) : rdl n none (l :: r) = rdl n (some (gwC ⟨l.1, l.2, none⟩)) r := by
  unfold gwS at h
  rw [← rdn_snd] at h
  rw [rdl_good h, rdn_fst]
theorem rdl_gw_bad {n a : Nat} (ws : List Wd) (fin : Nat) {r : List (List Wd × Nat)} {R : Except Nat Cgf} {LN : List (List Wd × Nat)} (hR : rdl n none LN = R) (hL : LN = (ws, fin) :: r) (h : (gwS ⟨ws, fin, none⟩).bad = some a) : R = .error a := by
  rw [← hR, hL]
  exact rdl_first_bad (l := (ws, fin)) h
theorem rdl_gw_good {n : Nat} (ws : List Wd) (fin : Nat) {r : List (List Wd × Nat)} {R : Except Nat Cgf} {LN : List (List Wd × Nat)} (hR : rdl n none LN = R) (hL : LN = (ws, fin) :: r) (h : (gwS ⟨ws, fin, none⟩).bad = none) : rdl n (some (gwC ⟨ws, fin, none⟩)) r = R := by
  rw [← hR, hL]
  exact (rdl_first_good (l := (ws, fin)) h).symm
theorem rdn_next (c : Cgf) (σ : Sg) : rdn (some c) σ = ln c σ := rfl
theorem rdl_ln_bad {n a : Nat} {c : Cgf} {l : List Wd × Nat} {r : List (List Wd × Nat)} (h : (done (ln c ⟨l.1, l.2, none⟩).2).bad = some a) : rdl n (some c) (l :: r) = .error a := by
  rw [← rdn_next] at h
  exact rdl_bad h
theorem rdl_ln_good {n : Nat} {c : Cgf} {l : List Wd × Nat} {r : List (List Wd × Nat)} (h : (done (ln c ⟨l.1, l.2, none⟩).2).bad = none) : rdl n (some c) (l :: r) = rdl n (some (ln c ⟨l.1, l.2, none⟩).1) r := by
  rw [← rdn_next] at h
  rw [rdl_good h, rdn_next]
theorem rdl_next_bad {n a : Nat} {c : Cgf} {ws : List Wd} {fin : Nat} {r : List (List Wd × Nat)} {R : Except Nat Cgf} (hR : rdl n (some c) ((ws, fin) :: r) = R) (h : (done (ln c ⟨ws, fin, none⟩).2).bad = some a) : R = .error a := by
  rw [← hR]
  exact rdl_ln_bad (l := (ws, fin)) h
theorem rdl_next_good {n : Nat} {c : Cgf} {ws : List Wd} {fin : Nat} {r : List (List Wd × Nat)} {R : Except Nat Cgf} (hR : rdl n (some c) ((ws, fin) :: r) = R) (h : (done (ln c ⟨ws, fin, none⟩).2).bad = none) : rdl n (some (ln c ⟨ws, fin, none⟩).1) r = R := by
  rw [← hR]
  exact (rdl_ln_good (l := (ws, fin)) h).symm
set_option maxHeartbeats 16000000 in
theorem read_short {w : World} (hV : Vs w) (hF : FW w) (s : ByteArray) (hs : s.size ≤ 32768) : Calls Tryz.prog 20 #[.string s] w (RdP w (parse s)) := by
  have hp : parse s = rdl s.size none (lns s) := by unfold parse; rw [if_neg (by omega)]
  rw [hp]
  have hz : ¬ (32768 : Int) < s.size := by omega
  have htot := lns_tot s
  have hnes := lns_ne s
  have hsms := lns_sm s
  obtain ⟨LN, hLN⟩ : ∃ LN, lns s = LN := ⟨_, rfl⟩
  rw [hLN] at htot hnes hsms ⊢
  have HLN : Hid (lns s = LN) := hLN
  obtain ⟨R, hRR⟩ : ∃ R, rdl s.size none LN = R := ⟨_, rfl⟩
  rw [hRR]
  have HRR : Hid (rdl s.size none LN = R) := hRR
  have HT : Hid (tot LN ≤ 32768 ∧ (∀ x ∈ LN, x.1 ≠ []) ∧ (∀ x ∈ LN, ∀ y ∈ x.1, y.1.size ≤ 32768)) := ⟨by omega, hnes, fun x hx y hy => by have := hsms x hx y hy; omega⟩
  obtain ⟨g0, hg0⟩ : ∃ g0, w.heap.size = g0 := ⟨_, rfl⟩
  have HM0 : Hid (Mem w (w.alloc (.cells cz 29 (0, 0))) [(g0, .cells cz 29 (0, 0))]) := (Mem.nil w).push1 hg0.symm
  clear hp hLN hRR htot hnes hsms
  go_enter Tryz.func20, Tryz.ntmps20
  go_upto_region 3 with fail
  refine wp_letter (fun X => Mem w X [(g0, Obj.cells cz 29 (0, 0))]) (by exact HM0.out) ?_
  intro V0 hM0
  try simp only [hg0]
  have HM : Hid (Mem w V0 [(g0, .cells cz 29 (0, 0))]) := hM0
  have CC := cut_any s hs V0
  clear hM0 HM0 hg0
  go_wp2_with fail
  refine CC.mono ?_
  rintro e V1 ⟨v, rfl, zs, Bl, C, h1, h2, h3, h4⟩
  rw [HLN.out] at h1
  have hM1 := HM.out.join h4
  clear CC h4 HM
  cases zs with
  | nil =>
    have hLN0 : LN = [] := by rw [← h1]; rfl
    obtain ⟨-, ⟨rfl, -, rfl⟩ | ⟨g, cap, cur, rfl, rfl, -⟩⟩ := h2
    all_goals
      have hR : Hid (R = .error s.size) := by rw [← HRR.out, hLN0]; rfl
      have CF := fail_any hM1 s.size
      clear hM1 h1 h3
      go_wp2_with fail
      refine CF.mono ?_
      rintro e V3 ⟨g', rfl, hM⟩
      exact ⟨rfl, by rw [hR.out]; exact rdp_err ⟨g', rfl, hM⟩⟩
  | cons z0 zr =>
    have hrest : LN = z0.2 :: zr.map Prod.snd := by rw [← h1]; rfl
    obtain ⟨bl, cap, Y, rfl, rfl, k1, k2, k3⟩ := owb_un h2 (by simp)
    obtain ⟨u0, ws0, fin0⟩ := z0
    obtain ⟨post, hpost⟩ : ∃ post, (zr.map lcs).flatten ++ Y = post := ⟨_, rfl⟩
    have ebl : (((u0, ws0, fin0) :: zr).map lcs).flatten ++ Y = u0 :: .int .i64 fin0 :: post := by rw [← hpost]; rfl
    rw [ebl] at hM1
    have hL0 : LnS w V1 bl post 105 ⟨ws0, fin0, none⟩ C [(g0, .cells cz 29 (0, 0))] := ⟨rfl, (HT.out.2.2 (ws0, fin0) (by rw [hrest]; simp)), u0, h3 _ (List.mem_cons_self ..), hM1.perm (by
      classical
      rw [List.perm_iff_count]
      intro z
      simp only [List.count_append, List.count_cons, List.count_nil]
      omega)⟩
    have CG := gateway_any hV hL0
    obtain ⟨n, hn⟩ : ∃ n, ((u0, ws0, fin0) :: zr).length = n := ⟨_, rfl⟩
    rw [hn] at k1
    have hn1 : n = zr.length + 1 := by rw [← hn]; rfl
    have hnz : (0 : Int) < n := by omega
    have hnn : 0 < n := by omega
    have hnz2 : ((n : Int) == 0) = false := by rw [beq_eq_false_iff_ne]; omega
    have hrest2 : LN = (ws0, fin0) :: zr.map Prod.snd := hrest
    have hgb : ∀ a, (gwS ⟨ws0, fin0, none⟩).bad = some a → R = .error a := fun a ha => rdl_gw_bad ws0 fin0 HRR.out hrest2 ha
    have hgg : (gwS ⟨ws0, fin0, none⟩).bad = none → rdl s.size (some (gwC ⟨ws0, fin0, none⟩)) (zr.map Prod.snd) = R := fun ha => rdl_gw_good ws0 fin0 HRR.out hrest2 ha
    have hcl := gwC_len ⟨ws0, fin0, none⟩
    have hct := gwC_ten ⟨ws0, fin0, none⟩
    obtain ⟨c0, hc0⟩ : ∃ c0, gwC ⟨ws0, fin0, none⟩ = c0 := ⟨_, rfl⟩
    rw [hc0] at CG hgg hcl hct
    obtain ⟨A, hA⟩ : ∃ A, (cc c0 nilV).toArray = A := ⟨_, rfl⟩
    rw [hA] at CG
    have hsz : A.size = 29 := by rw [← hA, List.size_toArray]; exact cc_len hcl _
    have hone : A.all (·.oneCell') = true := by rw [← hA]; exact cc_one _ rfl
    have i29 : (Tryz.prog.info? 29).map (·.size) = some A.size := by rw [hsz]; kernel_rfl
    have HH : Hid ((∀ a, (gwS ⟨ws0, fin0, none⟩).bad = some a → R = .error a) ∧ ((gwS ⟨ws0, fin0, none⟩).bad = none → rdl s.size (some c0) (zr.map Prod.snd) = R) ∧ CfI (bl + 0) c0 [(bl + 0, .cells (cc c0 nilV).toArray 29 (0, 0))] ∧ CLen c0 ∧ c0.ten = []) := ⟨hgb, hgg, ⟨hcl, Or.inl ⟨hct, rfl⟩⟩, hcl, hct⟩
    have HZ : Hid (n = zr.length + 1 ∧ n ≤ cap ∧ cap ≤ maxLen ∧ LN = (ws0, fin0) :: zr.map Prod.snd ∧ (zr.map lcs).flatten ++ Y = post ∧ (∀ z ∈ zr, WIn C z.1 z.2.1) ∧ (cc c0 nilV).toArray = A) := ⟨hn1, k1, k2, hrest, hpost, fun z hz => h3 z (List.mem_cons_of_mem _ hz), hA⟩
    clear hrest2 hL0 hM1 h1 h2 h3 k3 ebl hrest hpost hgb hgg hcl hct hc0 hA hn1
    go_wp2_with fail
    refine CG.mono ?_
    rintro e V2 (⟨hb2, rfl, hR2⟩ | ⟨a, hb, g', rfl, hM⟩)
    rotate_left
    · exact ⟨rfl, by rw [HH.out.1 a hb]; exact rdp_err ⟨g', rfl, hM⟩⟩
    have HRD : Hid (rdl s.size (some c0) (zr.map Prod.snd) = R) := HH.out.2.1 hb2
    obtain ⟨-, -, v', -, hM2⟩ := hR2
    obtain ⟨F, hF0⟩ : ∃ F, (gwS ⟨ws0, fin0, none⟩).fin = F := ⟨_, rfl⟩
    rw [hF0] at hM2
    obtain ⟨gc, hgc⟩ : ∃ gc, V2.heap.size = gc := ⟨_, rfl⟩
    have hk1 : (V2.alloc (.cells cz 29)).heap[gc]? = some (.cells cz 29 (0, 0)) := (hM2.front (.cells cz 29 (0, 0)) hgc.symm).get 0 rfl
    have e1 : (V2.alloc (.cells cz 29)).setRow gc A = V2.alloc (.cells A 29) := by
      rw [← hgc]; exact World.setRow_alloc_new V2 cz A 29
    have hM3 := hM2.front (.cells A 29 (0, 0)) hgc.symm
    rw [← e1] at hM3
    have HM3 : Hid (Mem w ((V2.alloc (.cells cz 29)).setRow gc A) ((gc, .cells A 29 (0, 0)) :: (bl, .cells (v' :: .int .i64 F :: post).toArray 105 (0, 0)) :: ([(g0, .cells cz 29 (0, 0))] ++ C))) := hM3
    clear hM2 hM3 e1 hb2 CG hF0
    go_upto_region 7 with (refine wpList_store_row rfl 29 (.tmp 4) (.tmp 21) (by with_reducible rfl) gc A (by simp [Act.eval]; try exact hgc) (by simp [Act.eval]) 29 cz hk1 i29 (by rw [hsz]; rfl) hone ?_)
    refine wp_letter (fun X => Mem w X ((gc, Obj.cells A 29 (0, 0)) :: (bl, Obj.cells (v' :: .int .i64 F :: post).toArray 105 (0, 0)) :: ([(g0, Obj.cells cz 29 (0, 0))] ++ C))) (by exact HM3.out) ?_
    intro V3 hM3
    try simp only [hgc]
    obtain ⟨m, hm⟩ : ∃ m, zr.length = m := ⟨_, rfl⟩
    have HS3 : ∃ a3 c3, (∀ W, (Instr.slice 101 (.slice (some ⟨bl, 0, none⟩) n cap) (some (.int .i64 1)) none none).run Tryz.prog W = .ok (.slice a3 m c3) W) ∧ (0 < m → a3 = some ⟨bl, 2, none⟩) ∧ m ≤ c3 := by
      have hsz2 : ∀ V, (sizeOf (Tryz.prog.elem 101)).run Tryz.prog V = .ok 2 V := fun V => by kernel_rfl
      have hz2 := HZ.out
      refine ⟨if cap = 1 then some ⟨bl, 0, none⟩ else some ⟨bl, 2, none⟩, cap - 1, fun W => ?_, fun h0 => ?_, by omega⟩
      · rw [run_slice_l (P := Tryz.prog) W 101 (some ⟨bl, 0, none⟩) n cap (by kernel_rfl) .i64 1 (by omega) (by omega), hsz2]
        show Result.ok (sliced _ _ _ _ _) W = _
        have e : n - 1 = m := by omega
        unfold sliced
        simp only [Int.toNat_one, e, Option.map_some, Addr.add]
        rfl
      · rw [if_neg (by omega)]
    obtain ⟨a3, c3, hrun, ha3, hc3⟩ := HS3
    have H0 : Hid (∃ L Q, CfI gc c0 L ∧ Mem w V3 (L ++ ((bl, .cells (v' :: .int .i64 F :: post).toArray 105 (0, 0)) :: (g0, .cells cz 29 (0, 0)) :: (Q ++ C))) ∧ rdl s.size (some c0) ((zr.map Prod.snd).drop 0) = R ∧ Bd c0 (tot ((zr.map Prod.snd).drop 0))) := by
      refine ⟨[(gc, .cells (cc c0 nilV).toArray 29 (0, 0))], [], ⟨HH.out.2.2.2.1, Or.inl ⟨HH.out.2.2.2.2, rfl⟩⟩, by rw [HZ.out.2.2.2.2.2.2]; exact hM3, HRD.out, ?_⟩
      have ht := HT.out.1
      rw [HZ.out.2.2.2.1, tot_cons] at ht
      rw [List.drop_zero]
      refine ⟨by rw [HH.out.2.2.2.2]; simp; omega, by rw [HH.out.2.2.2.2]; simp⟩
    have hmb : m ≤ 9223372036854775806 := by have := HZ.out; unfold maxLen at this; omega
    have HMZ : Hid (zr.length = m) := hm
    clear hM3 HM3 HRD hk1 hgc hm hone i29 hsz hn hnz hnn hnz2
    go_wp2_with fail
    go_loopw [25] (fun u w' => ∃ (i : Nat) (c : Cgf), i ≤ m ∧ u = .int .i64 i ∧ Hid (∃ L Q, CfI gc c L ∧ Mem w w' (L ++ ((bl, .cells (v' :: .int .i64 F :: post).toArray 105 (0, 0)) :: (g0, .cells cz 29 (0, 0)) :: (Q ++ C))) ∧ rdl s.size (some c) ((zr.map Prod.snd).drop i) = R ∧ Bd c (tot ((zr.map Prod.snd).drop i)))) (fun u _ => m - (intOf u).toNat)
    case atStart => exact ⟨0, c0, Nat.zero_le _, rfl, H0⟩
    case round =>
      obtain ⟨i, c, hi, rfl, HR⟩ := hrel
      clear H0
      obtain ⟨L, Q, hC, hM, hrd, hbd⟩ := HR.out
      by_cases hlt : i < m
      · obtain rfl := ha3 (by omega)
        have hiz : (i : Int) < m := by omega
        obtain ⟨z, hz⟩ : ∃ z, zr[i]? = some z := ⟨zr[i]'(by rw [HMZ.out]; exact hlt), List.getElem?_eq_getElem _⟩
        have hzin : z ∈ zr := List.mem_of_getElem? hz
        have hdrop : (zr.map Prod.snd).drop i = z.2 :: (zr.map Prod.snd).drop (i + 1) := drop_at (by rw [List.getElem?_map, hz]; rfl)
        rw [hdrop] at hrd hbd
        rw [tot_cons] at hbd
        obtain ⟨p1, p2⟩ := lcs_at zr Y i z hz
        rw [HZ.out.2.2.2.2.1] at p1 p2
        have hMb : Mem w wr ((bl, .cells (v' :: .int .i64 F :: post).toArray 105 (0, 0)) :: (L ++ ((g0, .cells cz 29 (0, 0)) :: (Q ++ C)))) := hM.perm (by
          classical
          rw [List.perm_iff_count]
          intro z
          simp only [List.count_append, List.count_cons]
          omega)
        have d0 : wr.cell? ⟨bl, 2 + i * 2, none⟩ = some z.1 := by
          rw [hMb.cell 0 rfl, show 2 + i * 2 = 2 * i + 1 + 1 by omega]
          simpa using p1
        have d1 : wr.cell? ⟨bl, 2 + i * 2 + 1, none⟩ = some (.int .i64 z.2.2) := by
          rw [hMb.cell 0 rfl, show 2 + i * 2 + 1 = 2 * i + 1 + 1 + 1 by omega]
          simpa using p2
        have hwin := HZ.out.2.2.2.2.2.1 z hzin
        have hLNin : z.2 ∈ LN := by rw [HZ.out.2.2.2.1]; exact List.mem_cons_of_mem _ (List.mem_map_of_mem hzin)
        have hne := HT.out.2.1 z.2 hLNin
        have hsm := HT.out.2.2 z.2 hLNin
        obtain ⟨u, ws, fn⟩ := z
        simp only at d0 d1 hwin hne hsm hbd hrd
        obtain ⟨za, zc, hzu, -⟩ : ∃ za zc, u = .slice za ws.length zc ∧ True := by
          obtain ⟨a, b, e, -⟩ := hwin; exact ⟨a, b, e, trivial⟩
        obtain ⟨gl, hgl⟩ : ∃ gl, wr.heap.size = gl := ⟨_, rfl⟩
        have hLn : LnS w (wr.alloc (.cells #[u, .int .i64 fn] 105 (0, 0))) gl [] 105 ⟨ws, fn, none⟩ C (L ++ ((bl, .cells (v' :: .int .i64 F :: post).toArray 105 (0, 0)) :: (g0, .cells cz 29 (0, 0)) :: Q)) := ⟨rfl, hsm, u, hwin, (hM.front (.cells #[u, .int .i64 fn] 105 (0, 0)) hgl.symm).perm (by
          classical
          rw [List.perm_iff_count]
          intro z
          simp only [List.count_append, List.count_cons]
          omega)⟩
        have hlb : 0 < ws.length := List.length_pos_iff.2 hne
        have CI := into_any hV hF hLn hC (by have := hbd.1; omega) (fun t ht => by have := hbd.2 t ht; simp only; omega) hne
        have hbd2 : Bd (ln c ⟨ws, fn, none⟩).1 (tot ((zr.map Prod.snd).drop (i + 1))) := by
          cases ws with
          | nil => exact absurd rfl hne
          | cons x r => exact ln_bd hbd
        have HB2 : Hid (Bd (ln c ⟨ws, fn, none⟩).1 (tot ((zr.map Prod.snd).drop (i + 1))) ∧ rdl s.size (some c) ((ws, fn) :: (zr.map Prod.snd).drop (i + 1)) = R) := ⟨hbd2, hrd⟩
        have e7 : IntKind.i64.wrap ((i : Int) + 1) = (i : Int) + 1 := wrap64 (by omega) (by omega)
        subst hzu
        clear HR hC hM hrd hbd hMb hwin hne hsm hLNin hzin hz hdrop p1 p2 hLn hbd2 hlb
        go_upto_region 10 with fail
        go_wp2_with fail
        refine CI.mono ?_
        rintro e V5 (⟨hb5, rfl, L', hC5, hR5⟩ | ⟨a, hb, g', rfl, hM⟩)
        rotate_left
        · exact ⟨rfl, by rw [rdl_next_bad HB2.out.2 hb]; exact rdp_err ⟨g', rfl, hM⟩⟩
        have HI2 : Hid (∃ L Q, CfI gc (ln c ⟨ws, fn, none⟩).1 L ∧ Mem w V5 (L ++ ((bl, .cells (v' :: .int .i64 F :: post).toArray 105 (0, 0)) :: (g0, .cells cz 29 (0, 0)) :: (Q ++ C))) ∧ rdl s.size (some (ln c ⟨ws, fn, none⟩).1) ((zr.map Prod.snd).drop (i + 1)) = R ∧ Bd (ln c ⟨ws, fn, none⟩).1 (tot ((zr.map Prod.snd).drop (i + 1)))) := by
          obtain ⟨o5, hM5⟩ := hR5.all
          refine ⟨L', (gl, o5) :: Q, hC5, hM5.perm ?_, rdl_next_good HB2.out.2 hb5, HB2.out.1⟩
          classical
          rw [List.perm_iff_count]
          intro z
          simp only [List.count_append, List.count_cons]
          omega
        obtain ⟨c2, hc2⟩ : ∃ c2, (ln c ⟨ws, fn, none⟩).1 = c2 := ⟨_, rfl⟩
        rw [hc2] at HI2
        clear hC5 hR5 hb5 HB2 CI hc2
        go_wp2_with fail
        go_roundw
        case rel => exact ⟨i + 1, c2, by omega, by go_num, HI2⟩
        case measure => simp [intOf]; omega
      · obtain rfl : i = m := by omega
        have hiz : ¬ ((i : Int) < i) := by omega
        rw [List.drop_eq_nil_of_le (by rw [List.length_map, HMZ.out]; exact Nat.le_refl _), rdl_nil] at hrd
        have hR : Hid (R = .ok c) := hrd.symm
        obtain ⟨u, zs', B, C1, ez, hB, hz, hperm⟩ := cfi_tsb hC
        obtain ⟨A2, hA2⟩ : ∃ A2, (cc c u).toArray = A2 := ⟨_, rfl⟩
        have hM5 : Mem w wr ((gc, .cells (cc c u).toArray 29 (0, 0)) :: (g0, .cells cz 29 (0, 0)) :: ((bl, .cells (v' :: .int .i64 F :: post).toArray 105 (0, 0)) :: (Q ++ C) ++ (B ++ C1))) := hM.perm ((hperm.append_right _).trans (by
          classical
          rw [List.perm_iff_count]
          intro z
          simp only [List.count_append, List.count_cons]
          omega))
        rw [hA2] at hM5
        have hsz : A2.size = 29 := by rw [← hA2, List.size_toArray]; exact cc_len hC.1 _
        have hone : A2.all (·.oneCell') = true := by rw [← hA2]; exact cc_one _ (owb_one hB)
        have i29 : (Tryz.prog.info? 29).map (·.size) = some A2.size := by rw [hsz]; kernel_rfl
        have k1 : wr.heap[gc]? = some (.cells A2 29 (0, 0)) := hM5.get 0 rfl
        have k0 : wr.heap[g0]? = some (.cells cz 29 (0, 0)) := hM5.get 1 rfl
        have hM6 := hM5.wrote 1 rfl (wrote_setRow wr g0 _ A2 _ k0)
        have HQ : Hid (Below w.heap.size w (wr.setRow g0 A2) ∧ (CVs w.heap.size (wr.setRow g0 A2) (.agg A2) c ∧ CMm w (wr.setRow g0 A2) (.agg A2) c) ∧ (wr.setRow g0 A2).heap[g0]? = some (.cells A2 29 (0, 0))) := by
          refine ⟨hM6.below, ?_, hM6.get 1 rfl⟩
          rw [← hA2]
          exact ⟨cvs_tsb hC.1 ⟨zs', ez, hB, hz⟩ (by rw [hA2]; exact hM6.sub.sub.dropA), hC.1, u, zs', B, C1, rfl, ez, hB, hz, by rw [hA2]; exact hM6.sub.sub.dropA⟩
        clear HR hC hM hrd hbd hB hz hperm hM5 hM6 ez hA2
        go_wp2_with (first | (refine wpList_load_row rfl 29 (.tmp 4) (by with_reducible rfl) gc (by first | rfl | simp [Act.eval]) 29 A2 (0, 0) _ k1 Tryz.underlying29 rfl i29 ?_) | (refine wpList_store_row rfl 29 (.tmp 2) (.tmp 31) (by with_reducible rfl) g0 A2 (by first | rfl | simp [Act.eval]) (by first | rfl | simp [Act.eval]) 29 cz k0 i29 (by rw [hsz]; rfl) hone ?_))
        refine bodyPost_ret (v := .agg A2) ?_ rfl (by rw [hR.out]; exact ⟨HQ.out.1, _, rfl, HQ.out.2.1⟩)
        exact results_cell_row (p := 2) (ty := 29) rfl _ _ g0 29 _ (0, 0) _ rfl HQ.out.2.2 Tryz.underlying29 rfl i29
end Go.Proofs.YtneciccdiledfaaGreatDoor

namespace Go.Proofs.YtneciccdiledfaaGreatDoor
open Go.RowKit
open La
open Ad
set_option linter.unusedVariables false
set_option linter.unusedSimpArgs false
set_option maxRecDepth 20000

theorem read_any {w : World} (hV : Vs w) (hF : FW w) (s : ByteArray) : Calls Tryz.prog 20 #[.string s] w (RdP w (parse s)) := by
  by_cases h : 32768 < s.size
  · exact read_long s h
  · exact read_short hV hF s (by omega)
/-- What Parse answers. -/
def PrP (w : World) (r : Except Nat Cgf) (e : Ending) (V : World) : Prop := match r with
  | .error a => ∃ g, e = .returned (.tuple #[.agg cz, .iface 58 (.pointer (some ⟨g, 0, none⟩))]) ∧ Mem w V [(g, .cells #[.int .i64 a, .int .i64 60] 64 (0, 0))]
  | .ok c => Below w.heap.size w V ∧ ∃ v, e = .returned (.tuple #[v, .nilIface]) ∧ CVs w.heap.size V v c
/-- What Parse answers, and the blocks that it stands in. -/
def PrM (w : World) (r : Except Nat Cgf) (e : Ending) (V : World) : Prop := match r with
  | .error a => ∃ g, e = .returned (.tuple #[.agg cz, .iface 58 (.pointer (some ⟨g, 0, none⟩))]) ∧ Mem w V [(g, .cells #[.int .i64 a, .int .i64 60] 64 (0, 0))]
  | .ok c => Below w.heap.size w V ∧ ∃ v, e = .returned (.tuple #[v, .nilIface]) ∧ CVs w.heap.size V v c ∧ CMm w V v c
theorem PrM.prp {w V : World} {r : Except Nat Cgf} {e : Ending} (h : PrM w r e V) : PrP w r e V := by
  cases r with
  | error a => exact h
  | ok c =>
    obtain ⟨h1, v, h2, h3, -⟩ := h
    exact ⟨h1, v, h2, h3⟩
abbrev pen (g : Nat) : List PanicEntry := [{ v := .iface 58 (.pointer (some ⟨g, 0, none⟩)), recovered := false }]
theorem catch_bad (p : Addr) (g : Nat) (w : World) (x : Value) (hc : w.cell? p = some x) (hz : w.frozen? p = false) :
    CallsD Tryz.prog 19 #[.pointer (some p)] (.panicking (pen g)) w fun r u' w' =>
      r = .returned (.tuple #[]) ∧ u' = .panicking [{ v := .iface 58 (.pointer (some ⟨g, 0, none⟩)), recovered := true }] ∧ w' = w.setCell p (.iface 58 (.pointer (some ⟨g, 0, none⟩))) := by
  refine callsD_of_wpS Tryz.func19 rfl fun c₀ cs hu => ?_
  apply wpS_seq
  apply wpS_region
  simp [wpOpsS, go_sem, recoverD, hu, Tryz.ntmps19, Exit.thenS]
  refine wpS_of_wp ?_
  change Code.wp Tryz.prog _ _ { tmps := #[.pointer (some p), .iface 58 (.pointer (some ⟨g, 0, none⟩)), .iface 58 (.pointer (some ⟨g, 0, none⟩)), undef, undef, undef, undef, undef], defers := [] } w
  have hta : ∀ w : World, (Instr.typeAssert (.iface 58 (.pointer (some ⟨g, 0, none⟩))) 20 58 false).run Tryz.prog w = .ok (.pointer (some ⟨g, 0, none⟩)) w := fun w => by kernel_rfl
  go_wp2
  refine ⟨rfl, _, rfl, .tuple #[], ?_, rfl, rfl, rfl⟩
  simp [results, Tryz.results19]
theorem catch_none (p : Addr) (w : World) :
    CallsD Tryz.prog 19 #[.pointer (some p)] .returning w fun r u' w' => r = .returned (.tuple #[]) ∧ u' = .returning ∧ w' = w := by
  refine callsD_of_wpS Tryz.func19 rfl fun c₀ cs hu => ?_
  apply wpS_seq
  apply wpS_region
  simp [wpOpsS, go_sem, recoverD, hu, Tryz.ntmps19, Exit.thenS]
  refine wpS_of_wp ?_
  change Code.wp Tryz.prog _ _ { tmps := #[.pointer (some p), .nilIface, .nilIface, undef, undef, undef, undef, undef], defers := [] } w
  go_wp2
  cases c₀
  simp_all [bodyPostS, results, Tryz.results19]
theorem results_cells {fn : Func} {p q : Tmp} {ty tz : TypeId} (h : fn.results = #[.cell p ty, .cell q tz]) (tmps : Array Value) (w : World) (g k : Nat) (v u : Value)
    (hp : tmps.getD p undef = .pointer (some ⟨g, 0, none⟩)) (hq : tmps.getD q undef = .pointer (some ⟨k, 0, none⟩)) (hl : (loadVar ty ⟨g, 0, none⟩).run Tryz.prog w = .ok v w) (hm : (loadVar tz ⟨k, 0, none⟩).run Tryz.prog w = .ok u w) :
    (results fn tmps).run Tryz.prog w = .ok (.tuple #[v, u]) w := by
  have hp' : tmps[p]?.getD undef = .pointer (some ⟨g, 0, none⟩) := by simpa using hp
  have hq' : tmps[q]?.getD undef = .pointer (some ⟨k, 0, none⟩) := by simpa using hq
  simp [results, h, hp', hq', asAddr, hl, hm]
theorem load_err (k : Nat) (w : World) (v : Value) (h : w.cell? ⟨k, 0, none⟩ = some v) : (loadVar 31 ⟨k, 0, none⟩).run Tryz.prog w = .ok v w := by
  simp [loadVar, isAgg, underlying, Tryz.underlying31, h, Result.andThen]
set_option maxHeartbeats 4000000 in
theorem parse_bad {w : World} (hV : Vs w) (hF : FW w) (s : ByteArray) {a : Nat} (h : parse s = .error a) : Calls Tryz.prog 10 #[.string s] w (PrP w (.error a)) := by
  have hmf : ∀ (fn : Fn) (first cap : Array Value) (w : World), (Instr.makeFunc fn first cap).run Tryz.prog w = .ok (.func fn first cap) w := fun _ _ _ _ => rfl
  have hM : Mem w ((w.alloc (.cells cz 29)).alloc (.cells #[.nilIface] 31)) [(w.heap.size, .cells cz 29 (0, 0)), (w.heap.size + 1, .cells #[.nilIface] 31 (0, 0))] := ((Mem.nil w).push w.heap.size _ rfl).push (w.heap.size + 1) _ (by simp)
  have hread := read_any (hV.below hM.below) (hF.below hM.below) s
  rw [h] at hread
  have HM : Hid (Mem w ((w.alloc (.cells cz 29)).alloc (.cells #[.nilIface] 31)) [(w.heap.size, .cells cz 29 (0, 0)), (w.heap.size + 1, .cells #[.nilIface] 31 (0, 0))]) := hM
  clear hM h
  go_enter_defers Tryz.func10, Tryz.ntmps10
  go_wp2_with fail
  refine hread.mono ?_
  rintro e w2 ⟨g', rfl, hM2⟩
  have hM3 := HM.out.join hM2
  clear hM2 HM hread
  refine leaves_cons (f := 19) (args := #[.pointer (some ⟨w.heap.size + 1, 0, none⟩)]) (by simp) (by simp [go_sem]) ?_
  refine (catch_bad ⟨w.heap.size + 1, 0, none⟩ g' _ _ (hM3.cell 1 rfl 0) (hM3.free 1 rfl 0)).mono ?_
  rintro e u' w'' ⟨rfl, rfl, rfl⟩
  have hM4 := hM3.set 1 rfl 0 (.iface 58 (.pointer (some ⟨g', 0, none⟩)))
  have kg : (w2.setCell ⟨w.heap.size + 1, 0, none⟩ (.iface 58 (.pointer (some ⟨g', 0, none⟩)))).heap[w.heap.size]? = some (.cells cz 29 (0, 0)) := hM4.get 0 rfl
  have ke : (w2.setCell ⟨w.heap.size + 1, 0, none⟩ (.iface 58 (.pointer (some ⟨g', 0, none⟩)))).cell? ⟨w.heap.size + 1, 0, none⟩ = some (.iface 58 (.pointer (some ⟨g', 0, none⟩))) := hM4.cell 1 rfl 0
  have hb := hM4.sub.sub
  generalize w2.setCell ⟨w.heap.size + 1, 0, none⟩ (.iface 58 (.pointer (some ⟨g', 0, none⟩))) = w3 at *
  have hl := run_loadVar_row (P := Tryz.prog) w3 w.heap.size 29 29 cz (0, 0) _ kg Tryz.underlying29 rfl (by kernel_rfl)
  have hres := results_cells (fn := Tryz.f10) (p := 2) (q := 3) (ty := 29) (tz := 31) rfl #[.string s, undef, .pointer (some ⟨w.heap.size, 0, none⟩), .pointer (some ⟨w.heap.size + 1, 0, none⟩), .func (.func 19) #[] #[.pointer (some ⟨w.heap.size + 1, 0, none⟩)], .string s, undef] w3 w.heap.size (w.heap.size + 1) _ _ rfl rfl hl (load_err _ _ _ ke)
  have HB : Hid (Mem w w3 [(g', .cells #[.int .i64 a, .int .i64 60] 64 (0, 0))]) := hb
  clear hM4 hM3 kg ke hb hl
  exact ⟨_, hres, g', rfl, HB.out⟩
set_option maxHeartbeats 4000000 in
theorem parse_good {w : World} (hV : Vs w) (hF : FW w) (s : ByteArray) {c : Cgf} (h : parse s = .ok c) : Calls Tryz.prog 10 #[.string s] w (PrM w (.ok c)) := by
  have hmf : ∀ (fn : Fn) (first cap : Array Value) (w : World), (Instr.makeFunc fn first cap).run Tryz.prog w = .ok (.func fn first cap) w := fun _ _ _ _ => rfl
  have hM : Mem w ((w.alloc (.cells cz 29)).alloc (.cells #[.nilIface] 31)) [(w.heap.size, .cells cz 29 (0, 0)), (w.heap.size + 1, .cells #[.nilIface] 31 (0, 0))] := ((Mem.nil w).push w.heap.size _ rfl).push (w.heap.size + 1) _ (by simp)
  have hread := read_any (hV.below hM.below) (hF.below hM.below) s
  rw [h] at hread
  have HM : Hid (Mem w ((w.alloc (.cells cz 29)).alloc (.cells #[.nilIface] 31)) [(w.heap.size, .cells cz 29 (0, 0)), (w.heap.size + 1, .cells #[.nilIface] 31 (0, 0))]) := hM
  have HS : Hid (((w.alloc (.cells cz 29)).alloc (.cells #[.nilIface] 31)).heap.size = w.heap.size + 2) := (by simp : ((w.alloc (.cells cz 29)).alloc (.cells #[.nilIface] 31)).heap.size = w.heap.size + 2)
  clear hM h
  go_enter_defers Tryz.func10, Tryz.ntmps10
  go_wp2_with fail
  refine hread.mono ?_
  rintro e w2 ⟨hbel, v, rfl, hCV, hMm⟩
  rw [HS.out] at hCV
  have hM2 := HM.out.after hbel
  have hcv0 : CV w2 v c := hCV _ w2 (by rw [HS.out]; exact Nat.le_refl _) hbel (fun b _ _ => rfl)
  obtain ⟨A, rfl, hsz, hone⟩ := hcv0.row
  have i29 : (Tryz.prog.info? 29).map (·.size) = some A.size := by rw [hsz]; kernel_rfl
  have k0 : w2.heap[w.heap.size]? = some (.cells cz 29 (0, 0)) := hM2.get 0 rfl
  have hM3 := hM2.wrote 0 rfl (wrote_setRow w2 w.heap.size _ A _ k0)
  have hM4 := hM3.set 1 rfl 0 .nilIface
  have ke : (w2.setRow w.heap.size A).cell? ⟨w.heap.size + 1, 0, none⟩ = some .nilIface := hM3.cell 1 rfl 0
  have kef : ∀ j, (w2.setRow w.heap.size A).frozen? ⟨w.heap.size + 1, j, none⟩ = false := hM3.free 1 rfl
  have HF : Hid (Mem w ((w2.setRow w.heap.size A).setCell ⟨w.heap.size + 1, 0, none⟩ .nilIface) [(w.heap.size, .cells A 29 (0, 0)), (w.heap.size + 1, .cells #[.nilIface] 31 (0, 0))]) := hM4
  have HMm : Hid (CMm w ((w2.setRow w.heap.size A).setCell ⟨w.heap.size + 1, 0, none⟩ .nilIface) (.agg A) c) := by
    obtain ⟨m0, m1, m2, m3, m4, m5, m6, m7, m8, m9⟩ := hMm
    have j1 := HM.out.join m9
    have j2 := (j1.wrote 0 rfl (wrote_setRow w2 w.heap.size _ A _ k0)).set 1 rfl 0 .nilIface
    exact ⟨m0, m1, m2, m3, m4, m5, m6, m7, m8, j2.sub.sub⟩
  have HCV : Hid (CVs w.heap.size ((w2.setRow w.heap.size A).setCell ⟨w.heap.size + 1, 0, none⟩ .nilIface) (.agg A) c) := by
    intro w1 V' h1 hb ha
    refine hCV w1 V' (by omega) hb (fun b hb1 hb2 => ?_)
    have hlt : b < ((w2.setRow w.heap.size A).setCell ⟨w.heap.size + 1, 0, none⟩ .nilIface).heap.size := by simpa [World.setCell, World.setRow] using hb2
    rw [ha b (by omega) hlt]
    rw [Below.heap_setCell _ _ _ _ (by simp; omega)]
    exact (wrote_setRow w2 w.heap.size _ A _ k0).there b (by omega)
  clear hM2 hM3 hM4 hbel HM hread hCV hcv0 hMm
  go_wp2_with (refine wpList_store_row rfl 29 (.tmp 2) (.tmp 6) (by with_reducible rfl) w.heap.size A (by first | rfl | simp [Act.eval]) (by first | rfl | simp [Act.eval]) 29 cz k0 i29 (by rw [hsz]; rfl) hone ?_)
  refine leaves_cons (f := 19) (args := #[.pointer (some ⟨w.heap.size + 1, 0, none⟩)]) (by simp) (by simp [go_sem]) ?_
  refine (catch_none ⟨w.heap.size + 1, 0, none⟩ _).mono ?_
  rintro e u' w'' ⟨rfl, rfl, rfl⟩
  have kg := HF.out.get 0 rfl
  have ke2 := HF.out.cell 1 rfl 0
  have hl := run_loadVar_row (P := Tryz.prog) _ w.heap.size 29 29 A (0, 0) _ kg Tryz.underlying29 rfl i29
  have hres := results_cells (fn := Tryz.f10) (p := 2) (q := 3) (ty := 29) (tz := 31) rfl #[.string s, undef, .pointer (some ⟨w.heap.size, 0, none⟩), .pointer (some ⟨w.heap.size + 1, 0, none⟩), .func (.func 19) #[] #[.pointer (some ⟨w.heap.size + 1, 0, none⟩)], .string s, .agg A] _ w.heap.size (w.heap.size + 1) _ _ rfl rfl hl (load_err _ _ _ ke2)
  exact ⟨_, hres, HF.out.below, _, rfl, HCV.out, HMm.out⟩
theorem parse_any {w : World} (hV : Vs w) (hF : FW w) (s : ByteArray) : Calls Tryz.prog 10 #[.string s] w (PrP w (parse s)) := by
  cases h : parse s with
  | error a => exact parse_bad hV hF s h
  | ok c => exact (parse_good hV hF s h).mono fun _ _ h => h.prp
end Go.Proofs.YtneciccdiledfaaGreatDoor

namespace Go.Proofs.YtneciccdiledfaaGreatDoor
open Go.RowKit
open La
open Ad
open Sm (IsBytes)
set_option linter.unusedVariables false
set_option linter.unusedSimpArgs false
set_option maxRecDepth 20000

theorem r32_le {x : Int} (h : R32 x) : 0 ≤ x ∧ x ≤ 4294967295 := ⟨h.1, by have := h.2; omega⟩
theorem seat_tw {i : Nat} {t : Ten} (h : SeatT i t) (hi : i < 4) : TW t ∧ TFew t := by
  have f := h.fit hi
  obtain ⟨p2, st, tw, lo, hi2, fi, se, qu, ra, bu, rfl, r⟩ := h
  have lp : (mkS i p2 st tw lo hi2 fi se qu ra bu).pool.length ≤ 2 := by cases p2 <;> simp [mkS]
  have ls : (mkS i p2 st tw lo hi2 fi se qu ra bu).stat.length ≤ 2 := by cases st <;> simp [mkS]
  have lt : (mkS i p2 st tw lo hi2 fi se qu ra bu).twi.length ≤ 2 := by cases tw <;> simp [mkS]
  refine ⟨⟨⟨f.len, f.key, f.vmac, f.host, ?_, by omega, by omega, by omega⟩, ⟨⟨f.vni.1, by have := f.vni.2; omega⟩, r32_le f.vtep, f.lo, f.hi, ⟨by have := f.filter.1; omega, by have := f.filter.2; omega⟩, ⟨by have := f.sess.1; omega, by have := f.sess.2; omega⟩, ⟨by have := f.queue.1; omega, by have := f.queue.2; omega⟩, r32_le f.rate, r32_le f.burst, fun x hx => r32_le (f.pool x hx), fun x hx => ⟨r32_le (f.stat x hx).1, r32_le (f.stat x hx).2⟩, fun x hx => ⟨r32_le (f.twi x hx).1, r32_le (f.twi x hx).2⟩⟩, ⟨f.sess.1, f.queue.1⟩, by omega⟩, by omega, by omega, by omega⟩
  show (1 : Nat) ≤ 1000000
  omega
theorem seat_all {n : Nat} {c : Cgf} (h : SeatC n c) : CIn c ∧ CRg c ∧ (∀ t ∈ c.ten, TW t) ∧ (∀ t ∈ c.ten, TFew t) ∧ c.ten.length ≤ 4 ∧ (txt c).length ≤ 1600 ∧ CFit c := by
  have f := h.fit
  have hl := h.len
  obtain ⟨d, ts, h0, h1, rfl, hl2, hn, ht⟩ := h
  have key : ∀ t ∈ ts, TW t ∧ TFew t := by
    intro t hm
    obtain ⟨i, hi, e⟩ := List.getElem_of_mem hm
    exact seat_tw (ht i t (by rw [List.getElem?_eq_getElem hi, ← e])) (by omega)
  exact ⟨⟨f.len, f.mac, f.omac, f.nmac, f.key⟩, ⟨r32_le f.ip, r32_le f.drain⟩, fun t hm => (key t hm).1, fun t hm => (key t hm).2, by show ts.length ≤ 4; omega, by omega, f⟩
theorem csame_refl (c : Cgf) : CSame c c := ⟨rfl, rfl, rfl, rfl, rfl, rfl, rfl, fun i _ => ⟨rfl, rfl, rfl, rfl, rfl, rfl, rfl, rfl, rfl, rfl, rfl, rfl, rfl, rfl, rfl, rfl⟩⟩
abbrev badT : ByteArray := ⟨#[103, 97, 116, 101, 119, 97, 121, 32, 49, 48, 46, 48, 46, 48, 46, 49, 32, 120]⟩
theorem parse_badT : parse badT = .error 17 := by
  have h1 : lns badT = [([(⟨#[103, 97, 116, 101, 119, 97, 121]⟩, 0), (⟨#[49, 48, 46, 48, 46, 48, 46, 49]⟩, 8), (⟨#[120]⟩, 17)], 18)] := by decide
  unfold parse
  rw [if_neg (by decide), h1]
  refine rdl_bad ?_
  decide
theorem cv_from {n : Nat} {V : World} {v : Value} {c : Cgf} {w : World} (h : CVs n V v c) (hn : w.heap.size = n) (hb : Below w.heap.size w V) : CV V v c := h w V (by omega) hb (fun b _ _ => rfl)
end Go.Proofs.YtneciccdiledfaaGreatDoor

