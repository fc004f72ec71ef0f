/-
  Settings as text: the program's reader: a whole text that is not too long.
  Settings as text: the document's own reader of a line behind the first: all of it.
  Settings as text: the program's Parse: settings, or the place of the first fault.
  Settings as text: the document's own reader of a whole text: what holds line by line.
-/
import Derived.Test.YtneciccdiledfaaGreatDoorMx47
import Derived.Test.YtneciccdiledfaaGreatDoorMx48
import Derived.Defers
import Derived.Recover
import Derived.Test.YtneciccdiledfaaGreatDoorMx44
import Derived.Test.YtneciccdiledfaaGreatDoorMx27
import Derived.Test.YtneciccdiledfaaGreatDoorMx29
set_option linter.unusedVariables false
set_option linter.unusedSimpArgs false
set_option maxRecDepth 20000
namespace Go.Proofs.YtneciccdiledfaaGreatDoor
open Go.RowKit
open La
open Ad
theorem rdn_first (σ : Sg) : rdn none σ = (gwC σ, g8 σ) := rfl
theorem rdn_snd (σ : Sg) : (rdn none σ).2 = g8 σ := by rw [rdn_first]
theorem rdn_fst (σ : Sg) : (rdn none σ).1 = gwC σ := by rw [rdn_first]
theorem rdl_first_bad {n a : Nat} {l : List Wd × Nat} {r : List (List Wd × Nat)} (h : (gwS ⟨l.1, l.2, none⟩).bad = some a) : rdl n none (l :: r) = .error a := by
 unfold gwS at h
 rw [← rdn_snd] at h
 exact rdl_bad h
theorem rdl_first_good {n : Nat} {l : List Wd × Nat} {r : List (List Wd × Nat)} (h : (gwS ⟨l.1, l.2, none⟩).bad = none) : rdl n none (l :: r) = rdl n (some (gwC ⟨l.1, l.2, none⟩)) r := by
 unfold gwS at h
 rw [← rdn_snd] at h
 rw [rdl_good h, rdn_fst]
theorem rdl_gw_bad {n a : Nat} (ws : List Wd) (fin : Nat) {r : List (List Wd × Nat)} {R : Except Nat Cgf} {LN : List (List Wd × Nat)} (hR : rdl n none LN = R) (hL : LN = (ws, fin) :: r) (h : (gwS ⟨ws, fin, none⟩).bad = some a) : R = .error a := by
 rw [← hR, hL]
 exact rdl_first_bad (l := (ws, fin)) h
theorem rdl_gw_good {n : Nat} (ws : List Wd) (fin : Nat) {r : List (List Wd × Nat)} {R : Except Nat Cgf} {LN : List (List Wd × Nat)} (hR : rdl n none LN = R) (hL : LN = (ws, fin) :: r) (h : (gwS ⟨ws, fin, none⟩).bad = none) : rdl n (some (gwC ⟨ws, fin, none⟩)) r = R := by
 rw [← hR, hL]
 exact (rdl_first_good (l := (ws, fin)) h).symm
theorem rdn_next (c : Cgf) (σ : Sg) : rdn (some c) σ = ln c σ := rfl
theorem rdl_ln_bad {n a : Nat} {c : Cgf} {l : List Wd × Nat} {r : List (List Wd × Nat)} (h : (done (ln c ⟨l.1, l.2, none⟩).2).bad = some a) : rdl n (some c) (l :: r) = .error a := by
 rw [← rdn_next] at h
 exact rdl_bad h
theorem rdl_ln_good {n : Nat} {c : Cgf} {l : List Wd × Nat} {r : List (List Wd × Nat)} (h : (done (ln c ⟨l.1, l.2, none⟩).2).bad = none) : rdl n (some c) (l :: r) = rdl n (some (ln c ⟨l.1, l.2, none⟩).1) r := by
 rw [← rdn_next] at h
 rw [rdl_good h, rdn_next]
theorem rdl_next_bad {n a : Nat} {c : Cgf} {ws : List Wd} {fin : Nat} {r : List (List Wd × Nat)} {R : Except Nat Cgf} (hR : rdl n (some c) ((ws, fin) :: r) = R) (h : (done (ln c ⟨ws, fin, none⟩).2).bad = some a) : R = .error a := by
 rw [← hR]
 exact rdl_ln_bad (l := (ws, fin)) h
theorem rdl_next_good {n : Nat} {c : Cgf} {ws : List Wd} {fin : Nat} {r : List (List Wd × Nat)} {R : Except Nat Cgf} (hR : rdl n (some c) ((ws, fin) :: r) = R) (h : (done (ln c ⟨ws, fin, none⟩).2).bad = none) : rdl n (some (ln c ⟨ws, fin, none⟩).1) r = R := by
 rw [← hR]
 exact (rdl_ln_good (l := (ws, fin)) h).symm
set_option maxHeartbeats 16000000 in
theorem read_short {w : World} (hV : Vs w) (hF : FW w) (s : ByteArray) (hs : s.size ≤ 32768) : Calls Tryz.prog 20 #[.string s] w (RdP w (parse s)) := by
 have hp : parse s = rdl s.size none (lns s) := by unfold parse; rw [if_neg (by omega)]
 rw [hp]
 have hz : ¬ (32768 : Int) < s.size := by omega
 have htot := lns_tot s
 have hnes := lns_ne s
 have hsms := lns_sm s
 obtain ⟨LN, hLN⟩ : ∃ LN, lns s = LN := ⟨_, rfl⟩
 rw [hLN] at htot hnes hsms ⊢
 have HLN : Hid (lns s = LN) := hLN
 obtain ⟨R, hRR⟩ : ∃ R, rdl s.size none LN = R := ⟨_, rfl⟩
 rw [hRR]
 have HRR : Hid (rdl s.size none LN = R) := hRR
 have HT : Hid (tot LN ≤ 32768 ∧ (∀ x ∈ LN, x.1 ≠ []) ∧ (∀ x ∈ LN, ∀ y ∈ x.1, y.1.size ≤ 32768)) := ⟨by omega, hnes, fun x hx y hy => by have := hsms x hx y hy; omega⟩
 obtain ⟨g0, hg0⟩ : ∃ g0, w.heap.size = g0 := ⟨_, rfl⟩
 have HM0 : Hid (Mem w (w.alloc (.cells cz 29)) [(g0, .cells cz 29)]) := (Mem.nil w).push1 hg0.symm
 clear hp hLN hRR htot hnes hsms
 go_enter Tryz.func20, Tryz.ntmps20
 go_upto_region 3 with fail
 refine wp_letter (fun X => Mem w X [(g0, Obj.cells cz 29)]) (by exact HM0.out) ?_
 intro V0 hM0
 try simp only [hg0]
 have HM : Hid (Mem w V0 [(g0, .cells cz 29)]) := hM0
 have CC := cut_any s hs V0
 clear hM0 HM0 hg0
 go_wp2_with fail
 refine CC.mono ?_
 rintro e V1 ⟨v, rfl, zs, Bl, C, h1, h2, h3, h4⟩
 rw [HLN.out] at h1
 have hM1 := HM.out.join h4
 clear CC h4 HM
 cases zs with
 | nil =>
  have hLN0 : LN = [] := by rw [← h1]; rfl
  obtain ⟨-, ⟨rfl, -, rfl⟩ | ⟨g, cap, cur, rfl, rfl, -⟩⟩ := h2
  all_goals
   have hR : Hid (R = .error s.size) := by rw [← HRR.out, hLN0]; rfl
   have CF := fail_any hM1 s.size
   clear hM1 h1 h3
   go_wp2_with fail
   refine CF.mono ?_
   rintro e V3 ⟨g', rfl, hM⟩
   exact ⟨rfl, by rw [hR.out]; exact rdp_err ⟨g', rfl, hM⟩⟩
 | cons z0 zr =>
  have hrest : LN = z0.2 :: zr.map Prod.snd := by rw [← h1]; rfl
  obtain ⟨bl, cap, Y, rfl, rfl, k1, k2, k3⟩ := owb_un h2 (by simp)
  obtain ⟨u0, ws0, fin0⟩ := z0
  obtain ⟨post, hpost⟩ : ∃ post, (zr.map lcs).flatten ++ Y = post := ⟨_, rfl⟩
  have ebl : (((u0, ws0, fin0) :: zr).map lcs).flatten ++ Y = u0 :: .int .i64 fin0 :: post := by rw [← hpost]; rfl
  rw [ebl] at hM1
  have hL0 : LnS w V1 bl post 105 ⟨ws0, fin0, none⟩ C [(g0, .cells cz 29)] := ⟨rfl, (HT.out.2.2 (ws0, fin0) (by rw [hrest]; simp)), u0, h3 _ (List.mem_cons_self ..), hM1.perm (by
   classical
   rw [List.perm_iff_count]
   intro z
   simp only [List.count_append, List.count_cons, List.count_nil]
   omega)⟩
  have CG := gateway_any hV hL0
  obtain ⟨n, hn⟩ : ∃ n, ((u0, ws0, fin0) :: zr).length = n := ⟨_, rfl⟩
  rw [hn] at k1
  have hn1 : n = zr.length + 1 := by rw [← hn]; rfl
  have hnz : (0 : Int) < n := by omega
  have hnn : 0 < n := by omega
  have hnz2 : ((n : Int) == 0) = false := by rw [beq_eq_false_iff_ne]; omega
  have hrest2 : LN = (ws0, fin0) :: zr.map Prod.snd := hrest
  have hgb : ∀ a, (gwS ⟨ws0, fin0, none⟩).bad = some a → R = .error a := fun a ha => rdl_gw_bad ws0 fin0 HRR.out hrest2 ha
  have hgg : (gwS ⟨ws0, fin0, none⟩).bad = none → rdl s.size (some (gwC ⟨ws0, fin0, none⟩)) (zr.map Prod.snd) = R := fun ha => rdl_gw_good ws0 fin0 HRR.out hrest2 ha
  have hcl := gwC_len ⟨ws0, fin0, none⟩
  have hct := gwC_ten ⟨ws0, fin0, none⟩
  obtain ⟨c0, hc0⟩ : ∃ c0, gwC ⟨ws0, fin0, none⟩ = c0 := ⟨_, rfl⟩
  rw [hc0] at CG hgg hcl hct
  obtain ⟨A, hA⟩ : ∃ A, (cc c0 nilV).toArray = A := ⟨_, rfl⟩
  rw [hA] at CG
  have hsz : A.size = 29 := by rw [← hA, List.size_toArray]; exact cc_len hcl _
  have hone : A.all (·.oneCell') = true := by rw [← hA]; exact cc_one _ rfl
  have i29 : (Tryz.prog.info? 29).map (·.size) = some A.size := by rw [hsz]; kernel_rfl
  have HH : Hid ((∀ a, (gwS ⟨ws0, fin0, none⟩).bad = some a → R = .error a) ∧ ((gwS ⟨ws0, fin0, none⟩).bad = none → rdl s.size (some c0) (zr.map Prod.snd) = R) ∧ CfI (bl + 0) c0 [(bl + 0, .cells (cc c0 nilV).toArray 29)] ∧ CLen c0 ∧ c0.ten = []) := ⟨hgb, hgg, ⟨hcl, Or.inl ⟨hct, rfl⟩⟩, hcl, hct⟩
  have HZ : Hid (n = zr.length + 1 ∧ n ≤ cap ∧ cap ≤ maxLen ∧ LN = (ws0, fin0) :: zr.map Prod.snd ∧ (zr.map lcs).flatten ++ Y = post ∧ (∀ z ∈ zr, WIn C z.1 z.2.1) ∧ (cc c0 nilV).toArray = A) := ⟨hn1, k1, k2, hrest, hpost, fun z hz => h3 z (List.mem_cons_of_mem _ hz), hA⟩
  clear hrest2 hL0 hM1 h1 h2 h3 k3 ebl hrest hpost hgb hgg hcl hct hc0 hA hn1
  go_wp2_with fail
  refine CG.mono ?_
  rintro e V2 (⟨hb2, rfl, hR2⟩ | ⟨a, hb, g', rfl, hM⟩)
  rotate_left
  ·exact ⟨rfl, by rw [HH.out.1 a hb]; exact rdp_err ⟨g', rfl, hM⟩⟩
  have HRD : Hid (rdl s.size (some c0) (zr.map Prod.snd) = R) := HH.out.2.1 hb2
  obtain ⟨-, -, v', -, hM2⟩ := hR2
  obtain ⟨F, hF0⟩ : ∃ F, (gwS ⟨ws0, fin0, none⟩).fin = F := ⟨_, rfl⟩
  rw [hF0] at hM2
  obtain ⟨gc, hgc⟩ : ∃ gc, V2.heap.size = gc := ⟨_, rfl⟩
  have hk1 : (V2.alloc (.cells cz 29)).heap[gc]? = some (.cells cz 29) := (hM2.front (.cells cz 29) hgc.symm).get 0 rfl
  have e1 : (V2.alloc (.cells cz 29)).setRow gc A = V2.alloc (.cells A 29) := by
   rw [← hgc]; exact World.setRow_alloc_new V2 cz A 29
  have hM3 := hM2.front (.cells A 29) hgc.symm
  rw [← e1] at hM3
  have HM3 : Hid (Mem w ((V2.alloc (.cells cz 29)).setRow gc A) ((gc, .cells A 29) :: (bl, .cells (v' :: .int .i64 F :: post).toArray 105) :: ([(g0, .cells cz 29)] ++ C))) := hM3
  clear hM2 hM3 e1 hb2 CG hF0
  go_upto_region 7 with (refine wpList_store_row rfl 29 (.tmp 4) (.tmp 21) (by with_reducible rfl) gc A (by simp [Act.eval]; try exact hgc) (by simp [Act.eval]) 29 cz hk1 i29 (by rw [hsz]; rfl) hone ?_)
  refine wp_letter (fun X => Mem w X ((gc, Obj.cells A 29) :: (bl, Obj.cells (v' :: .int .i64 F :: post).toArray 105) :: ([(g0, Obj.cells cz 29)] ++ C))) (by exact HM3.out) ?_
  intro V3 hM3
  try simp only [hgc]
  obtain ⟨m, hm⟩ : ∃ m, zr.length = m := ⟨_, rfl⟩
  have HS3 : ∃ a3 c3, (∀ W, (Instr.slice 101 (.slice (some ⟨bl, 0, none⟩) n cap) (some (.int .i64 1)) none none).run Tryz.prog W = .ok (.slice a3 m c3) W) ∧ (0 < m → a3 = some ⟨bl, 2, none⟩) ∧ m ≤ c3 := by
   have hsz2 : ∀ V, (sizeOf (Tryz.prog.elem 101)).run Tryz.prog V = .ok 2 V := fun V => by kernel_rfl
   have hz2 := HZ.out
   refine ⟨if cap = 1 then some ⟨bl, 0, none⟩ else some ⟨bl, 2, none⟩, cap - 1, fun W => ?_, fun h0 => ?_, by omega⟩
   ·rw [run_slice_l (P := Tryz.prog) W 101 (some ⟨bl, 0, none⟩) n cap (by kernel_rfl) .i64 1 (by omega) (by omega), hsz2]
    show Result.ok (sliced _ _ _ _ _) W = _
    have e : n - 1 = m := by omega
    unfold sliced
    simp only [Int.toNat_one, e, Option.map_some, Addr.add]
    rfl
   ·rw [if_neg (by omega)]
  obtain ⟨a3, c3, hrun, ha3, hc3⟩ := HS3
  have H0 : Hid (∃ L Q, CfI gc c0 L ∧ Mem w V3 (L ++ ((bl, .cells (v' :: .int .i64 F :: post).toArray 105) :: (g0, .cells cz 29) :: (Q ++ C))) ∧ rdl s.size (some c0) ((zr.map Prod.snd).drop 0) = R ∧ Bd c0 (tot ((zr.map Prod.snd).drop 0))) := by
   refine ⟨[(gc, .cells (cc c0 nilV).toArray 29)], [], ⟨HH.out.2.2.2.1, Or.inl ⟨HH.out.2.2.2.2, rfl⟩⟩, by rw [HZ.out.2.2.2.2.2.2]; exact hM3, HRD.out, ?_⟩
   have ht := HT.out.1
   rw [HZ.out.2.2.2.1, tot_cons] at ht
   rw [List.drop_zero]
   refine ⟨by rw [HH.out.2.2.2.2]; simp; omega, by rw [HH.out.2.2.2.2]; simp⟩
  have hmb : m ≤ 9223372036854775806 := by have := HZ.out; unfold maxLen at this; omega
  have HMZ : Hid (zr.length = m) := hm
  clear hM3 HM3 HRD hk1 hgc hm hone i29 hsz hn hnz hnn hnz2
  go_wp2_with fail
  go_loopw [25] (fun u w' => ∃ (i : Nat) (c : Cgf), i ≤ m ∧ u = .int .i64 i ∧ Hid (∃ L Q, CfI gc c L ∧ Mem w w' (L ++ ((bl, .cells (v' :: .int .i64 F :: post).toArray 105) :: (g0, .cells cz 29) :: (Q ++ C))) ∧ rdl s.size (some c) ((zr.map Prod.snd).drop i) = R ∧ Bd c (tot ((zr.map Prod.snd).drop i)))) (fun u _ => m - (intOf u).toNat)
  case atStart => exact ⟨0, c0, Nat.zero_le _, rfl, H0⟩
  case round =>
   obtain ⟨i, c, hi, rfl, HR⟩ := hrel
   clear H0
   obtain ⟨L, Q, hC, hM, hrd, hbd⟩ := HR.out
   by_cases hlt : i < m
   ·obtain rfl := ha3 (by omega)
    have hiz : (i : Int) < m := by omega
    obtain ⟨z, hz⟩ : ∃ z, zr[i]? = some z := ⟨zr[i]'(by rw [HMZ.out]; exact hlt), List.getElem?_eq_getElem _⟩
    have hzin : z ∈ zr := List.mem_of_getElem? hz
    have hdrop : (zr.map Prod.snd).drop i = z.2 :: (zr.map Prod.snd).drop (i + 1) := drop_at (by rw [List.getElem?_map, hz]; rfl)
    rw [hdrop] at hrd hbd
    rw [tot_cons] at hbd
    obtain ⟨p1, p2⟩ := lcs_at zr Y i z hz
    rw [HZ.out.2.2.2.2.1] at p1 p2
    have hMb : Mem w wr ((bl, .cells (v' :: .int .i64 F :: post).toArray 105) :: (L ++ ((g0, .cells cz 29) :: (Q ++ C)))) := hM.perm (by classical rw [List.perm_iff_count]; intro z; simp only [List.count_append, List.count_cons]; omega)
    have d0 : wr.cell? ⟨bl, 2 + i * 2, none⟩ = some z.1 := by
     rw [hMb.cell 0 rfl, show 2 + i * 2 = 2 * i + 1 + 1 by omega]
     simpa using p1
    have d1 : wr.cell? ⟨bl, 2 + i * 2 + 1, none⟩ = some (.int .i64 z.2.2) := by
     rw [hMb.cell 0 rfl, show 2 + i * 2 + 1 = 2 * i + 1 + 1 + 1 by omega]
     simpa using p2
    have hwin := HZ.out.2.2.2.2.2.1 z hzin
    have hLNin : z.2 ∈ LN := by rw [HZ.out.2.2.2.1]; exact List.mem_cons_of_mem _ (List.mem_map_of_mem hzin)
    have hne := HT.out.2.1 z.2 hLNin
    have hsm := HT.out.2.2 z.2 hLNin
    obtain ⟨u, ws, fn⟩ := z
    simp only at d0 d1 hwin hne hsm hbd hrd
    obtain ⟨za, zc, hzu, -⟩ : ∃ za zc, u = .slice za ws.length zc ∧ True := by
     obtain ⟨a, b, e, -⟩ := hwin; exact ⟨a, b, e, trivial⟩
    obtain ⟨gl, hgl⟩ : ∃ gl, wr.heap.size = gl := ⟨_, rfl⟩
    have hLn : LnS w (wr.alloc (.cells #[u, .int .i64 fn] 105)) gl [] 105 ⟨ws, fn, none⟩ C (L ++ ((bl, .cells (v' :: .int .i64 F :: post).toArray 105) :: (g0, .cells cz 29) :: Q)) := ⟨rfl, hsm, u, hwin, (hM.front (.cells #[u, .int .i64 fn] 105) hgl.symm).perm (by classical rw [List.perm_iff_count]; intro z; simp only [List.count_append, List.count_cons]; omega)⟩
    have hlb : 0 < ws.length := List.length_pos_iff.2 hne
    have CI := into_any hV hF hLn hC (by have := hbd.1; omega) (fun t ht => by have := hbd.2 t ht; simp only; omega) hne
    have hbd2 : Bd (ln c ⟨ws, fn, none⟩).1 (tot ((zr.map Prod.snd).drop (i + 1))) := by
     cases ws with
     | nil => exact absurd rfl hne
     | cons x r => exact ln_bd hbd
    have HB2 : Hid (Bd (ln c ⟨ws, fn, none⟩).1 (tot ((zr.map Prod.snd).drop (i + 1))) ∧ rdl s.size (some c) ((ws, fn) :: (zr.map Prod.snd).drop (i + 1)) = R) := ⟨hbd2, hrd⟩
    have e7 : IntKind.i64.wrap ((i : Int) + 1) = (i : Int) + 1 := wrap64 (by omega) (by omega)
    subst hzu
    clear HR hC hM hrd hbd hMb hwin hne hsm hLNin hzin hz hdrop p1 p2 hLn hbd2 hlb
    go_upto_region 10 with fail
    go_wp2_with fail
    refine CI.mono ?_
    rintro e V5 (⟨hb5, rfl, L', hC5, hR5⟩ | ⟨a, hb, g', rfl, hM⟩)
    rotate_left
    ·exact ⟨rfl, by rw [rdl_next_bad HB2.out.2 hb]; exact rdp_err ⟨g', rfl, hM⟩⟩
    have HI2 : Hid (∃ L Q, CfI gc (ln c ⟨ws, fn, none⟩).1 L ∧ Mem w V5 (L ++ ((bl, .cells (v' :: .int .i64 F :: post).toArray 105) :: (g0, .cells cz 29) :: (Q ++ C))) ∧ rdl s.size (some (ln c ⟨ws, fn, none⟩).1) ((zr.map Prod.snd).drop (i + 1)) = R ∧ Bd (ln c ⟨ws, fn, none⟩).1 (tot ((zr.map Prod.snd).drop (i + 1)))) := by
     obtain ⟨o5, hM5⟩ := hR5.all
     refine ⟨L', (gl, o5) :: Q, hC5, hM5.perm ?_, rdl_next_good HB2.out.2 hb5, HB2.out.1⟩
     classical
     rw [List.perm_iff_count]
     intro z
     simp only [List.count_append, List.count_cons]
     omega
    obtain ⟨c2, hc2⟩ : ∃ c2, (ln c ⟨ws, fn, none⟩).1 = c2 := ⟨_, rfl⟩
    rw [hc2] at HI2
    clear hC5 hR5 hb5 HB2 CI hc2
    go_wp2_with fail
    go_roundw
    case rel => exact ⟨i + 1, c2, by omega, by go_num, HI2⟩
    case measure => simp [intOf]; omega
   ·obtain rfl : i = m := by omega
    have hiz : ¬ ((i : Int) < i) := by omega
    rw [List.drop_eq_nil_of_le (by rw [List.length_map, HMZ.out]; exact Nat.le_refl _), rdl_nil] at hrd
    have hR : Hid (R = .ok c) := hrd.symm
    obtain ⟨u, zs', B, C1, ez, hB, hz, hperm⟩ := cfi_tsb hC
    obtain ⟨A2, hA2⟩ : ∃ A2, (cc c u).toArray = A2 := ⟨_, rfl⟩
    have hM5 : Mem w wr ((gc, .cells (cc c u).toArray 29) :: (g0, .cells cz 29) :: ((bl, .cells (v' :: .int .i64 F :: post).toArray 105) :: (Q ++ C) ++ (B ++ C1))) := hM.perm ((hperm.append_right _).trans (by classical rw [List.perm_iff_count]; intro z; simp only [List.count_append, List.count_cons]; omega))
    rw [hA2] at hM5
    have hsz : A2.size = 29 := by rw [← hA2, List.size_toArray]; exact cc_len hC.1 _
    have hone : A2.all (·.oneCell') = true := by rw [← hA2]; exact cc_one _ (owb_one hB)
    have i29 : (Tryz.prog.info? 29).map (·.size) = some A2.size := by rw [hsz]; kernel_rfl
    have k1 : wr.heap[gc]? = some (.cells A2 29) := hM5.get 0 rfl
    have k0 : wr.heap[g0]? = some (.cells cz 29) := hM5.get 1 rfl
    have hM6 := hM5.wrote 1 rfl (wrote_setRow wr g0 _ A2 _ k0)
    have HQ : Hid (Below w.heap.size w (wr.setRow g0 A2) ∧ (CVs w.heap.size (wr.setRow g0 A2) (.agg A2) c ∧ CMm w (wr.setRow g0 A2) (.agg A2) c) ∧ (wr.setRow g0 A2).heap[g0]? = some (.cells A2 29)) := by
     refine ⟨hM6.below, ?_, hM6.get 1 rfl⟩
     rw [← hA2]
     exact ⟨cvs_tsb hC.1 ⟨zs', ez, hB, hz⟩ (by rw [hA2]; exact hM6.sub.sub.dropA), hC.1, u, zs', B, C1, rfl, ez, hB, hz, by rw [hA2]; exact hM6.sub.sub.dropA⟩
    clear HR hC hM hrd hbd hB hz hperm hM5 hM6 ez hA2
    go_wp2_with (first | (refine wpList_load_row rfl 29 (.tmp 4) (by with_reducible rfl) gc (by first | rfl | simp [Act.eval]) 29 A2 (0, 0) _ k1 Tryz.underlying29 rfl i29 ?_) | (refine wpList_store_row rfl 29 (.tmp 2) (.tmp 31) (by with_reducible rfl) g0 A2 (by first | rfl | simp [Act.eval]) (by first | rfl | simp [Act.eval]) 29 cz k0 i29 (by rw [hsz]; rfl) hone ?_))
    refine bodyPost_ret (v := .agg A2) ?_ rfl (by rw [hR.out]; exact ⟨HQ.out.1, _, rfl, HQ.out.2.1⟩)
    exact results_cell_row (p := 2) (ty := 29) rfl _ _ g0 29 _ (0, 0) _ rfl HQ.out.2.2 Tryz.underlying29 rfl i29
end Go.Proofs.YtneciccdiledfaaGreatDoor
namespace Go.Proofs.YtneciccdiledfaaGreatDoor
open Go.RowKit
open La
open Ad
theorem rline_any {w V : World} {g : Nat} {σ : Sg} {W K L : List (Nat × Obj)} {gc : Nat} {c : Cgf} (hV : Vs w) (h : Lg w V g σ W (L ++ K)) (hC : CfI gc c L) (hn : c.ten.length ≤ 900000) (hlen : ∀ t ∈ c.ten, t.pool.length + σ.ws.length ≤ 900000 ∧ t.stat.length ≤ 900000 ∧ t.twi.length ≤ 900000) :
  Calls Tryz.prog 28 #[.pointer (some ⟨g, 0, none⟩), .pointer (some ⟨gc, 0, none⟩)] V (RL w g W K gc (ln c σ)) := by
 by_cases hx : wt σ = wTenant
 ·exact dl_tenant h hC hV hn hx
 by_cases ht : c.ten = []
 ·exact dl_none h hC ht hx
 by_cases h0 : wt σ = wPool
 ·exact dl_pool h hC ht hlen h0
 by_cases h1 : wt σ = wPorts
 ·exact dl_ports h hC ht h1
 by_cases h2 : wt σ = wFilter
 ·exact dl_filter h hC ht h2
 by_cases h3 : wt σ = wStatic
 ·exact dl_static h hC ht hlen h3
 by_cases h4 : wt σ = wTwice
 ·exact dl_twice h hC ht hlen h4
 by_cases h5 : wt σ = wQuota
 ·exact dl_quota h hC ht h5
 by_cases h6 : wt σ = wRate
 ·exact dl_rate h hC ht h6
 exact dl_other h hC ht hx h0 h1 h2 h3 h4 h5 h6
end Go.Proofs.YtneciccdiledfaaGreatDoor
namespace Go.Proofs.YtneciccdiledfaaGreatDoor
open Go.RowKit
open La
open Ad
theorem read_any {w : World} (hV : Vs w) (hF : FW w) (s : ByteArray) : Calls Tryz.prog 20 #[.string s] w (RdP w (parse s)) := by
 by_cases h : 32768 < s.size
 ·exact read_long s h
 ·exact read_short hV hF s (by omega)
def PrP (w : World) (r : Except Nat Cgf) (e : Ending) (V : World) : Prop := match r with
 | .error a => ∃ g, e = .returned (.tuple #[.agg cz, .iface 58 (.pointer (some ⟨g, 0, none⟩))]) ∧ Mem w V [(g, .cells #[.int .i64 a, .int .i64 60] 64)]
 | .ok c => Below w.heap.size w V ∧ ∃ v, e = .returned (.tuple #[v, .nilIface]) ∧ CVs w.heap.size V v c
def PrM (w : World) (r : Except Nat Cgf) (e : Ending) (V : World) : Prop := match r with
 | .error a => ∃ g, e = .returned (.tuple #[.agg cz, .iface 58 (.pointer (some ⟨g, 0, none⟩))]) ∧ Mem w V [(g, .cells #[.int .i64 a, .int .i64 60] 64)]
 | .ok c => Below w.heap.size w V ∧ ∃ v, e = .returned (.tuple #[v, .nilIface]) ∧ CVs w.heap.size V v c ∧ CMm w V v c
theorem PrM.prp {w V : World} {r : Except Nat Cgf} {e : Ending} (h : PrM w r e V) : PrP w r e V := by
 cases r with
 | error a => exact h
 | ok c =>
  obtain ⟨h1, v, h2, h3, -⟩ := h
  exact ⟨h1, v, h2, h3⟩
abbrev pen (g : Nat) : List PanicEntry := [{ v := .iface 58 (.pointer (some ⟨g, 0, none⟩)), recovered := false }]
theorem catch_bad (p : Addr) (g : Nat) (w : World) (x : Value) (hc : w.cell? p = some x) (hz : w.frozen? p = false) :
  CallsD Tryz.prog 19 #[.pointer (some p)] (.panicking (pen g)) w fun r u' w' =>
   r = .returned (.tuple #[]) ∧ u' = .panicking [{ v := .iface 58 (.pointer (some ⟨g, 0, none⟩)), recovered := true }] ∧ w' = w.setCell p (.iface 58 (.pointer (some ⟨g, 0, none⟩))) := by
 refine callsD_of_wpS Tryz.func19 rfl fun c₀ cs hu => ?_
 apply wpS_seq
 apply wpS_region
 simp [wpOpsS, go_sem, recoverD, hu, Tryz.ntmps19, Exit.thenS]
 refine wpS_of_wp ?_
 change Code.wp Tryz.prog _ _ { tmps := #[.pointer (some p), .iface 58 (.pointer (some ⟨g, 0, none⟩)), .iface 58 (.pointer (some ⟨g, 0, none⟩)), undef, undef, undef, undef, undef], defers := [] } w
 have hta : ∀ w : World, (Instr.typeAssert (.iface 58 (.pointer (some ⟨g, 0, none⟩))) 20 58 false).run Tryz.prog w = .ok (.pointer (some ⟨g, 0, none⟩)) w := fun w => by kernel_rfl
 go_wp2
 refine ⟨rfl, _, rfl, .tuple #[], ?_, rfl, rfl, rfl⟩
 simp [results, Tryz.results19]
theorem catch_none (p : Addr) (w : World) :
  CallsD Tryz.prog 19 #[.pointer (some p)] .returning w fun r u' w' => r = .returned (.tuple #[]) ∧ u' = .returning ∧ w' = w := by
 refine callsD_of_wpS Tryz.func19 rfl fun c₀ cs hu => ?_
 apply wpS_seq
 apply wpS_region
 simp [wpOpsS, go_sem, recoverD, hu, Tryz.ntmps19, Exit.thenS]
 refine wpS_of_wp ?_
 change Code.wp Tryz.prog _ _ { tmps := #[.pointer (some p), .nilIface, .nilIface, undef, undef, undef, undef, undef], defers := [] } w
 go_wp2
 cases c₀
 simp_all [bodyPostS, results, Tryz.results19]
theorem results_cells {fn : Func} {p q : Tmp} {ty tz : TypeId} (h : fn.results = #[.cell p ty, .cell q tz]) (tmps : Array Value) (w : World) (g k : Nat) (v u : Value)
  (hp : tmps.getD p undef = .pointer (some ⟨g, 0, none⟩)) (hq : tmps.getD q undef = .pointer (some ⟨k, 0, none⟩)) (hl : (loadVar ty ⟨g, 0, none⟩).run Tryz.prog w = .ok v w) (hm : (loadVar tz ⟨k, 0, none⟩).run Tryz.prog w = .ok u w) :
  (results fn tmps).run Tryz.prog w = .ok (.tuple #[v, u]) w := by
 have hp' : tmps[p]?.getD undef = .pointer (some ⟨g, 0, none⟩) := by simpa using hp
 have hq' : tmps[q]?.getD undef = .pointer (some ⟨k, 0, none⟩) := by simpa using hq
 simp [results, h, hp', hq', asAddr, hl, hm]
theorem load_err (k : Nat) (w : World) (v : Value) (h : w.cell? ⟨k, 0, none⟩ = some v) : (loadVar 31 ⟨k, 0, none⟩).run Tryz.prog w = .ok v w := by
 simp [loadVar, isAgg, underlying, Tryz.underlying31, h, Result.andThen]
set_option maxHeartbeats 4000000 in
theorem parse_bad {w : World} (hV : Vs w) (hF : FW w) (s : ByteArray) {a : Nat} (h : parse s = .error a) : Calls Tryz.prog 10 #[.string s] w (PrP w (.error a)) := by
 have hmf : ∀ (fn : Fn) (first cap : Array Value) (w : World), (Instr.makeFunc fn first cap).run Tryz.prog w = .ok (.func fn first cap) w := fun _ _ _ _ => rfl
 have hM : Mem w ((w.alloc (.cells cz 29)).alloc (.cells #[.nilIface] 31)) [(w.heap.size, .cells cz 29), (w.heap.size + 1, .cells #[.nilIface] 31)] := ((Mem.nil w).push w.heap.size _ rfl).push (w.heap.size + 1) _ (by simp)
 have hread := read_any (hV.below hM.below) (hF.below hM.below) s
 rw [h] at hread
 have HM : Hid (Mem w ((w.alloc (.cells cz 29)).alloc (.cells #[.nilIface] 31)) [(w.heap.size, .cells cz 29), (w.heap.size + 1, .cells #[.nilIface] 31)]) := hM
 clear hM h
 go_enter_defers Tryz.func10, Tryz.ntmps10
 go_wp2_with fail
 refine hread.mono ?_
 rintro e w2 ⟨g', rfl, hM2⟩
 have hM3 := HM.out.join hM2
 clear hM2 HM hread
 refine leaves_cons (f := 19) (args := #[.pointer (some ⟨w.heap.size + 1, 0, none⟩)]) (by simp) (by simp [go_sem]) ?_
 refine (catch_bad ⟨w.heap.size + 1, 0, none⟩ g' _ _ (hM3.cell 1 rfl 0) (hM3.free 1 rfl 0)).mono ?_
 rintro e u' w'' ⟨rfl, rfl, rfl⟩
 have hM4 := hM3.set 1 rfl 0 (.iface 58 (.pointer (some ⟨g', 0, none⟩)))
 have kg : (w2.setCell ⟨w.heap.size + 1, 0, none⟩ (.iface 58 (.pointer (some ⟨g', 0, none⟩)))).heap[w.heap.size]? = some (.cells cz 29) := hM4.get 0 rfl
 have ke : (w2.setCell ⟨w.heap.size + 1, 0, none⟩ (.iface 58 (.pointer (some ⟨g', 0, none⟩)))).cell? ⟨w.heap.size + 1, 0, none⟩ = some (.iface 58 (.pointer (some ⟨g', 0, none⟩))) := hM4.cell 1 rfl 0
 have hb := hM4.sub.sub
 generalize w2.setCell ⟨w.heap.size + 1, 0, none⟩ (.iface 58 (.pointer (some ⟨g', 0, none⟩))) = w3 at *
 have hl := run_loadVar_row (P := Tryz.prog) w3 w.heap.size 29 29 cz (0, 0) _ kg Tryz.underlying29 rfl (by kernel_rfl)
 have hres := results_cells (fn := Tryz.f10) (p := 2) (q := 3) (ty := 29) (tz := 31) rfl #[.string s, undef, .pointer (some ⟨w.heap.size, 0, none⟩), .pointer (some ⟨w.heap.size + 1, 0, none⟩), .func (.func 19) #[] #[.pointer (some ⟨w.heap.size + 1, 0, none⟩)], .string s, undef] w3 w.heap.size (w.heap.size + 1) _ _ rfl rfl hl (load_err _ _ _ ke)
 have HB : Hid (Mem w w3 [(g', .cells #[.int .i64 a, .int .i64 60] 64)]) := hb
 clear hM4 hM3 kg ke hb hl
 exact ⟨_, hres, g', rfl, HB.out⟩
set_option maxHeartbeats 4000000 in
theorem parse_good {w : World} (hV : Vs w) (hF : FW w) (s : ByteArray) {c : Cgf} (h : parse s = .ok c) : Calls Tryz.prog 10 #[.string s] w (PrM w (.ok c)) := by
 have hmf : ∀ (fn : Fn) (first cap : Array Value) (w : World), (Instr.makeFunc fn first cap).run Tryz.prog w = .ok (.func fn first cap) w := fun _ _ _ _ => rfl
 have hM : Mem w ((w.alloc (.cells cz 29)).alloc (.cells #[.nilIface] 31)) [(w.heap.size, .cells cz 29), (w.heap.size + 1, .cells #[.nilIface] 31)] := ((Mem.nil w).push w.heap.size _ rfl).push (w.heap.size + 1) _ (by simp)
 have hread := read_any (hV.below hM.below) (hF.below hM.below) s
 rw [h] at hread
 have HM : Hid (Mem w ((w.alloc (.cells cz 29)).alloc (.cells #[.nilIface] 31)) [(w.heap.size, .cells cz 29), (w.heap.size + 1, .cells #[.nilIface] 31)]) := hM
 have HS : Hid (((w.alloc (.cells cz 29)).alloc (.cells #[.nilIface] 31)).heap.size = w.heap.size + 2) := (by simp : ((w.alloc (.cells cz 29)).alloc (.cells #[.nilIface] 31)).heap.size = w.heap.size + 2)
 clear hM h
 go_enter_defers Tryz.func10, Tryz.ntmps10
 go_wp2_with fail
 refine hread.mono ?_
 rintro e w2 ⟨hbel, v, rfl, hCV, hMm⟩
 rw [HS.out] at hCV
 have hM2 := HM.out.after hbel
 have hcv0 : CV w2 v c := hCV _ w2 (by rw [HS.out]; exact Nat.le_refl _) hbel (fun b _ _ => rfl)
 obtain ⟨A, rfl, hsz, hone⟩ := hcv0.row
 have i29 : (Tryz.prog.info? 29).map (·.size) = some A.size := by rw [hsz]; kernel_rfl
 have k0 : w2.heap[w.heap.size]? = some (.cells cz 29) := hM2.get 0 rfl
 have hM3 := hM2.wrote 0 rfl (wrote_setRow w2 w.heap.size _ A _ k0)
 have hM4 := hM3.set 1 rfl 0 .nilIface
 have ke : (w2.setRow w.heap.size A).cell? ⟨w.heap.size + 1, 0, none⟩ = some .nilIface := hM3.cell 1 rfl 0
 have kef : ∀ j, (w2.setRow w.heap.size A).frozen? ⟨w.heap.size + 1, j, none⟩ = false := hM3.free 1 rfl
 have HF : Hid (Mem w ((w2.setRow w.heap.size A).setCell ⟨w.heap.size + 1, 0, none⟩ .nilIface) [(w.heap.size, .cells A 29), (w.heap.size + 1, .cells #[.nilIface] 31)]) := hM4
 have HMm : Hid (CMm w ((w2.setRow w.heap.size A).setCell ⟨w.heap.size + 1, 0, none⟩ .nilIface) (.agg A) c) := by
  obtain ⟨m0, m1, m2, m3, m4, m5, m6, m7, m8, m9⟩ := hMm
  have j1 := HM.out.join m9
  have j2 := (j1.wrote 0 rfl (wrote_setRow w2 w.heap.size _ A _ k0)).set 1 rfl 0 .nilIface
  exact ⟨m0, m1, m2, m3, m4, m5, m6, m7, m8, j2.sub.sub⟩
 have HCV : Hid (CVs w.heap.size ((w2.setRow w.heap.size A).setCell ⟨w.heap.size + 1, 0, none⟩ .nilIface) (.agg A) c) := by
  intro w1 V' h1 hb ha
  refine hCV w1 V' (by omega) hb (fun b hb1 hb2 => ?_)
  have hlt : b < ((w2.setRow w.heap.size A).setCell ⟨w.heap.size + 1, 0, none⟩ .nilIface).heap.size := by simpa [World.setCell, World.setRow] using hb2
  rw [ha b (by omega) hlt]
  rw [Below.heap_setCell _ _ _ _ (by simp; omega)]
  exact (wrote_setRow w2 w.heap.size _ A _ k0).there b (by omega)
 clear hM2 hM3 hM4 hbel HM hread hCV hcv0 hMm
 go_wp2_with (refine wpList_store_row rfl 29 (.tmp 2) (.tmp 6) (by with_reducible rfl) w.heap.size A (by first | rfl | simp [Act.eval]) (by first | rfl | simp [Act.eval]) 29 cz k0 i29 (by rw [hsz]; rfl) hone ?_)
 refine leaves_cons (f := 19) (args := #[.pointer (some ⟨w.heap.size + 1, 0, none⟩)]) (by simp) (by simp [go_sem]) ?_
 refine (catch_none ⟨w.heap.size + 1, 0, none⟩ _).mono ?_
 rintro e u' w'' ⟨rfl, rfl, rfl⟩
 have kg := HF.out.get 0 rfl
 have ke2 := HF.out.cell 1 rfl 0
 have hl := run_loadVar_row (P := Tryz.prog) _ w.heap.size 29 29 A (0, 0) _ kg Tryz.underlying29 rfl i29
 have hres := results_cells (fn := Tryz.f10) (p := 2) (q := 3) (ty := 29) (tz := 31) rfl #[.string s, undef, .pointer (some ⟨w.heap.size, 0, none⟩), .pointer (some ⟨w.heap.size + 1, 0, none⟩), .func (.func 19) #[] #[.pointer (some ⟨w.heap.size + 1, 0, none⟩)], .string s, .agg A] _ w.heap.size (w.heap.size + 1) _ _ rfl rfl hl (load_err _ _ _ ke2)
 exact ⟨_, hres, HF.out.below, _, rfl, HCV.out, HMm.out⟩
theorem parse_any {w : World} (hV : Vs w) (hF : FW w) (s : ByteArray) : Calls Tryz.prog 10 #[.string s] w (PrP w (parse s)) := by
 cases h : parse s with
 | error a => exact parse_bad hV hF s h
 | ok c => exact (parse_good hV hF s h).mono fun _ _ h => h.prp
end Go.Proofs.YtneciccdiledfaaGreatDoor
namespace Go.Proofs.YtneciccdiledfaaGreatDoor
open Go.RowKit
open La
open Ad
theorem Mem.ne_head {w V : World} {g : Nat} {o : Obj} {L : List (Nat × Obj)} (h : Mem w V ((g, o) :: L)) (p : Nat × Obj) (hp : p ∈ L) : p.1 ≠ g := by
 obtain ⟨j, hj, e⟩ := List.getElem_of_mem hp
 obtain ⟨k, u⟩ := p
 exact fun he => h.ne 0 (j + 1) (g := g) (o := o) (k := k) (u := u) rfl (by rw [List.getElem?_cons_succ, List.getElem?_eq_getElem hj, e]) (by omega) he.symm
theorem owb_winT {T : TypeId} {v : Value} {ws : List Wd} {B : List (Nat × Obj)} (h : OwB T 2 v ws.length (ws.map wcs).flatten B) : WIn B v ws := by
 have hflat : ∀ (l : List Wd) (Y : List Value) (i : Nat) (x : Wd), l[i]? = some x → ((l.map wcs).flatten ++ Y)[2 * i]? = some (.string x.1) ∧ ((l.map wcs).flatten ++ Y)[2 * i + 1]? = some (.int .i64 x.2) := by
  intro l
  induction l with
  | nil => intro Y i x h; simp at h
  | cons y l ih =>
   intro Y i x h
   cases i with
   | zero => simp at h; subst h; simp [wcs]
   | succ i =>
    have := ih Y i x (by simpa using h)
    rw [List.map_cons, List.flatten_cons]
    simp only [wcs, List.cons_append, List.nil_append]
    rw [show 2 * (i + 1) = 2 * i + 1 + 1 by omega]
    simpa using this
 obtain ⟨h1, hh⟩ := h
 rcases hh with ⟨rfl, e, rfl⟩ | ⟨g, cap, cur, rfl, rfl, h2, h3, h4, h5⟩
 ·have : ws = [] := List.eq_nil_of_length_eq_zero e
  subst this
  exact ⟨none, 0, rfl, Nat.le_refl _, by omega, Or.inl rfl⟩
 ·refine ⟨some ⟨g, 0, none⟩, cap, rfl, h2, by unfold maxLen at h3; omega, Or.inr ⟨g, 0, cur, _, rfl, List.mem_singleton.2 rfl, fun i x hx => ?_⟩⟩
  have e : (ws.map wcs).flatten ++ cur.toList.drop (ws.length * 2) = cur.toList := by
   conv => lhs; lhs; rw [← h5]
   exact List.take_append_drop _ _
  have := hflat ws (cur.toList.drop (ws.length * 2)) i x hx
  rw [e] at this
  simp only [Array.getElem?_toList] at this
  rw [Nat.zero_add]
  exact this
set_option maxHeartbeats 2000000 in
theorem rfail_keeps {w V : World} {g : Nat} {σ : Sg} {W K : List (Nat × Obj)} (h : Lg w V g σ W K) (a : Nat) :
  Calls Tryz.prog 29 #[.pointer (some ⟨g, 0, none⟩), .int .i64 (a : Int)] V fun e V' => e = .returned (.tuple #[]) ∧ Lg w V' g (σ.fail a) W K ∧ ∀ q : Addr, (q.block ≠ g ∨ q.off < 2) → V'.cell? q = V.cell? q := by
 obtain ⟨h1, v, all, i, at_, h2, h3, h4, h5, h6, hM⟩ := h
 have d4 : V.cell? ⟨g, 4, none⟩ = some (.bool σ.bad.isSome) := hM.cell 0 rfl 4
 have d3 : V.cell? ⟨g, 3, none⟩ = some (.int .i64 at_) := hM.cell 0 rfl 3
 have kf := hM.free 0 rfl
 cases hb : σ.bad with
 | some a' =>
  have hf : σ.fail a = σ := fail_same hb
  rw [hf]
  have HL : Hid (Lg w V g σ W K) := ⟨h1, v, all, i, at_, h2, h3, h4, h5, h6, hM⟩
  rw [hb] at d4
  simp only [Option.isSome_some] at d4
  clear hM h1 h2 h3 h4 h5 h6 hf hb
  go_enter Tryz.func29, Tryz.ntmps29
  go_wp2_with fail
  go_end0
  exact ⟨rfl, HL.out, fun q _ => rfl⟩
 | none =>
  rw [hb] at hM d4
  simp only [Option.isSome_none] at hM d4
  have hM2 := (hM.set 0 rfl 4 (.bool true)).set 0 rfl 3 (.int .i64 a)
  have e3 : (V.setCell ⟨g, 4, none⟩ (.bool true)).cell? ⟨g, 3, none⟩ = some (.int .i64 at_) := (hM.set 0 rfl 4 (.bool true)).cell 0 rfl 3
  have ef := (hM.set 0 rfl 4 (.bool true)).free 0 rfl
  have HL : Hid (Lg w ((V.setCell ⟨g, 4, none⟩ (.bool true)).setCell ⟨g, 3, none⟩ (.int .i64 a)) g (σ.fail a) W K) := by
   refine ⟨h1, v, all, i, a, h2, h3, h4, h5, fun a' e => ?_, ?_⟩
   ·unfold Sg.fail at e; rw [hb] at e; cases e; rfl
   ·unfold Sg.fail; rw [hb]; exact hM2
  have HK : Hid (∀ q : Addr, (q.block ≠ g ∨ q.off < 2) → ((V.setCell ⟨g, 4, none⟩ (.bool true)).setCell ⟨g, 3, none⟩ (.int .i64 a)).cell? q = V.cell? q) := by
   intro q hq
   have n3 : (⟨g, 3, none⟩ : Addr) ≠ q := by
    rintro rfl
    rcases hq with h | h
    ·exact h rfl
    ·simp at h
   have n4 : (⟨g, 4, none⟩ : Addr) ≠ q := by
    rintro rfl
    rcases hq with h | h
    ·exact h rfl
    ·simp at h
   rw [World.cell?_setCell_other _ _ _ _ n3, World.cell?_setCell_other _ _ _ _ n4]
  clear hM hM2 h1 h2 h3 h4 h5 h6 hb
  go_enter Tryz.func29, Tryz.ntmps29
  go_wp2_with fail
  go_end0
  exact ⟨rfl, HL.out, HK.out⟩
def rst (s : ByteArray) (f : Nat) : List (List Wd × Nat) := scan s (s.data.toList.drop f) f [] none false
theorem rst_out (s : ByteArray) : rst s (s.size + 1) = [] := by
 unfold rst
 rw [List.drop_eq_nil_of_le (by rw [text_len]; omega), scan_nil]
 rfl
theorem rst_line {s : ByteArray} {f i : Nat} (hfi : f ≤ i) (his : i ≤ s.size) (hno : ∀ b ∈ (s.data.toList.drop f).take (i - f), b ≠ 10) (hend : i = s.size ∨ s.data.toList[i]? = some 10) : rst s f = lined (lw s ((s.data.toList.drop f).take (i - f)) f none) i ++ rst s (i + 1) := by
 have hsp : s.data.toList.drop f = (s.data.toList.drop f).take (i - f) ++ s.data.toList.drop i := by
  have := (List.take_append_drop (i - f) (s.data.toList.drop f)).symm
  rw [List.drop_drop, show f + (i - f) = i by omega] at this
  exact this
 have hl : ((s.data.toList.drop f).take (i - f)).length = i - f := by
  rw [List.length_take, List.length_drop, text_len]; omega
 unfold rst
 generalize (s.data.toList.drop f).take (i - f) = l at *
 have hfl : f + l.length = i := by omega
 rcases hend with h | h
 ·have hd : s.data.toList.drop i = [] := List.drop_eq_nil_of_le (by rw [text_len]; omega)
  rw [hd] at hsp
  have hL : scan s (l ++ []) f [] none false = lined ([] ++ lw s l f none) (f + l.length) ++ [] := scan_line s [] (Or.inl rfl) l f [] none hno
  rw [hsp, hL, hfl, List.nil_append]
  have := rst_out s
  unfold rst at this
  rw [h, this]
 ·have e : s.data.toList.drop i = 10 :: s.data.toList.drop (i + 1) := by
   rw [← List.getElem?_eq_some_iff.1 h |>.2]; exact List.drop_eq_getElem_cons _
  rw [e] at hsp
  have hL : scan s (l ++ 10 :: s.data.toList.drop (i + 1)) f [] none false = lined ([] ++ lw s l f none) (f + l.length) ++ scan s (s.data.toList.drop (i + 1)) (f + l.length + 1) [] none false := scan_line s (10 :: s.data.toList.drop (i + 1)) (Or.inr ⟨_, rfl⟩) l f [] none hno
  rw [hsp, hL, hfl, List.nil_append]
def PS (s : ByteArray) (o : Option Cgf) (f i : Nat) (R : Except Nat Cgf) : Prop := f ≤ i ∧ i ≤ s.size + 1 ∧ (i ≤ s.size ∨ f = i) ∧ (∀ b ∈ (s.data.toList.drop f).take (i - f), b ≠ 10) ∧ rdl s.size o (rst s f) = R ∧ Bd (o.getD cfg0) (tot (rst s f))
theorem ps_start {s : ByteArray} (hs : s.size ≤ 32768) : PS s none 0 0 (rdl s.size none (lns s)) := by
 refine ⟨Nat.le_refl _, by omega, Or.inl (by omega), by simp, rfl, ?_⟩
 have := lns_tot s
 have e : rst s 0 = lns s := rfl
 rw [e]
 refine ⟨by show 0 + _ ≤ _; omega, fun t ht => by cases ht⟩
theorem PS.next {s : ByteArray} {o : Option Cgf} {f i : Nat} {R : Except Nat Cgf} (h : PS s o f i R) (hi : i < s.size) {b : UInt8} (hb : s.data.toList[i]? = some b) (hn : b ≠ 10) : PS s o f (i + 1) R := by
 obtain ⟨h1, h2, h3, h4, h5, h6⟩ := h
 refine ⟨by omega, by omega, Or.inl (by omega), ?_, h5, h6⟩
 rw [show i + 1 - f = (i - f) + 1 by omega, List.take_add_one, List.getElem?_drop, show f + (i - f) = i by omega, hb]
 intro x hx
 rcases List.mem_append.1 hx with hx | hx
 ·exact h4 x hx
 ·simp at hx; rw [hx]; exact hn
theorem ps_fresh {s : ByteArray} {o : Option Cgf} {i : Nat} {R : Except Nat Cgf} (hi : i ≤ s.size) (h5 : rdl s.size o (rst s (i + 1)) = R) (h6 : Bd (o.getD cfg0) (tot (rst s (i + 1)))) : PS s o (i + 1) (i + 1) R :=
 ⟨Nat.le_refl _, by omega, Or.inr rfl, by simp, h5, h6⟩
theorem PS.empty {s : ByteArray} {o : Option Cgf} {f i : Nat} {R : Except Nat Cgf} (h : PS s o f i R) (hi : i ≤ s.size) (hend : i = s.size ∨ s.data.toList[i]? = some 10) (hw : lw s ((s.data.toList.drop f).take (i - f)) f none = []) : PS s o (i + 1) (i + 1) R := by
 obtain ⟨h1, h2, h3, h4, h5, h6⟩ := h
 rw [rst_line h1 hi h4 hend, hw] at h5 h6
 exact ps_fresh hi h5 h6
theorem PS.line {s : ByteArray} {o : Option Cgf} {f i : Nat} {R : Except Nat Cgf} (h : PS s o f i R) (hs : s.size ≤ 32768) (hi : i ≤ s.size) (hend : i = s.size ∨ s.data.toList[i]? = some 10) {ws : List Wd} (hw : lw s ((s.data.toList.drop f).take (i - f)) f none = ws) (hne : ws ≠ []) :
  rdl s.size o ((ws, i) :: rst s (i + 1)) = R ∧ Bd (o.getD cfg0) (ws.length + tot (rst s (i + 1))) ∧ ∀ x ∈ ws, x.1.size ≤ 32768 := by
 obtain ⟨h1, h2, h3, h4, h5, h6⟩ := h
 have hsm := scan_sm s (s.data.toList.drop f) f [] none false (by intro y hy; simp at hy)
 have e : lined ws i = [(ws, i)] := by unfold lined; rw [if_neg hne]
 have hr := rst_line h1 hi h4 hend
 rw [hw, e] at hr
 rw [hr] at h5 h6
 refine ⟨h5, ?_, fun x hx => ?_⟩
 ·rw [List.singleton_append, tot_cons] at h6; exact h6
 ·have := hsm (ws, i) (by
   have : (ws, i) ∈ rst s f := by rw [hr]; simp
   exact this) x hx
  omega
theorem bd_first {σ : Sg} {k n : Nat} (h : Bd cfg0 (n + k)) : Bd (gwC σ) k := by
 have e : (gwC σ).ten = [] := by
  unfold gwC
  generalize m6 (val mac (g2 σ)) = a
  generalize m6 (val mac (g3 σ)) = b
  generalize m6 (val mac (g4 σ)) = c
  generalize k8 (val key (g5 σ)) = d
  rfl
 have h1 := h.1
 refine ⟨by rw [e]; have : (cfg0.ten.length) = 0 := rfl; rw [this] at h1; simp only [List.length_nil]; omega, fun t ht => by rw [e] at ht; cases ht⟩
theorem rdn_bd {o : Option Cgf} {ws : List Wd} {i k : Nat} (hne : ws ≠ []) (h : Bd (o.getD cfg0) (ws.length + k)) : Bd (rdn o ⟨ws, i, none⟩).1 k := by
 cases o with
 | none => rw [rdn_none]; exact bd_first h
 | some c =>
  rw [rdn_some]
  cases ws with
  | nil => exact absurd rfl hne
  | cons x r => exact ln_bd h
theorem ps_good {s : ByteArray} {o : Option Cgf} {i : Nat} {ws : List Wd} {R : Except Nat Cgf} (hi : i ≤ s.size) (hne : ws ≠ []) (h1 : rdl s.size o ((ws, i) :: rst s (i + 1)) = R) (h2 : Bd (o.getD cfg0) (ws.length + tot (rst s (i + 1)))) {c : Cgf} {σ : Sg} (hr : rdn o ⟨ws, i, none⟩ = (c, σ)) (hb : (done σ).bad = none) : PS s (some c) (i + 1) (i + 1) R := by
 have e : (done (rdn o ⟨(ws, i).1, (ws, i).2, none⟩).2).bad = none := by show (done (rdn o ⟨ws, i, none⟩).2).bad = none; rw [hr]; exact hb
 have h3 := rdl_good (n := s.size) (r := rst s (i + 1)) e
 rw [h1] at h3
 have hbd := rdn_bd (i := i) hne h2
 refine ps_fresh hi ?_ ?_
 ·rw [h3]
  show _ = rdl s.size (some (rdn o ⟨ws, i, none⟩).1) _
  rw [hr]
 ·rw [hr] at hbd; exact hbd
theorem ps_bad {s : ByteArray} {o : Option Cgf} {i : Nat} {ws : List Wd} {R : Except Nat Cgf} (h1 : rdl s.size o ((ws, i) :: rst s (i + 1)) = R) {c : Cgf} {σ : Sg} (hr : rdn o ⟨ws, i, none⟩ = (c, σ)) {a : Nat} (hb : (done σ).bad = some a) : R = .error a := by
 have e : (done (rdn o ⟨(ws, i).1, (ws, i).2, none⟩).2).bad = some a := by show (done (rdn o ⟨ws, i, none⟩).2).bad = some a; rw [hr]; exact hb
 have h3 := rdl_bad (n := s.size) (r := rst s (i + 1)) e
 rw [h1] at h3
 exact h3
theorem PS.end_ {s : ByteArray} {o : Option Cgf} {f : Nat} {R : Except Nat Cgf} (h : PS s o f (s.size + 1) R) : nd s.size o = R := by
 obtain ⟨h1, h2, h3, h4, h5, h6⟩ := h
 have : f = s.size + 1 := by omega
 rw [this, rst_out, rdl_nil] at h5
 exact h5
def DpP (w : World) (r : Except Nat Cgf) (e : Ending) (V : World) : Prop := match r with
 | .error a => Below w.heap.size w V ∧ e = .returned (.tuple #[.agg cz, .int .i64 a, .int .i64 60])
 | .ok c => Below w.heap.size w V ∧ ∃ v, e = .returned (.tuple #[v, .int .i64 0, .int .i64 0]) ∧ CVs w.heap.size V v c
def MP (w V : World) (g2 gb : Nat) (c : Cgf) (Q : List (Nat × Obj)) : Prop := ∃ L, CfI gb c L ∧ Mem w V (L ++ ((g2, .cells cz 29) :: Q))
end Go.Proofs.YtneciccdiledfaaGreatDoor
