/-
  Settings as text: the document's own reader of a whole text.
  Settings as text: the settings of few numbers, there and back (lychlaw13's known).
-/
import Derived.Test.YtneciccdiledfaaGreatDoorMx49
import Derived.Test.YtneciccdiledfaaGreatDoorMx47
import Derived.Test.YtneciccdiledfaaGreatDoorMx46
import Derived.Test.YtneciccdiledfaaGreatDoorMx45
import Derived.Test.YtneciccdiledfaaGreatDoorMx37
import Derived.Test.YtneciccdiledfaaGreatDoorMx34
import Derived.Test.YtneciccdiledfaaGreatDoorMx31
set_option linter.unusedVariables false
set_option linter.unusedSimpArgs false
set_option maxRecDepth 20000
namespace Go.Proofs.YtneciccdiledfaaGreatDoor
open Go.RowKit
open List (getElem_toArray getElem_cons_zero getElem_cons_succ setIfInBounds_toArray set_cons_zero set_cons_succ)
open La
open Ad
set_option maxHeartbeats 4000000 in
theorem rparse_long {w : World} (s : ByteArray) (hs : 32768 < s.size) : Calls Tryz.prog 12 #[.string s] w (DpP w (parse s)) := by
 have hp : parse s = .error 32768 := by unfold parse; rw [if_pos hs]
 rw [hp]
 have hz : (32768 : Int) < s.size := by omega
 obtain ⟨gz, hgz⟩ : ∃ gz, w.heap.size = gz := ⟨_, rfl⟩
 have HM0 : Hid (Mem w (w.alloc (.cells cz 29)) [(gz, .cells cz 29)]) := (Mem.nil w).push1 hgz.symm
 have bC := build_C
 clear hp hs
 go_enter Tryz.func12, Tryz.ntmps12
 go_upto_region 1 with fail
 refine wp_letter (fun X => Mem w X [(gz, Obj.cells cz 29)]) (by exact HM0.out) ?_
 intro V0 hM0
 try simp only [hgz]
 have k0 : V0.heap[gz]? = some (.cells cz 29) := hM0.get 0 rfl
 have hM4 := hM0.wrote 0 rfl (wrote_setRow V0 gz cz cz _ k0)
 have HM4 : Hid (Mem w (V0.setRow gz cz) [(gz, .cells cz 29)]) := hM4
 clear hM0 HM0 hgz hM4
 go_wp2_with (refine wpList_store_row rfl 29 (.tmp 2) (.tmp 13) (by with_reducible rfl) gz cz (by simp [Act.eval]) (by simp [Act.eval]; rfl) 29 cz k0 (by kernel_rfl) rfl (by kernel_rfl) ?_)
 refine bodyPost_ret (v := .tuple #[.agg cz, .int .i64 32768, .int .i64 60]) ?_ rfl ⟨HM4.out.below, rfl⟩
 exact results_three (p := 2) (q := 3) (r := 4) (ty := 29) rfl _ _ gz cz rfl (run_loadVar_row _ _ 29 29 _ (0, 0) _ (HM4.out.get 0 rfl) Tryz.underlying29 rfl (by kernel_rfl))
set_option maxHeartbeats 16000000 in
theorem rparse_short {w : World} (hV : Vs w) (s : ByteArray) (hs : s.size ≤ 32768) : Calls Tryz.prog 12 #[.string s] w (DpP w (parse s)) := by
 have hp : parse s = rdl s.size none (lns s) := by unfold parse; rw [if_neg (by omega)]
 rw [hp]
 have hz : ¬ (32768 : Int) < s.size := by omega
 have hps := ps_start hs
 obtain ⟨R, hR⟩ : ∃ R, rdl s.size none (lns s) = R := ⟨_, rfl⟩
 rw [hR] at hps ⊢
 have HPS0 : Hid (PS s none 0 0 R) := hps
 have HV : Hid (Vs w) := hV
 have HS : Hid (s.size ≤ 32768) := hs
 obtain ⟨gz, hgz⟩ : ∃ gz, w.heap.size = gz := ⟨_, rfl⟩
 have HM0 : Hid (Mem w (w.alloc (.cells cz 29)) [(gz, .cells cz 29)]) := (Mem.nil w).push1 hgz.symm
 have bC := build_C
 clear hp hR hps hV hs
 go_enter Tryz.func12, Tryz.ntmps12
 go_upto_region 1 with fail
 refine wp_letter (fun X => Mem w X [(gz, Obj.cells cz 29)]) (by exact HM0.out) ?_
 intro V0 hM0
 try simp only [hgz]
 obtain ⟨gb, hgb⟩ : ∃ gb, V0.heap.size = gb := ⟨_, rfl⟩
 have HM1 : Hid (Mem w (V0.alloc (.cells cz 29)) [(gb, .cells cz 29), (gz, .cells cz 29)]) := hM0.front _ hgb.symm
 clear hM0 HM0 hgz
 go_upto_region 4 with fail
 refine wp_letter (fun X => Mem w X [(gb, Obj.cells cz 29), (gz, Obj.cells cz 29)]) (by exact HM1.out) ?_
 intro V1 hM1
 try simp only [hgb]
 have HP0 : Hid (PS s none 0 0 R ∧ ∃ Q, MP w V1 gz gb cfg0 Q) := ⟨HPS0.out, [], [(gb, .cells cz 29)], ⟨cfg0_len, Or.inl ⟨rfl, rfl⟩⟩, hM1⟩
 clear hM1 HM1 hgb HPS0
 go_wp2_with fail
 go_loopw [6, 7, 8, 9] (fun b fr ii pp w' => ∃ (i from_ : Nat) (o : Option Cgf), b = .bool o.isSome ∧ fr = .int .i64 from_ ∧ ii = .int .i64 i ∧ i ≤ s.size + 1 ∧ Hid (PS s o from_ i R ∧ ∃ Q, MP w w' gz gb (o.getD cfg0) Q)) (fun _ _ ii _ _ => s.size + 1 - (intOf ii).toNat)
 case atStart => exact ⟨0, 0, none, rfl, rfl, rfl, Nat.zero_le _, HP0⟩
 case round =>
  obtain ⟨i, from_, o, rfl, rfl, rfl, hi, HX⟩ := hrel
  clear HP0
  by_cases hin : i ≤ s.size
  ·have hle : (i : Int) ≤ s.size := by omega
   have e7 : IntKind.i64.wrap ((i : Int) + 1) = (i : Int) + 1 := by have := HS.out; exact wrap64 (by omega) (by omega)
   by_cases hcont : i < s.size ∧ s.data.toList[i]? ≠ some 10
   ·obtain ⟨hlt, hne⟩ := hcont
    have hiz : (i : Int) < s.size := by omega
    have hiz2 : decide ((i : Int) < s.size) = true := by simpa using hiz
    obtain ⟨b, hb⟩ : ∃ b, s[i]'hlt = b := ⟨_, rfl⟩
    have hbl : s.data.toList[i]? = some b := by rw [← hb, List.getElem?_eq_getElem (by rw [text_len]; exact hlt)]; rfl
    have hb10 : b ≠ 10 := fun e => hne (by rw [hbl, e])
    have hix : ∀ W, (Instr.index 9 (.string s) (.int .i64 i)).run Tryz.prog W = .ok (.int .u8 (b.toNat : Int)) W := by
     intro W
     rw [run_index_string W 9 s .i64 i Tryz.underlying9, dif_pos ⟨by omega, hiz⟩]
     simp only [Int.toNat_natCast, hb]
    have n10 : ((b.toNat : Int) == (10 : Int)) = false := byte_ne (c := 10) (by decide) hb10
    have n10m : ((b.toNat : Int) != (10 : Int)) = true := by simpa using n10
    have HN : Hid (PS s o from_ (i + 1) R ∧ ∃ Q, MP w wr gz gb (o.getD cfg0) Q) := ⟨HX.out.1.next hlt hbl hb10, HX.out.2⟩
    clear HX hb hbl hb10 hne
    generalize (b.toNat : Int) = bn at hix n10 n10m
    go_wp2_with fail
    go_roundw
    case rel => exact ⟨i + 1, from_, o, rfl, rfl, by go_num, by omega, HN⟩
    case measure => simp [intOf]; omega
   ·have hend : i = s.size ∨ s.data.toList[i]? = some 10 := by
     rcases Nat.lt_or_ge i s.size with h | h
     ·right
      exact Classical.byContradiction fun e => hcont ⟨h, e⟩
     ·left; omega
    clear hcont
    obtain ⟨hPS, Q, L, hC, hM⟩ := HX.out
    have hfi : from_ ≤ i := hPS.1
    have hst := sub_text s from_ i
    have CW := rwords_any hM s from_ i HS.out hfi hin
    rw [hst] at CW
    obtain ⟨ws, hws⟩ : ∃ ws, lw s ((s.data.toList.drop from_).take (i - from_)) from_ none = ws := ⟨_, rfl⟩
    rw [hws] at CW
    obtain ⟨T, hT⟩ : ∃ T, s.extract from_ i = T := ⟨_, rfl⟩
    rw [hT] at CW
    have hsl : ∀ W, (Instr.slice 9 (.string s) (some (.int .i64 (from_ : Int))) (some (.int .i64 (i : Int))) none).run Tryz.prog W = .ok (.string T) W := by
     intro W
     rw [run_slice_string W 9 s .i64 .i64 from_ i Tryz.underlying9 (by omega) (by omega) (by omega)]
     simp only [Int.toNat_natCast, hT]
    have HEND : Hid (PS s o from_ i R ∧ (i = s.size ∨ s.data.toList[i]? = some 10) ∧ lw s ((s.data.toList.drop from_).take (i - from_)) from_ none = ws ∧ i ≤ s.size ∧ CfI gb (o.getD cfg0) L) := ⟨hPS, hend, hws, hin, hC⟩
    have HEN2 : Hid (i = s.size ∨ s.data.toList[i]? = some 10) := hend
    have hwl : ws.length ≤ 32768 := by
     have h1 := scan_tot s (s.data.toList.drop from_) from_ [] none false
     have h2 := rst_line hPS.1 hin hPS.2.2.2.1 hend
     unfold rst at h2
     rw [h2, tot_app, lined_tot, hws, List.length_drop, text_len] at h1
     have := HS.out
     have : nc none = 0 := rfl
     simp only [List.length_nil] at h1
     omega
    have HWL : Hid (ws.length ≤ 32768) := hwl
    clear HX hPS hC hM hst hT hws hend hwl
    go_upto_region 9 with fail
    go_cut [29] from 14 to 104 (fun v Vx => v = .bool false ∧ wr = Vx)
    case first =>
     rcases HEN2.out with h | h
     ·have hiz : ¬ ((i : Int) < s.size) := by omega
      have hiz2 : decide ((i : Int) < s.size) = false := by simpa using hiz
      clear CW hsl h
      go_wp2_with fail
      go_meet
      case rel => exact ⟨rfl, rfl⟩
     ·have hlt : i < s.size := by
       have := (List.getElem?_eq_some_iff.1 h).1
       rw [text_len] at this; exact this
      have hiz : (i : Int) < s.size := by omega
      have hiz2 : decide ((i : Int) < s.size) = true := by simpa using hiz
      have hb : s[i]'hlt = 10 := by
       have := (List.getElem?_eq_some_iff.1 h).2
       exact this
      have hix : ∀ W, (Instr.index 9 (.string s) (.int .i64 i)).run Tryz.prog W = .ok (.int .u8 10) W := by
       intro W
       rw [run_index_string W 9 s .i64 i Tryz.underlying9, dif_pos ⟨by omega, hiz⟩]
       simp only [Int.toNat_natCast, hb]
       rfl
      clear CW hsl hb h
      go_wp2_with fail
      go_meet
      case rel => exact ⟨rfl, rfl⟩
    case rest =>
     obtain ⟨rfl, rfl⟩ := hcut
     go_wp2_with fail
     refine CW.mono ?_
     rintro e V2 ⟨v, rfl, hO⟩
     obtain ⟨W, hB, hM2⟩ := hO
     have hWI := owb_winT hB
     obtain ⟨a, c, rfl⟩ : ∃ a c, v = .slice a ws.length c := by
      obtain ⟨h1, ⟨rfl, e, -⟩ | ⟨gg, cap, cur, rfl, -⟩⟩ := hB
      ·exact ⟨none, 0, by rw [e]⟩
      ·exact ⟨_, _, rfl⟩
     obtain ⟨m, hm⟩ : ∃ m, ws.length = m := ⟨_, rfl⟩
     obtain ⟨g, hg⟩ : ∃ g, V2.heap.size = g := ⟨_, rfl⟩
     have hMg := hM2.front (.cells (lgc (.slice a ws.length c) 0 i 0 false) 69) hg.symm
     have HWM : Hid (ws.length = m) := hm
     rw [hm] at hMg hWI
     have HBX : Hid (Mem w (V2.alloc (.cells (lgc (.slice a m c) 0 i 0 false) 69)) ((g, .cells (lgc (.slice a m c) 0 i 0 false) 69) :: (W ++ (L ++ ((gz, .cells cz 29) :: Q)))) ∧ WIn W (.slice a m c) ws) := ⟨hMg, hWI⟩
     rw [hm]
     clear CW hsl hB hM2 hWI hMg hm
     go_upto_region 11 with fail
     refine wp_letter (fun X => Mem w X ((g, .cells (lgc (.slice a m c) 0 i 0 false) 69) :: (W ++ (L ++ ((gz, .cells cz 29) :: Q))))) (by exact HBX.out.1) ?_
     intro V0b hMb
     try simp only [hg]
     have d0 : V0b.cell? ⟨g, 0, none⟩ = some (.slice a m c) := hMb.cell 0 rfl 0
     have HWN : Hid (WIn W (.slice a m c) ws ∧ ws.length = m) := ⟨HBX.out.2, HWM.out⟩
     clear HBX hg HWM
     by_cases hw0 : ws = []
     ·have hm0 : m = 0 := by rw [← HWN.out.2, hw0]; rfl
      subst hm0
      have HN : Hid (PS s o (i + 1) (i + 1) R ∧ ∃ Q, MP w V0b gz gb (o.getD cfg0) Q) := by
       obtain ⟨q1, q2, q3, q4, q5⟩ := HEND.out
       refine ⟨q1.empty q4 q2 (by rw [q3]; exact hw0), (g, .cells (lgc (.slice a 0 c) 0 i 0 false) 69) :: (W ++ Q), L, q5, hMb.perm (by classical rw [List.perm_iff_count]; intro z; simp only [List.count_append, List.count_cons]; omega)⟩
      clear hMb HEND HWN HEN2 hw0
      go_wp2_with fail
      go_roundw
      case rel => exact ⟨i + 1, i + 1, o, rfl, by go_num, by go_num, by omega, HN⟩
      case measure => simp [intOf]; omega
     ·have hmp : 0 < m := by
       rw [← HWN.out.2]; exact List.length_pos_iff.2 hw0
      have hm0 : ((m : Int) == 0) = false := by rw [beq_eq_false_iff_ne]; omega
      obtain ⟨hl1, hl2, hl3⟩ := HEND.out.1.line HS.out HEND.out.2.2.2.1 HEND.out.2.1 HEND.out.2.2.1 hw0
      obtain ⟨σ, hσ⟩ : ∃ σ : Sg, (⟨ws, i, none⟩ : Sg) = σ := ⟨_, rfl⟩
      have hLg : Lg w V0b g σ W (L ++ ((gz, .cells cz 29) :: Q)) := by
       rw [← hσ]
       refine ⟨hl3, .slice a m c, ws, 0, 0, HWN.out.1, Nat.zero_le _, by have := HWL.out; omega, rfl, fun a e => (by cases e), ?_⟩
       exact (show Mem w V0b ((g, .cells (lgc (.slice a m c) 0 i 0 false) 69) :: ((L ++ ((gz, .cells cz 29) :: Q)) ++ W)) from hMb.perm (by classical rw [List.perm_iff_count]; intro z; simp only [List.count_append, List.count_cons]; omega))
      obtain ⟨cN, σN, hrd⟩ : ∃ cN σN, rdn o σ = (cN, σN) := ⟨_, _, rfl⟩
      have HRD : Hid (rdn o σ = (cN, σN)) := hrd
      have HLN : Hid (rdl s.size o ((ws, i) :: rst s (i + 1)) = R ∧ Bd (o.getD cfg0) (ws.length + tot (rst s (i + 1))) ∧ ws ≠ [] ∧ i ≤ s.size ∧ (⟨ws, i, none⟩ : Sg) = σ) := ⟨hl1, hl2, hw0, hin, hσ⟩
      have HLG : Hid (Lg w V0b g σ W (L ++ ((gz, .cells cz 29) :: Q))) := hLg
      have HCI : Hid (CfI gb (o.getD cfg0) L) := HEND.out.2.2.2.2
      have HSW : Hid (σ.ws.length ≤ 32768) := by rw [← hσ]; exact HWL.out
      clear hMb hLg hl1 hl2 hl3 hσ hrd HEND HWN HEN2 hw0 HWL
      go_upto_region 13 with fail
      clear d0 hm0
      go_upto_if 48 with fail
      go_cut [6] from 14 to 104 (fun b Vx => b = .bool true ∧ Hid (∃ L', CfI gb cN L' ∧ Lg w Vx g σN W (L' ++ ((gz, .cells cz 29) :: Q))))
      case first => as_aux_lemma =>
       cases o with
       | some c0 =>
        try simp only [Option.getD_some] at HCI HLN
        have hbd := HLN.out.2.1
        have hws2 := HLN.out.2.2.2.2
        have hws3 : σ.ws = ws := by rw [← hws2]
        have CL := rline_any HV.out HLG.out HCI.out (by have := hbd.1; omega) (fun t ht => by have h1 := hbd.2 t ht; rw [hws3]; omega)
        have hrd := HRD.out
        rw [rdn_some] at hrd
        rw [hrd] at CL
        clear hbd hws2 hws3 hrd HLG HCI
        go_wp2_with fail
        refine CL.mono ?_
        rintro e V4 ⟨rfl, L', hC', hL'⟩
        have HF : Hid (∃ L', CfI gb cN L' ∧ Lg w V4 g σN W (L' ++ ((gz, .cells cz 29) :: Q))) := ⟨L', hC', hL'⟩
        clear CL hC' hL'
        go_wp2_with fail
        go_meet
        case rel => exact ⟨rfl, HF⟩
       | none =>
        try simp only [Option.getD_none] at HCI HLN
        have hrd := HRD.out
        rw [rdn_none] at hrd
        have HRN : Hid (gwC σ = cN ∧ g8 σ = σN) := by
         injection hrd with h1 h2
         exact ⟨h1, h2⟩
        obtain ⟨hcl, hh⟩ := HCI.out
        have hLe : L = [(gb, .cells (cc cfg0 nilV).toArray 29)] := by
         rcases hh with ⟨-, e⟩ | ⟨zs, t, gt, cap, post, C0, L1, e, -⟩
         ·exact e
         ·have : cfg0.ten = [] := rfl
          rw [this] at e; simp at e
        subst hLe
        have HR : Hid (Lg w V0b g σ W ((gb, .cells (cc cfg0 nilV).toArray 29) :: ((gz, .cells cz 29) :: Q))) := HLG.out
        clear hrd HLG HCI hcl hh HRD HLN HSW
        obtain ⟨t0, ht0⟩ : ∃ t, cfg0 = t := ⟨_, rfl⟩
        have HL0 : Hid (CLen t0) := by rw [← ht0]; exact cfg0_len
        have HX0 : Hid (t0 = ⟨0, [0, 0, 0, 0, 0, 0], [0, 0, 0, 0, 0, 0], [0, 0, 0, 0, 0, 0], [0, 0, 0, 0, 0, 0, 0, 0], 0, []⟩) := ht0.symm
        rw [show (cc cfg0 nilV) = cc t0 nilV by rw [ht0]] at HR
        clear ht0
        have C1 : Calls Tryz.prog 23 #[.pointer (some ⟨g, 0, none⟩), .string ⟨#[103, 97, 116, 101, 119, 97, 121]⟩] V0b fun e V' => e = .returned (.tuple #[]) ∧ Lg w V' g (g1 σ) W ((gb, .cells (cc t0 nilV).toArray 29) :: ((gz, .cells cz 29) :: Q)) := rmust_any HR.out wGateway
        go_wp2_with fail
        refine C1.mono ?_
        rintro e V1 ⟨rfl, hR⟩
        have HR' : Hid (Lg w V1 g (g1 σ) W ((gb, .cells (cc t0 nilV).toArray 29) :: ((gz, .cells cz 29) :: Q))) := hR
        clear C1 hR HR
        have HR := HR'
        clear HR'
        obtain ⟨t1, HT1⟩ : ∃ t, Hid (t0 = t) := ⟨_, rfl⟩
        rw [HT1.out] at HR
        have HL1 : Hid (CLen t1) := by rw [← HT1.out]; exact HL0.out
        have HX1 : Hid (t1 = ⟨0, [0, 0, 0, 0, 0, 0], [0, 0, 0, 0, 0, 0], [0, 0, 0, 0, 0, 0], [0, 0, 0, 0, 0, 0, 0, 0], 0, []⟩) := by rw [← HT1.out]; exact HX0.out
        clear HL0 HX0 HT1
        obtain ⟨x2, hx2⟩ : ∃ x, nv (val ip (g1 σ)) = x := ⟨_, rfl⟩
        have HE2 : Hid (nv (val ip (g1 σ)) = x2) := hx2
        have C2 : Calls Tryz.prog 24 _ V1 fun e V' => e = .returned (.int .u32 (nv (val ip (g1 σ)))) ∧ Lg w V' g (g2 σ) W ((gb, .cells (cc t1 nilV).toArray 29) :: ((gz, .cells cz 29) :: Q)) := rlip_any HR.out
        rw [hx2] at C2
        clear HR hx2
        go_wp2_with fail
        refine C2.mono ?_
        rintro e V2 ⟨rfl, hR⟩
        obtain ⟨v0, cc2⟩ : ∃ v0, V2.cell? ⟨gb, 0, none⟩ = some v0 := Option.isSome_iff_exists.mp (hR.there (i := 0) rfl 0 1 (by rw [List.size_toArray, cc_len HL1.out]; omega) 0 (by omega)).1
        have fr2 : ∀ j, V2.frozen? ⟨gb, j, none⟩ = false := hR.freeK (i := 0) rfl
        have hR2 := hR.set (i := 0) rfl 0 (.int .u32 x2)
        rw [List.set_cons_zero, cc_ip t1 nilV x2] at hR2
        have HN : Hid (Lg w (V2.setCell ⟨gb, 0, none⟩ (.int .u32 x2)) g (g2 σ) W ((gb, .cells (cc { t1 with ip := x2 } nilV).toArray 29) :: ((gz, .cells cz 29) :: Q))) := hR2
        clear C2 hR hR2
        go_upto_region 17 with fail
        refine wp_letter (fun V => Lg w V g (g2 σ) W ((gb, Obj.cells (cc { t1 with ip := x2 } nilV).toArray 29) :: ((gz, Obj.cells cz 29) :: Q))) (by exact HN.out) ?_
        intro V2b hR
        obtain ⟨t2, ht2⟩ : ∃ t, { t1 with ip := x2 } = t := ⟨_, rfl⟩
        have HL2 : Hid (CLen t2) := by rw [← ht2]; exact ⟨HL1.out.mac, HL1.out.omac, HL1.out.nmac, HL1.out.key⟩
        have HX2 : Hid (t2 = ⟨x2, [0, 0, 0, 0, 0, 0], [0, 0, 0, 0, 0, 0], [0, 0, 0, 0, 0, 0], [0, 0, 0, 0, 0, 0, 0, 0], 0, []⟩) := by rw [← ht2, HX1.out]; exact rfl
        rw [ht2] at hR
        have HR : Hid (Lg w V2b g (g2 σ) W ((gb, .cells (cc t2 nilV).toArray 29) :: ((gz, .cells cz 29) :: Q))) := hR
        clear hR HN ht2 HL1 HX1 cc2 fr2
        have l3 : (m6 (val mac (g2 σ))).length = 6 := m6_len _
        obtain ⟨x3, hx3⟩ : ∃ x, m6 (val mac (g2 σ)) = x := ⟨_, rfl⟩
        have HE3 : Hid (m6 (val mac (g2 σ)) = x3) := hx3
        have C3 : Calls Tryz.prog 25 _ V2b fun e V' => e = .returned (.agg (ab (m6 (val mac (g2 σ))))) ∧ Lg w V' g (g3 σ) W ((gb, .cells (cc t2 nilV).toArray 29) :: ((gz, .cells cz 29) :: Q)) := rlmac_any HR.out
        rw [hx3] at C3 l3
        obtain ⟨A3, hA3⟩ : ∃ A, ab x3 = A := ⟨_, rfl⟩
        rw [hA3] at C3
        have HA3 : Hid (ab x3 = A3) := hA3
        have hAL3 : A3.toList = x3.map (Value.int .u8) := by rw [← hA3]
        have HAL3 : Hid (A3.toList = x3.map (Value.int .u8)) := hAL3
        have sz3 : A3.size = 6 := by rw [← Array.length_toList, hAL3, List.length_map, l3]
        have on3 : A3.all (·.oneCell') = true := by rw [← hA3]; exact all_oneCell_toArray (ints_oneCell _ _)
        have ii3 : (Tryz.prog.info? 25).map (·.size) = some A3.size := by rw [sz3]; kernel_rfl
        have HLx3 : Hid (x3.length = 6) := l3
        clear hA3 hAL3 HR hx3 l3
        go_wp2_with fail
        refine C3.mono ?_
        rintro e V3 ⟨rfl, hR⟩
        have th3 := hR.there (i := 0) rfl 1 A3.size (by rw [sz3, List.size_toArray, cc_len HL2.out]; omega)
        have hR2 := Lg.setCells A3.toList 1 hR (i := 0) rfl
        rw [List.set_cons_zero, HAL3.out, cc_mac t2 _ _ HL2.out HLx3.out] at hR2
        have HN : Hid (Lg w (V3.setCells gb 1 A3.toList) g (g3 σ) W ((gb, .cells (cc { t2 with mac := x3 } nilV).toArray 29) :: ((gz, .cells cz 29) :: Q))) := by rw [HAL3.out]; exact hR2
        clear C3 hR hR2
        go_upto_region 18 with (refine wpList_store_mid rfl 25 (.tmp 56) (.tmp 55) (by with_reducible rfl) gb 1 A3 (by first | rfl | simp [Act.eval]) (by first | rfl | simp [Act.eval]) th3 ii3 on3 ?_)
        refine wp_letter (fun V => Lg w V g (g3 σ) W ((gb, Obj.cells (cc { t2 with mac := x3 } nilV).toArray 29) :: ((gz, Obj.cells cz 29) :: Q))) (by exact HN.out) ?_
        intro V3b hR
        obtain ⟨t3, ht3⟩ : ∃ t, { t2 with mac := x3 } = t := ⟨_, rfl⟩
        have HL3 : Hid (CLen t3) := by rw [← ht3]; exact ⟨HLx3.out, HL2.out.omac, HL2.out.nmac, HL2.out.key⟩
        have HX3 : Hid (t3 = ⟨x2, x3, [0, 0, 0, 0, 0, 0], [0, 0, 0, 0, 0, 0], [0, 0, 0, 0, 0, 0, 0, 0], 0, []⟩) := by rw [← ht3, HX2.out]; exact rfl
        rw [ht3] at hR
        have HR : Hid (Lg w V3b g (g3 σ) W ((gb, .cells (cc t3 nilV).toArray 29) :: ((gz, .cells cz 29) :: Q))) := hR
        clear hR HN ht3 HL2 HX2 th3 HA3 sz3 on3 ii3 HAL3 HLx3
        have l4 : (m6 (val mac (g3 σ))).length = 6 := m6_len _
        obtain ⟨x4, hx4⟩ : ∃ x, m6 (val mac (g3 σ)) = x := ⟨_, rfl⟩
        have HE4 : Hid (m6 (val mac (g3 σ)) = x4) := hx4
        have C4 : Calls Tryz.prog 25 _ V3b fun e V' => e = .returned (.agg (ab (m6 (val mac (g3 σ))))) ∧ Lg w V' g (g4 σ) W ((gb, .cells (cc t3 nilV).toArray 29) :: ((gz, .cells cz 29) :: Q)) := rlmac_any HR.out
        rw [hx4] at C4 l4
        obtain ⟨A4, hA4⟩ : ∃ A, ab x4 = A := ⟨_, rfl⟩
        rw [hA4] at C4
        have HA4 : Hid (ab x4 = A4) := hA4
        have hAL4 : A4.toList = x4.map (Value.int .u8) := by rw [← hA4]
        have HAL4 : Hid (A4.toList = x4.map (Value.int .u8)) := hAL4
        have sz4 : A4.size = 6 := by rw [← Array.length_toList, hAL4, List.length_map, l4]
        have on4 : A4.all (·.oneCell') = true := by rw [← hA4]; exact all_oneCell_toArray (ints_oneCell _ _)
        have ii4 : (Tryz.prog.info? 25).map (·.size) = some A4.size := by rw [sz4]; kernel_rfl
        have HLx4 : Hid (x4.length = 6) := l4
        clear hA4 hAL4 HR hx4 l4
        go_wp2_with fail
        refine C4.mono ?_
        rintro e V4 ⟨rfl, hR⟩
        have th4 := hR.there (i := 0) rfl 7 A4.size (by rw [sz4, List.size_toArray, cc_len HL3.out]; omega)
        have hR2 := Lg.setCells A4.toList 7 hR (i := 0) rfl
        rw [List.set_cons_zero, HAL4.out, cc_omac t3 _ _ HL3.out HLx4.out] at hR2
        have HN : Hid (Lg w (V4.setCells gb 7 A4.toList) g (g4 σ) W ((gb, .cells (cc { t3 with omac := x4 } nilV).toArray 29) :: ((gz, .cells cz 29) :: Q))) := by rw [HAL4.out]; exact hR2
        clear C4 hR hR2
        go_upto_region 19 with (refine wpList_store_mid rfl 25 (.tmp 59) (.tmp 58) (by with_reducible rfl) gb 7 A4 (by first | rfl | simp [Act.eval]) (by first | rfl | simp [Act.eval]) th4 ii4 on4 ?_)
        refine wp_letter (fun V => Lg w V g (g4 σ) W ((gb, Obj.cells (cc { t3 with omac := x4 } nilV).toArray 29) :: ((gz, Obj.cells cz 29) :: Q))) (by exact HN.out) ?_
        intro V4b hR
        obtain ⟨t4, ht4⟩ : ∃ t, { t3 with omac := x4 } = t := ⟨_, rfl⟩
        have HL4 : Hid (CLen t4) := by rw [← ht4]; exact ⟨HL3.out.mac, HLx4.out, HL3.out.nmac, HL3.out.key⟩
        have HX4 : Hid (t4 = ⟨x2, x3, x4, [0, 0, 0, 0, 0, 0], [0, 0, 0, 0, 0, 0, 0, 0], 0, []⟩) := by rw [← ht4, HX3.out]; exact rfl
        rw [ht4] at hR
        have HR : Hid (Lg w V4b g (g4 σ) W ((gb, .cells (cc t4 nilV).toArray 29) :: ((gz, .cells cz 29) :: Q))) := hR
        clear hR HN ht4 HL3 HX3 th4 HA4 sz4 on4 ii4 HAL4 HLx4
        have l5 : (m6 (val mac (g4 σ))).length = 6 := m6_len _
        obtain ⟨x5, hx5⟩ : ∃ x, m6 (val mac (g4 σ)) = x := ⟨_, rfl⟩
        have HE5 : Hid (m6 (val mac (g4 σ)) = x5) := hx5
        have C5 : Calls Tryz.prog 25 _ V4b fun e V' => e = .returned (.agg (ab (m6 (val mac (g4 σ))))) ∧ Lg w V' g (g5 σ) W ((gb, .cells (cc t4 nilV).toArray 29) :: ((gz, .cells cz 29) :: Q)) := rlmac_any HR.out
        rw [hx5] at C5 l5
        obtain ⟨A5, hA5⟩ : ∃ A, ab x5 = A := ⟨_, rfl⟩
        rw [hA5] at C5
        have HA5 : Hid (ab x5 = A5) := hA5
        have hAL5 : A5.toList = x5.map (Value.int .u8) := by rw [← hA5]
        have HAL5 : Hid (A5.toList = x5.map (Value.int .u8)) := hAL5
        have sz5 : A5.size = 6 := by rw [← Array.length_toList, hAL5, List.length_map, l5]
        have on5 : A5.all (·.oneCell') = true := by rw [← hA5]; exact all_oneCell_toArray (ints_oneCell _ _)
        have ii5 : (Tryz.prog.info? 25).map (·.size) = some A5.size := by rw [sz5]; kernel_rfl
        have HLx5 : Hid (x5.length = 6) := l5
        clear hA5 hAL5 HR hx5 l5
        go_wp2_with fail
        refine C5.mono ?_
        rintro e V5 ⟨rfl, hR⟩
        have th5 := hR.there (i := 0) rfl 13 A5.size (by rw [sz5, List.size_toArray, cc_len HL4.out]; omega)
        have hR2 := Lg.setCells A5.toList 13 hR (i := 0) rfl
        rw [List.set_cons_zero, HAL5.out, cc_nmac t4 _ _ HL4.out HLx5.out] at hR2
        have HN : Hid (Lg w (V5.setCells gb 13 A5.toList) g (g5 σ) W ((gb, .cells (cc { t4 with nmac := x5 } nilV).toArray 29) :: ((gz, .cells cz 29) :: Q))) := by rw [HAL5.out]; exact hR2
        clear C5 hR hR2
        go_upto_region 20 with (refine wpList_store_mid rfl 25 (.tmp 62) (.tmp 61) (by with_reducible rfl) gb 13 A5 (by first | rfl | simp [Act.eval]) (by first | rfl | simp [Act.eval]) th5 ii5 on5 ?_)
        refine wp_letter (fun V => Lg w V g (g5 σ) W ((gb, Obj.cells (cc { t4 with nmac := x5 } nilV).toArray 29) :: ((gz, Obj.cells cz 29) :: Q))) (by exact HN.out) ?_
        intro V5b hR
        obtain ⟨t5, ht5⟩ : ∃ t, { t4 with nmac := x5 } = t := ⟨_, rfl⟩
        have HL5 : Hid (CLen t5) := by rw [← ht5]; exact ⟨HL4.out.mac, HL4.out.omac, HLx5.out, HL4.out.key⟩
        have HX5 : Hid (t5 = ⟨x2, x3, x4, x5, [0, 0, 0, 0, 0, 0, 0, 0], 0, []⟩) := by rw [← ht5, HX4.out]; exact rfl
        rw [ht5] at hR
        have HR : Hid (Lg w V5b g (g5 σ) W ((gb, .cells (cc t5 nilV).toArray 29) :: ((gz, .cells cz 29) :: Q))) := hR
        clear hR HN ht5 HL4 HX4 th5 HA5 sz5 on5 ii5 HAL5 HLx5
        have l6 : (k8 (val key (g5 σ))).length = 8 := k8_len _
        obtain ⟨x6, hx6⟩ : ∃ x, k8 (val key (g5 σ)) = x := ⟨_, rfl⟩
        have HE6 : Hid (k8 (val key (g5 σ)) = x6) := hx6
        have C6 : Calls Tryz.prog 26 _ V5b fun e V' => e = .returned (.agg (ab (k8 (val key (g5 σ))))) ∧ Lg w V' g (g6 σ) W ((gb, .cells (cc t5 nilV).toArray 29) :: ((gz, .cells cz 29) :: Q)) := rlkey_any HR.out
        rw [hx6] at C6 l6
        obtain ⟨A6, hA6⟩ : ∃ A, ab x6 = A := ⟨_, rfl⟩
        rw [hA6] at C6
        have HA6 : Hid (ab x6 = A6) := hA6
        have hAL6 : A6.toList = x6.map (Value.int .u8) := by rw [← hA6]
        have HAL6 : Hid (A6.toList = x6.map (Value.int .u8)) := hAL6
        have sz6 : A6.size = 8 := by rw [← Array.length_toList, hAL6, List.length_map, l6]
        have on6 : A6.all (·.oneCell') = true := by rw [← hA6]; exact all_oneCell_toArray (ints_oneCell _ _)
        have ii6 : (Tryz.prog.info? 26).map (·.size) = some A6.size := by rw [sz6]; kernel_rfl
        have HLx6 : Hid (x6.length = 8) := l6
        clear hA6 hAL6 HR hx6 l6
        go_wp2_with fail
        refine C6.mono ?_
        rintro e V6 ⟨rfl, hR⟩
        have th6 := hR.there (i := 0) rfl 19 A6.size (by rw [sz6, List.size_toArray, cc_len HL5.out]; omega)
        have hR2 := Lg.setCells A6.toList 19 hR (i := 0) rfl
        rw [List.set_cons_zero, HAL6.out, cc_key t5 _ _ HL5.out HLx6.out] at hR2
        have HN : Hid (Lg w (V6.setCells gb 19 A6.toList) g (g6 σ) W ((gb, .cells (cc { t5 with key := x6 } nilV).toArray 29) :: ((gz, .cells cz 29) :: Q))) := by rw [HAL6.out]; exact hR2
        clear C6 hR hR2
        go_upto_region 21 with (refine wpList_store_mid rfl 26 (.tmp 65) (.tmp 64) (by with_reducible rfl) gb 19 A6 (by first | rfl | simp [Act.eval]) (by first | rfl | simp [Act.eval]) th6 ii6 on6 ?_)
        refine wp_letter (fun V => Lg w V g (g6 σ) W ((gb, Obj.cells (cc { t5 with key := x6 } nilV).toArray 29) :: ((gz, Obj.cells cz 29) :: Q))) (by exact HN.out) ?_
        intro V6b hR
        obtain ⟨t6, ht6⟩ : ∃ t, { t5 with key := x6 } = t := ⟨_, rfl⟩
        have HL6 : Hid (CLen t6) := by rw [← ht6]; exact ⟨HL5.out.mac, HL5.out.omac, HL5.out.nmac, HLx6.out⟩
        have HX6 : Hid (t6 = ⟨x2, x3, x4, x5, x6, 0, []⟩) := by rw [← ht6, HX5.out]; exact rfl
        rw [ht6] at hR
        have HR : Hid (Lg w V6b g (g6 σ) W ((gb, .cells (cc t6 nilV).toArray 29) :: ((gz, .cells cz 29) :: Q))) := hR
        clear hR HN ht6 HL5 HX5 th6 HA6 sz6 on6 ii6 HAL6 HLx6
        have C7 : Calls Tryz.prog 23 #[.pointer (some ⟨g, 0, none⟩), .string ⟨#[100, 114, 97, 105, 110]⟩] V6b fun e V' => e = .returned (.tuple #[]) ∧ Lg w V' g (g7 σ) W ((gb, .cells (cc t6 nilV).toArray 29) :: ((gz, .cells cz 29) :: Q)) := rmust_any HR.out wDrain
        go_wp2_with fail
        refine C7.mono ?_
        rintro e V7 ⟨rfl, hR⟩
        have HR' : Hid (Lg w V7 g (g7 σ) W ((gb, .cells (cc t6 nilV).toArray 29) :: ((gz, .cells cz 29) :: Q))) := hR
        clear C7 hR HR
        have HR := HR'
        clear HR'
        obtain ⟨t7, HT7⟩ : ∃ t, Hid (t6 = t) := ⟨_, rfl⟩
        rw [HT7.out] at HR
        have HL7 : Hid (CLen t7) := by rw [← HT7.out]; exact HL6.out
        have HX7 : Hid (t7 = ⟨x2, x3, x4, x5, x6, 0, []⟩) := by rw [← HT7.out]; exact HX6.out
        clear HL6 HX6 HT7
        obtain ⟨x8, hx8⟩ : ∃ x, nv (val n32 (g7 σ)) = x := ⟨_, rfl⟩
        have HE8 : Hid (nv (val n32 (g7 σ)) = x8) := hx8
        have C8 : Calls Tryz.prog 27 _ V7 fun e V' => e = .returned (.int .u32 (nv (val n32 (g7 σ)))) ∧ Lg w V' g (g8 σ) W ((gb, .cells (cc t7 nilV).toArray 29) :: ((gz, .cells cz 29) :: Q)) := rlnum_any HR.out 4294967295 (by omega)
        rw [hx8] at C8
        clear HR hx8
        go_wp2_with fail
        refine C8.mono ?_
        rintro e V8 ⟨rfl, hR⟩
        obtain ⟨v0, cc8⟩ : ∃ v0, V8.cell? ⟨gb, 27, none⟩ = some v0 := Option.isSome_iff_exists.mp (hR.there (i := 0) rfl 27 1 (by rw [List.size_toArray, cc_len HL7.out]; omega) 0 (by omega)).1
        have fr8 : ∀ j, V8.frozen? ⟨gb, j, none⟩ = false := hR.freeK (i := 0) rfl
        have hR2 := hR.set (i := 0) rfl 27 (.int .u32 x8)
        rw [List.set_cons_zero, cc_drain t7 nilV x8 HL7.out] at hR2
        have HN : Hid (Lg w (V8.setCell ⟨gb, 27, none⟩ (.int .u32 x8)) g (g8 σ) W ((gb, .cells (cc { t7 with drain := x8 } nilV).toArray 29) :: ((gz, .cells cz 29) :: Q))) := hR2
        clear C8 hR hR2
        go_wp2_with fail
        go_meet
        case rel =>
         obtain ⟨t8, ht8⟩ : ∃ t, { t7 with drain := x8 } = t := ⟨_, rfl⟩
         have HL8 : Hid (CLen t8) := by rw [← ht8]; exact ⟨HL7.out.mac, HL7.out.omac, HL7.out.nmac, HL7.out.key⟩
         have hN := HN.out
         rw [ht8] at hN
         have hx8 : t8 = ⟨x2, x3, x4, x5, x6, x8, []⟩ := by rw [← ht8, HX7.out]
         have e : cN = t8 := by
          rw [hx8, ← HRN.out.1]
          unfold gwC
          rw [HE2.out, HE3.out, HE4.out, HE5.out, HE6.out, HE8.out]
         have hten : t8.ten = [] := by rw [hx8]
         refine ⟨rfl, _, ⟨by rw [e]; exact HL8.out, Or.inl ⟨by rw [e]; exact hten, rfl⟩⟩, ?_⟩
         rw [e, ← HRN.out.2]
         exact hN
      case rest => as_aux_lemma =>
       obtain ⟨rfl, HY⟩ := hcut
       clear HLG HCI
       obtain ⟨L2, hC2, hL2⟩ := HY.out
       obtain ⟨wa, wn, wc2, wi, wat, d0, d1, d3, d4, hwn, -⟩ := hL2.head
       have HY2 : Hid (CfI gb cN L2 ∧ Lg w wc g σN W (L2 ++ ((gz, .cells cz 29) :: Q))) := ⟨hC2, hL2⟩
       have HWN : Hid (wi + σN.ws.length = wn) := hwn
       clear hC2 hL2 HY d3 d4 hwn
       go_upto_region 24 with fail
       go_quiet (fail)
       go_upto_if 82 with fail
       refine wp_letter (fun X => Lg w X g σN W (L2 ++ ((gz, .cells cz 29) :: Q)) ∧ X.cell? ⟨g, 0, none⟩ = some (.slice wa wn wc2) ∧ X.cell? ⟨g, 1, none⟩ = some (.int .i64 wi)) (by first | exact ⟨HY2.out.2.drewN _, d0, d1⟩ | exact ⟨HY2.out.2, d0, d1⟩) ?_
       rintro V3 ⟨hL3, d0', d1'⟩
       have HL3 : Hid (Lg w V3 g σN W (L2 ++ ((gz, .cells cz 29) :: Q)) ∧ CfI gb cN L2) := ⟨hL3, HY2.out.1⟩
       clear HY2 d0 d1 hL3
       go_cut [] from 14 to 104 (fun Vx => Hid (∃ L', CfI gb cN L' ∧ Lg w Vx g (done σN) W (L' ++ ((gz, .cells cz 29) :: Q))))
       case first =>
        cases hwsN : σN.ws with
        | nil =>
         have hdn : done σN = σN := by unfold done; rw [hwsN]
         have hlt : ¬ ((wi : Int) < wn) := by have := HWN.out; rw [hwsN] at this; simp at this; omega
         have hltd : decide ((wi : Int) < wn) = false := by simpa using hlt
         have HF : Hid (∃ L', CfI gb cN L' ∧ Lg w V3 g (done σN) W (L' ++ ((gz, .cells cz 29) :: Q))) := ⟨L2, HL3.out.2, by rw [hdn]; exact HL3.out.1⟩
         clear hwsN hdn HL3 HWN
         go_wp2_with fail
         go_meet
         case rel => exact HF
        | cons x r =>
         have hdn : done σN = σN.fail x.2 := by unfold done; rw [hwsN]
         have hlt : (wi : Int) < wn := by have := HWN.out; rw [hwsN] at this; simp at this; omega
         have hltd : decide ((wi : Int) < wn) = true := by simpa using hlt
         have hL3 := HL3.out.1
         obtain ⟨q1, v, all, i2, at2, q2, q3, q4, q5, q6, hM3⟩ := hL3
         have e1 : V3.cell? ⟨g, 1, none⟩ = some (.int .i64 i2) := hM3.cell 0 rfl 1
         have e0 : V3.cell? ⟨g, 0, none⟩ = some v := hM3.cell 0 rfl 0
         obtain rfl : v = .slice wa wn wc2 := by rw [e0] at d0'; exact Option.some.inj d0'
         have hii : i2 = wi := by rw [e1] at d1'; simp at d1'; omega
         subst hii
         have hxi : all[i2]? = some x := by
          have := congrArg List.head? q5
          rw [hwsN, List.head?_drop] at this
          exact this.symm
         obtain ⟨wb, woff, wcap, hvv, hc1, hcl⟩ := q2.at hxi
         obtain ⟨hwa, hwn2, hwcc⟩ : wa = some ⟨wb, woff, none⟩ ∧ wn = all.length ∧ wc2 = wcap := by
          simp only [Value.slice.injEq] at hvv; exact hvv
         have hwg : wb ≠ g := by
          obtain ⟨a', c', e', -, -, h4⟩ := q2
          rcases h4 with h4 | ⟨b', off', A', T', rfl, hm', -⟩
          ·rw [h4] at hxi; simp at hxi
          ·simp only [Value.slice.injEq, Option.some.injEq, Addr.mk.injEq] at e'
           have hbb : b' = wb := by rw [hwa] at e'; simp at e'; exact e'.1.1.symm
           rw [← hbb]
           exact fun e => hM3.ne_head (b', Obj.cells A' T' (0, 0)) (List.mem_append_right _ hm') e
         have r2 : V3.cell? ⟨wb, woff + i2 * 2 + 1, none⟩ = some (.int .i64 x.2) := (hcl _ _ hM3.sub.dropA).2
         subst hwa
         subst hwcc
         have r0 : V3.drew.cell? ⟨g, 0, none⟩ = some (.slice (some ⟨wb, woff, none⟩) wn wc2) := d0'
         have r1 : V3.drew.cell? ⟨g, 1, none⟩ = some (.int .i64 i2) := d1'
         have r2' : V3.drew.cell? ⟨wb, woff + i2 * 2 + 1, none⟩ = some (.int .i64 x.2) := r2
         have hi0 : (0 : Int) ≤ i2 := by omega
         have hw2 : IntKind.i64.wrap (i2 : Int) = (i2 : Int) := wrap64 (by omega) (by omega)
         have CF := rfail_keeps (HL3.out.1.after ((Below.refl _ _).drew)) x.2
         have HDN : Hid (done σN = σN.fail x.2) := hdn
         clear hM3 q1 q2 q3 q4 q5 q6 e0 e1 hxi hvv hc1 hcl hwn2 hwsN hdn r2 HWN
         have r2 := r2'
         clear r2'
         go_upto_region 25 with fail
         refine wp_region_held_drew (S := fun X => X.cell? ⟨g, 0, none⟩ = some (.slice (some ⟨wb, woff, none⟩) wn wc2) ∧ X.cell? ⟨g, 1, none⟩ = some (.int .i64 i2) ∧ X.cell? ⟨wb, woff + i2 * 2 + 1, none⟩ = some (.int .i64 x.2)) (by kernel_rfl) ⟨r0, r1, r2⟩ (fun hHeld => ?_)
         refine wpAnyH_take (i := 0) (v := ?_) rfl (by kernel_rfl) (by kernel_rfl) (by kernel_rfl) (fun _ _ _ h => h) (Or.inl ⟨by rfl, ?rgy0⟩) (by assumption) ?rgr0
         case rgy0 => intro w hSw; (try dsimp only at hSw); go_simp; all_goals with_reducible rfl
         try simp only [getElem_toArray, getElem_cons_zero, getElem_cons_succ, Act.put, setIfInBounds_toArray, set_cons_zero, set_cons_succ]
         refine wpAnyH_take (i := 1) (v := ?_) rfl (by kernel_rfl) (by kernel_rfl) (by kernel_rfl) (fun _ _ _ h => h) (Or.inl ⟨by rfl, ?rgy1⟩) (by assumption) ?rgr1
         case rgy1 => intro w hSw; (try dsimp only at hSw); go_simp; all_goals with_reducible rfl
         try simp only [getElem_toArray, getElem_cons_zero, getElem_cons_succ, Act.put, setIfInBounds_toArray, set_cons_zero, set_cons_succ]
         refine wpAnyH_take (i := 2) (v := ?_) rfl (by kernel_rfl) (by kernel_rfl) (by kernel_rfl) (fun _ _ _ h => h) (Or.inl ⟨by rfl, ?rgy2⟩) (by assumption) ?rgr2
         case rgy2 => intro w hSw; (try dsimp only at hSw); go_simp; all_goals with_reducible rfl
         try simp only [getElem_toArray, getElem_cons_zero, getElem_cons_succ, Act.put, setIfInBounds_toArray, set_cons_zero, set_cons_succ]
         refine wpAnyH_take (i := 3) (v := ?_) rfl (by kernel_rfl) (by kernel_rfl) (by kernel_rfl) (fun _ _ _ h => h) (Or.inl ⟨by rfl, ?rgy3⟩) (by assumption) ?rgr3
         case rgy3 => intro w hSw; (try dsimp only at hSw); go_simp; all_goals with_reducible rfl
         try simp only [getElem_toArray, getElem_cons_zero, getElem_cons_succ, Act.put, setIfInBounds_toArray, set_cons_zero, set_cons_succ]
         refine wpAnyH_take (i := 4) (v := ?_) rfl (by kernel_rfl) (by kernel_rfl) (by kernel_rfl) (fun _ _ _ h => h) (Or.inl ⟨by rfl, ?rgy4⟩) (by assumption) ?rgr4
         case rgy4 => intro w hSw; (try dsimp only at hSw); go_simp; all_goals with_reducible rfl
         try simp only [getElem_toArray, getElem_cons_zero, getElem_cons_succ, Act.put, setIfInBounds_toArray, set_cons_zero, set_cons_succ]
         refine wpAnyH_take (i := 5) (v := ?_) rfl (by kernel_rfl) (by kernel_rfl) (by kernel_rfl) (fun _ _ _ h => h) (Or.inl ⟨by rfl, ?rgy5⟩) (by assumption) ?rgr5
         case rgy5 => intro w hSw; (try dsimp only at hSw); go_simp; all_goals with_reducible rfl
         try simp only [getElem_toArray, getElem_cons_zero, getElem_cons_succ, Act.put, setIfInBounds_toArray, set_cons_zero, set_cons_succ]
         refine wpAnyH_take (i := 6) (v := ?_) rfl (by kernel_rfl) (by kernel_rfl) (by kernel_rfl) (fun _ _ _ h => h) (Or.inl ⟨by rfl, ?rgy6⟩) (by assumption) ?rgr6
         case rgy6 => intro w hSw; (try dsimp only at hSw); go_simp; all_goals with_reducible rfl
         try simp only [getElem_toArray, getElem_cons_zero, getElem_cons_succ, Act.put, setIfInBounds_toArray, set_cons_zero, set_cons_succ]
         refine wpAnyH_take (i := 7) (v := ?_) rfl (by kernel_rfl) (by kernel_rfl) (by kernel_rfl) (fun _ _ _ h => h) (Or.inl ⟨by rfl, ?rgy7⟩) (by assumption) ?rgr7
         case rgy7 => intro w hSw; (try dsimp only at hSw); go_simp; all_goals with_reducible rfl
         try simp only [getElem_toArray, getElem_cons_zero, getElem_cons_succ, Act.put, setIfInBounds_toArray, set_cons_zero, set_cons_succ]
         refine wpAnyH_take (i := 8) (v := ?_) rfl (by kernel_rfl) (by kernel_rfl) (by kernel_rfl) (fun _ _ _ h => h) (Or.inl ⟨by rfl, ?rgy8⟩) (by assumption) ?rgr8
         case rgy8 => intro w hSw; (try dsimp only at hSw); go_simp; all_goals with_reducible rfl
         try simp only [getElem_toArray, getElem_cons_zero, getElem_cons_succ, Act.put, setIfInBounds_toArray, set_cons_zero, set_cons_succ]
         refine wpAnyH_take (i := 9) (v := ?_) rfl (by kernel_rfl) (by kernel_rfl) (by kernel_rfl) (fun _ _ _ h => h) (Or.inl ⟨by rfl, ?rgy9⟩) (by assumption) ?rgr9
         case rgy9 => intro w hSw; (try dsimp only at hSw); go_simp; all_goals with_reducible rfl
         try simp only [getElem_toArray, getElem_cons_zero, getElem_cons_succ, Act.put, setIfInBounds_toArray, set_cons_zero, set_cons_succ]
         refine wpAnyH_take (i := 10) (v := ?_) rfl (by kernel_rfl) (by kernel_rfl) (by kernel_rfl) (fun _ _ _ h => h) (Or.inl ⟨by rfl, ?rgy10⟩) (by assumption) ?rgr10
         case rgy10 => intro w hSw; (try dsimp only at hSw); go_simp; all_goals with_reducible rfl
         try simp only [getElem_toArray, getElem_cons_zero, getElem_cons_succ, Act.put, setIfInBounds_toArray, set_cons_zero, set_cons_succ]
         refine wpAnyH_take (i := 11) (v := ?_) rfl (by kernel_rfl) (by kernel_rfl) (by kernel_rfl) (fun _ _ _ h => h) (Or.inl ⟨by rfl, ?rgy11⟩) (by assumption) ?rgr11
         case rgy11 => intro w hSw; (try dsimp only at hSw); go_simp; all_goals with_reducible rfl
         try simp only [getElem_toArray, getElem_cons_zero, getElem_cons_succ, Act.put, setIfInBounds_toArray, set_cons_zero, set_cons_succ]
         refine wpAnyH_ready (rs := [12]) (by kernel_rfl) (by simp) ?_
         refine AllReadyH.cons rfl (fun KK hK => ?_) AllReadyH.nil
         go_simp
         with_reducible refine CF.mono ?_
         rintro e V5 ⟨rfl, hLf, hkeep⟩
         try go_wp2_with fail
         refine hK.out _ _ ⟨(hkeep _ (Or.inr (show (0 : Nat) < 2 by omega))).trans r0, (hkeep _ (Or.inr (show (1 : Nat) < 2 by omega))).trans r1, (hkeep _ (Or.inl hwg)).trans r2⟩ (fun hHeld => ?_)
         clear hK KK CF
         refine wpAnyH_done (by kernel_rfl) ?_ _
         have HF : Hid (∃ L', CfI gb cN L' ∧ Lg w V5 g (done σN) W (L' ++ ((gz, .cells cz 29) :: Q))) := ⟨L2, HL3.out.2, by rw [HDN.out]; exact hLf⟩
         clear hLf hkeep HL3
         go_wp2_with fail
         go_meet
         case rel => exact HF
       case rest =>
        clear HL3 d0' d1' HWN
        obtain ⟨L3, hC3, hL3⟩ := hcut.out
        clear hcut
        obtain ⟨wa2, wn2, wc3, wi2, at_, d0, d1, d3, d4, -, hat⟩ := hL3.head
        cases hbz : (done σN).bad with
        | none =>
         rw [hbz] at d4
         simp only [Option.isSome_none] at d4
         have HN : Hid (PS s (some cN) (i + 1) (i + 1) R ∧ ∃ Q, MP w wc gz gb ((some cN).getD cfg0) Q) := by
          obtain ⟨q1, q2, q3, q4, q5⟩ := HLN.out
          refine ⟨ps_good q4 q3 q1 q2 (by rw [q5]; exact HRD.out) hbz, ?_⟩
          obtain ⟨ob, hMo, -⟩ := hL3.frame
          exact ⟨(g, ob) :: (Q ++ W), L3, hC3, hMo.perm (by classical rw [List.perm_iff_count]; intro z; simp only [List.count_append, List.count_cons]; omega)⟩
         clear hL3 hC3 hbz hat HLN HRD d0 d1 d3
         go_wp2_with fail
         go_roundw
         case rel => exact ⟨i + 1, i + 1, some cN, rfl, by go_num, by go_num, by omega, HN⟩
         case measure => simp [intOf]; omega
        | some a0 =>
         rw [hbz] at d4
         simp only [Option.isSome_some] at d4
         have hata : at_ = a0 := hat a0 hbz
         subst hata
         have HRE : Hid (R = .error at_) := by
          obtain ⟨q1, q2, q3, q4, q5⟩ := HLN.out
          exact ps_bad q1 (by rw [q5]; exact HRD.out) hbz
         have hMM : Mem w wc ((gz, .cells cz 29) :: (L3 ++ (Q ++ W))) := by
          exact hL3.mem.perm (by classical rw [List.perm_iff_count]; intro z; simp only [List.count_append, List.count_cons]; omega)
         obtain ⟨zA, hzA⟩ : ∃ A : Array Value, cz = A := ⟨_, rfl⟩
         have bZ : ∀ V, (Instr.build 29 #[]).run Tryz.prog V = .ok (.agg zA) V := by rw [← hzA]; exact build_C
         have oneZ : zA.all (·.oneCell') = true := by rw [← hzA]; kernel_rfl
         have szZ : zA.size = 29 := by rw [← hzA]; decide
         have HZA : Hid (cz = zA) := hzA
         rw [hzA] at hMM
         have kz : wc.drew.heap[gz]? = some (.cells zA 29) := hMM.drew.get 0 rfl
         have hM4 := hMM.drew.wrote 0 rfl (wrote_setRow wc.drew gz zA zA _ kz)
         have hst := storeCells_row wc.drew gz zA zA _ kz rfl oneZ
         have s1 : wc.drew.cell? ⟨g, 3, none⟩ = some (.int .i64 at_) := d3
         have hgg : g ≠ gz := by
          obtain ⟨ob, hMo, -⟩ := hL3.frame
          exact fun e => hMo.ne_head (gz, .cells cz 29) (by simp) e.symm
         have s2 : (wc.drew.setRow gz zA).cell? ⟨g, 3, none⟩ = some (.int .i64 at_) := by
          obtain ⟨ob, hMo, -⟩ := hL3.frame
          have h5 : Mem w wc.drew ((g, ob) :: (gz, .cells cz 29) :: (L3 ++ (Q ++ W))) := hMo.drew.perm (by classical rw [List.perm_iff_count]; intro z; simp only [List.count_append, List.count_cons]; omega)
          rw [hzA] at h5
          have h6 := h5.wrote 1 rfl (wrote_setRow wc.drew gz zA zA _ kz)
          have k6 := h6.get 0 rfl
          have k5 := h5.get 0 rfl
          rw [← s1]
          show World.cell? _ _ = World.cell? _ _
          unfold World.cell?
          rw [k6, k5]
         have HM4 : Hid (Mem w (wc.drew.setRow gz zA) ((gz, .cells zA 29) :: (L3 ++ (Q ++ W)))) := hM4
         clear bC hzA hMM hM4 hL3 hC3 hbz hat HLN HRD d0 d1 hgg
         go_upto_region 27 with fail
         refine wp_region_held_drew (S := fun X => X.cell? ⟨g, 3, none⟩ = some (.int .i64 at_)) (by kernel_rfl) s1 (fun hHeld => ?_)
         refine wpAnyH_take (i := 0) (v := .agg zA) rfl (by kernel_rfl) (by kernel_rfl) (by kernel_rfl) (fun _ _ _ h => h) (Or.inl ⟨by rfl, ?rqy0⟩) (by assumption) ?rqr0
         case rqy0 =>
          intro w hSw
          rw [← HZA.out]
          (try dsimp only at hSw)
          go_simp
          all_goals (first | with_reducible rfl | rfl)
         try simp only [getElem_toArray, getElem_cons_zero, getElem_cons_succ, Act.put, setIfInBounds_toArray, set_cons_zero, set_cons_succ]
         refine wpAnyH_take (i := 1) (v := ?_) rfl (by kernel_rfl) (by kernel_rfl) (by kernel_rfl) (fun _ _ _ h => h) (Or.inl ⟨by rfl, ?rqy1⟩) (by assumption) ?rqr1
         case rqy1 => intro w hSw; (try dsimp only at hSw); go_simp; all_goals with_reducible rfl
         try simp only [getElem_toArray, getElem_cons_zero, getElem_cons_succ, Act.put, setIfInBounds_toArray, set_cons_zero, set_cons_succ]
         refine wpAnyH_take (i := 2) (v := ?_) rfl (by kernel_rfl) (by kernel_rfl) (by kernel_rfl) (fun _ _ _ h => h) (Or.inl ⟨by rfl, ?rqy2⟩) (by assumption) ?rqr2
         case rqy2 => intro w hSw; (try dsimp only at hSw); go_simp; all_goals with_reducible rfl
         try simp only [getElem_toArray, getElem_cons_zero, getElem_cons_succ, Act.put, setIfInBounds_toArray, set_cons_zero, set_cons_succ]
         refine wpAnyH_take (i := 3) (v := ?_) rfl (by kernel_rfl) (by kernel_rfl) (by kernel_rfl) (fun _ _ _ h => h) (Or.inl ⟨by rfl, ?rqy3⟩) (by assumption) ?rqr3
         case rqy3 => intro w hSw; (try dsimp only at hSw); go_simp; all_goals with_reducible rfl
         try simp only [getElem_toArray, getElem_cons_zero, getElem_cons_succ, Act.put, setIfInBounds_toArray, set_cons_zero, set_cons_succ]
         refine wpAnyH_take (i := 4) (v := ?_) rfl (by kernel_rfl) (by kernel_rfl) (by kernel_rfl) (fun _ _ _ h => h) (Or.inl ⟨by rfl, ?rqy4⟩) (by assumption) ?rqr4
         case rqy4 => intro w hSw; (try dsimp only at hSw); go_simp; all_goals with_reducible rfl
         try simp only [getElem_toArray, getElem_cons_zero, getElem_cons_succ, Act.put, setIfInBounds_toArray, set_cons_zero, set_cons_succ]
         refine wpAnyH_ready (rs := [5]) (by kernel_rfl) (by simp) ?_
         refine AllReadyH.cons rfl (fun KK hK => ?_) AllReadyH.nil
         go_simp
         refine hK.out _ _ s2 (fun hHeld => ?_)
         clear hK KK
         try simp only [getElem_toArray, getElem_cons_zero, getElem_cons_succ, Act.put, setIfInBounds_toArray, set_cons_zero, set_cons_succ]
         refine wpAnyH_take (i := 6) (v := ?_) rfl (by kernel_rfl) (by kernel_rfl) (by kernel_rfl) (fun _ _ _ h => h) (Or.inl ⟨by rfl, ?rqy6⟩) (by assumption) ?rqr6
         case rqy6 => intro w hSw; (try dsimp only at hSw); go_simp; all_goals with_reducible rfl
         try simp only [getElem_toArray, getElem_cons_zero, getElem_cons_succ, Act.put, setIfInBounds_toArray, set_cons_zero, set_cons_succ]
         refine wpAnyH_take (i := 7) (v := ?_) rfl (by kernel_rfl) (by kernel_rfl) (by kernel_rfl) (fun _ _ _ h => h) (Or.inl ⟨by rfl, ?rqy7⟩) (by assumption) ?rqr7
         case rqy7 => intro w hSw; (try dsimp only at hSw); go_simp; all_goals with_reducible rfl
         try simp only [getElem_toArray, getElem_cons_zero, getElem_cons_succ, Act.put, setIfInBounds_toArray, set_cons_zero, set_cons_succ]
         refine wpAnyH_done (by kernel_rfl) ?_ _
         go_wp2_with fail
         rw [HRE.out]
         refine bodyPost_ret (v := .tuple #[.agg zA, .int .i64 at_, .int .i64 60]) ?_ rfl ⟨HM4.out.below, by rw [HZA.out]⟩
         exact results_three (p := 2) (q := 3) (r := 4) (ty := 29) rfl _ _ gz zA rfl (run_loadVar_row _ _ 29 29 _ (0, 0) _ (HM4.out.get 0 rfl) Tryz.underlying29 rfl (by rw [← HZA.out]; kernel_rfl))
  ·obtain rfl : i = s.size + 1 := by omega
   have hle : ¬ (((s.size + 1 : Nat) : Int) ≤ s.size) := by omega
   have HRE : Hid (nd s.size o = R) := HX.out.1.end_
   obtain ⟨-, Q, L, hC, hM⟩ := HX.out
   clear HX
   cases o with
   | none =>
    have HR2 : Hid (R = .error s.size) := HRE.out.symm
    have hMM : Mem w wr ((gz, .cells cz 29) :: (L ++ Q)) := hM.perm (by classical rw [List.perm_iff_count]; intro z; simp only [List.count_append, List.count_cons]; omega)
    have k0 : wr.heap[gz]? = some (.cells cz 29) := hMM.get 0 rfl
    have HM4 : Hid (Mem w (wr.setRow gz cz) ((gz, .cells cz 29) :: (L ++ Q))) := hMM.wrote 0 rfl (wrote_setRow wr gz cz cz _ k0)
    simp only [Option.isSome_none]
    clear hM hMM hC HRE
    go_wp2_with (refine wpList_store_row rfl 29 (.tmp 2) (.tmp 107) (by with_reducible rfl) gz cz (by simp [Act.eval]) (by simp [Act.eval]; rfl) 29 cz k0 (by kernel_rfl) rfl (by kernel_rfl) ?_)
    rw [HR2.out]
    refine bodyPost_ret (v := .tuple #[.agg cz, .int .i64 s.size, .int .i64 60]) ?_ rfl ⟨HM4.out.below, rfl⟩
    exact results_three (p := 2) (q := 3) (r := 4) (ty := 29) rfl _ _ gz cz rfl (run_loadVar_row _ _ 29 29 _ (0, 0) _ (HM4.out.get 0 rfl) Tryz.underlying29 rfl (by kernel_rfl))
   | some cc0 =>
    have HR2 : Hid (R = .ok cc0) := HRE.out.symm
    simp only [Option.getD_some] at hC
    simp only [Option.isSome_some]
    obtain ⟨u, zs', B, C1, ez, hB, hz', hperm⟩ := cfi_tsb hC
    obtain ⟨A2, hA2⟩ : ∃ A2, (cc cc0 u).toArray = A2 := ⟨_, rfl⟩
    have hM5 : Mem w wr ((gb, .cells (cc cc0 u).toArray 29) :: (gz, .cells cz 29) :: (Q ++ (B ++ C1))) := hM.perm ((hperm.append_right _).trans (by classical rw [List.perm_iff_count]; intro z; simp only [List.count_append, List.count_cons]; omega))
    rw [hA2] at hM5
    have hsz : A2.size = 29 := by rw [← hA2, List.size_toArray]; exact cc_len hC.1 _
    have hone : A2.all (·.oneCell') = true := by rw [← hA2]; exact cc_one _ (owb_one hB)
    have i29 : (Tryz.prog.info? 29).map (·.size) = some A2.size := by rw [hsz]; kernel_rfl
    have k1 : wr.heap[gb]? = some (.cells A2 29) := hM5.get 0 rfl
    have k0 : wr.heap[gz]? = some (.cells cz 29) := hM5.get 1 rfl
    have hM6 := hM5.wrote 1 rfl (wrote_setRow wr gz _ A2 _ k0)
    have HQ : Hid (Below w.heap.size w (wr.setRow gz A2) ∧ CVs w.heap.size (wr.setRow gz A2) (.agg A2) cc0 ∧ (wr.setRow gz A2).heap[gz]? = some (.cells A2 29)) := by
     refine ⟨hM6.below, ?_, hM6.get 1 rfl⟩
     rw [← hA2]
     exact cvs_tsb hC.1 ⟨zs', ez, hB, hz'⟩ (by rw [hA2]; exact hM6.sub.sub.dropA)
    clear hC hM hB hz' hperm hM5 hM6 ez hA2 HRE
    go_wp2_with (first | (refine wpList_load_row rfl 29 (.tmp 5) (by with_reducible rfl) gb (by first | rfl | simp [Act.eval]) 29 A2 (0, 0) _ k1 Tryz.underlying29 rfl i29 ?_) | (refine wpList_store_row rfl 29 (.tmp 2) (.tmp 110) (by with_reducible rfl) gz A2 (by first | rfl | simp [Act.eval]) (by first | rfl | simp [Act.eval]) 29 cz k0 i29 (by rw [hsz]; rfl) hone ?_))
    rw [HR2.out]
    refine bodyPost_ret (v := .tuple #[.agg A2, .int .i64 0, .int .i64 0]) ?_ rfl ⟨HQ.out.1, _, rfl, HQ.out.2.1⟩
    exact results_three (p := 2) (q := 3) (r := 4) (ty := 29) rfl _ _ gz A2 rfl (run_loadVar_row _ _ 29 29 _ (0, 0) _ HQ.out.2.2 Tryz.underlying29 rfl i29)
theorem rparse_any {w : World} (hV : Vs w) (s : ByteArray) : Calls Tryz.prog 12 #[.string s] w (DpP w (parse s)) := by
 by_cases h : 32768 < s.size
 ·exact rparse_long s h
 ·exact rparse_short hV s (by omega)
end Go.Proofs.YtneciccdiledfaaGreatDoor
namespace Go.Proofs.YtneciccdiledfaaGreatDoor
open Go.RowKit
open La
open Ad
open Sm (IsBytes)
theorem r32_le {x : Int} (h : R32 x) : 0 ≤ x ∧ x ≤ 4294967295 := ⟨h.1, by have := h.2; omega⟩
theorem seat_tw {i : Nat} {t : Ten} (h : SeatT i t) (hi : i < 4) : TW t ∧ TFew t := by
 have f := h.fit hi
 obtain ⟨p2, st, tw, lo, hi2, fi, se, qu, ra, bu, rfl, r⟩ := h
 have lp : (mkS i p2 st tw lo hi2 fi se qu ra bu).pool.length ≤ 2 := by cases p2 <;> simp [mkS]
 have ls : (mkS i p2 st tw lo hi2 fi se qu ra bu).stat.length ≤ 2 := by cases st <;> simp [mkS]
 have lt : (mkS i p2 st tw lo hi2 fi se qu ra bu).twi.length ≤ 2 := by cases tw <;> simp [mkS]
 refine ⟨⟨⟨f.len, f.key, f.vmac, f.host, ?_, by omega, by omega, by omega⟩, ⟨⟨f.vni.1, by have := f.vni.2; omega⟩, r32_le f.vtep, f.lo, f.hi, ⟨by have := f.filter.1; omega, by have := f.filter.2; omega⟩, ⟨by have := f.sess.1; omega, by have := f.sess.2; omega⟩, ⟨by have := f.queue.1; omega, by have := f.queue.2; omega⟩, r32_le f.rate, r32_le f.burst, fun x hx => r32_le (f.pool x hx), fun x hx => ⟨r32_le (f.stat x hx).1, r32_le (f.stat x hx).2⟩, fun x hx => ⟨r32_le (f.twi x hx).1, r32_le (f.twi x hx).2⟩⟩, ⟨f.sess.1, f.queue.1⟩, by omega⟩, by omega, by omega, by omega⟩
 show (1 : Nat) ≤ 1000000
 omega
theorem seat_all {n : Nat} {c : Cgf} (h : SeatC n c) : CIn c ∧ CRg c ∧ (∀ t ∈ c.ten, TW t) ∧ (∀ t ∈ c.ten, TFew t) ∧ c.ten.length ≤ 4 ∧ (txt c).length ≤ 1600 ∧ CFit c := by
 have f := h.fit
 have hl := h.len
 obtain ⟨d, ts, h0, h1, rfl, hl2, hn, ht⟩ := h
 have key : ∀ t ∈ ts, TW t ∧ TFew t := by
  intro t hm
  obtain ⟨i, hi, e⟩ := List.getElem_of_mem hm
  exact seat_tw (ht i t (by rw [List.getElem?_eq_getElem hi, ← e])) (by omega)
 exact ⟨⟨f.len, f.mac, f.omac, f.nmac, f.key⟩, ⟨r32_le f.ip, r32_le f.drain⟩, fun t hm => (key t hm).1, fun t hm => (key t hm).2, by show ts.length ≤ 4; omega, by omega, f⟩
theorem csame_refl (c : Cgf) : CSame c c := ⟨rfl, rfl, rfl, rfl, rfl, rfl, rfl, fun i _ => ⟨rfl, rfl, rfl, rfl, rfl, rfl, rfl, rfl, rfl, rfl, rfl, rfl, rfl, rfl, rfl, rfl⟩⟩
abbrev badT : ByteArray := ⟨#[103, 97, 116, 101, 119, 97, 121, 32, 49, 48, 46, 48, 46, 48, 46, 49, 32, 120]⟩
theorem parse_badT : parse badT = .error 17 := by
 have h1 : lns badT = [([(⟨#[103, 97, 116, 101, 119, 97, 121]⟩, 0), (⟨#[49, 48, 46, 48, 46, 48, 46, 49]⟩, 8), (⟨#[120]⟩, 17)], 18)] := by decide
 unfold parse
 rw [if_neg (by decide), h1]
 refine rdl_bad ?_
 decide
theorem cv_from {n : Nat} {V : World} {v : Value} {c : Cgf} {w : World} (h : CVs n V v c) (hn : w.heap.size = n) (hb : Below w.heap.size w V) : CV V v c := h w V (by omega) hb (fun b _ _ => rfl)
end Go.Proofs.YtneciccdiledfaaGreatDoor
