/-
  Settings as text: the document's own reader of a line behind the first: pool.
  Settings as text: the document's own reader of a line behind the first: filter.
  Settings as text: the document's own reader of a line behind the first: twice.
  Settings as text: the document's own reader of a line behind the first: ports, quota, rate.
  Settings as text: the document's own reader of a line behind the first: rate.
-/
import Derived.Test.YtneciccdiledfaaGreatDoorMx46
set_option linter.unusedVariables false
set_option linter.unusedSimpArgs false
set_option maxRecDepth 20000
namespace Go.Proofs.YtneciccdiledfaaGreatDoor
open Go.RowKit
open List (getElem_toArray getElem_cons_zero getElem_cons_succ setIfInBounds_toArray set_cons_zero set_cons_succ)
open La
open Ad
def rgN (g : Nat) (w : World) : Nat := match w.cell? ⟨g, 0, none⟩, w.cell? ⟨g, 1, none⟩ with
 | some (.slice _ n _), some (.int _ i) => n - i.toNat
 | _, _ => 0
theorem rgN_of {w V : World} {g : Nat} {σ : Sg} {W K : List (Nat × Obj)} (h : Lg w V g σ W K) : rgN g V = σ.ws.length := by
 obtain ⟨h1, v, all, i, at_, h2, h3, h4, h5, h6, hM⟩ := h
 obtain ⟨a, c, rfl, -⟩ := h2
 have d0 : V.cell? ⟨g, 0, none⟩ = some (.slice a all.length c) := hM.cell 0 rfl 0
 have d1 : V.cell? ⟨g, 1, none⟩ = some (.int .i64 i) := hM.cell 0 rfl 1
 unfold rgN
 rw [d0, d1, h5, List.length_drop]
 simp
theorem Lg.head {w V : World} {g : Nat} {σ : Sg} {W K : List (Nat × Obj)} (h : Lg w V g σ W K) : ∃ (a : Option Addr) (n c i at_ : Nat), V.cell? ⟨g, 0, none⟩ = some (.slice a n c) ∧ V.cell? ⟨g, 1, none⟩ = some (.int .i64 i) ∧ V.cell? ⟨g, 3, none⟩ = some (.int .i64 at_) ∧ V.cell? ⟨g, 4, none⟩ = some (.bool σ.bad.isSome) ∧ i + σ.ws.length = n ∧ (∀ a, σ.bad = some a → at_ = a) := by
 obtain ⟨h1, v, all, i, at_, h2, h3, h4, h5, h6, hM⟩ := h
 obtain ⟨a, c, rfl, -⟩ := h2
 exact ⟨a, all.length, c, i, at_, hM.cell 0 rfl 0, hM.cell 0 rfl 1, hM.cell 0 rfl 3, hM.cell 0 rfl 4, by rw [h5, List.length_drop]; omega, h6⟩
theorem pl_nil (fin : Nat) (b : Option Nat) : pl [] fin b = ([], ⟨[], fin, b⟩) := by cases b <;> rfl
theorem pl_bad (r : List Wd) (fin a : Nat) : pl r fin (some a) = ([], ⟨r, fin, some a⟩) := by cases r <;> rfl
theorem pl_step (x : Wd) (r : List Wd) (fin : Nat) : ∃ b, vnx ip ⟨x :: r, fin, none⟩ = ⟨r, fin, b⟩ ∧ pl (x :: r) fin none = (nv (val ip ⟨x :: r, fin, none⟩) :: (pl r fin b).1, (pl r fin b).2) := by
 have hv : val ip ⟨x :: r, fin, none⟩ = ip x.1.data.toList := rfl
 have hn : vnx ip ⟨x :: r, fin, none⟩ = if (ip x.1.data.toList).isSome then ⟨r, fin, none⟩ else ⟨r, fin, some x.2⟩ := rfl
 rw [hv, hn, pl]
 cases ip x.1.data.toList with
 | none =>
  refine ⟨some x.2, rfl, ?_⟩
  rw [pl_bad]; rfl
 | some m => exact ⟨none, rfl, rfl⟩
set_option maxHeartbeats 16000000 in
theorem dl_pool {w V : World} {g : Nat} {σ : Sg} {W K L : List (Nat × Obj)} {gc : Nat} {c : Cgf} (h : Lg w V g σ W (L ++ K)) (hC : CfI gc c L) (hne : c.ten ≠ []) (hlen : ∀ t ∈ c.ten, t.pool.length + σ.ws.length ≤ 900000 ∧ t.stat.length ≤ 900000 ∧ t.twi.length ≤ 900000) (hx : wt σ = wPool) :
  Calls Tryz.prog 28 #[.pointer (some ⟨g, 0, none⟩), .pointer (some ⟨gc, 0, none⟩)] V (RL w g W K gc (ln c σ)) := by
 have hwt : wt σ ≠ wTenant := by rw [hx]; decide
 have C := rword_any h
 obtain ⟨hcl, hh⟩ := hC
 rcases hh with ⟨e, -⟩ | ⟨zs, t, gt, cap, post, C0, L1, e, hz, hT, hc1, hc2, hc3, rfl⟩
 ·exact absurd e hne
 have hp : La.part (La.wd σ) t (nxt σ) = ({ t with pool := t.pool ++ (pl (nxt σ).ws (nxt σ).fin (nxt σ).bad).1 }, (pl (nxt σ).ws (nxt σ).fin (nxt σ).bad).2) := by
  have hb : (La.wd σ).1.data.toList = wPool := hx
  unfold La.part; rw [if_pos hb]
 have hln : ln c σ = ({ c with ten := zs.map Prod.fst ++ [(La.part (La.wd σ) t (nxt σ)).1] }, (La.part (La.wd σ) t (nxt σ)).2) := ln_some hwt e
 rw [hp] at hln
 rw [hln]
 have hlen : t.pool.length + (nxt σ).ws.length ≤ 900000 := by
  have h1 := (hlen t (by rw [e]; simp)).1
  have h2 : (nxt σ).ws.length ≤ σ.ws.length := by
   unfold nxt
   split
   ·exact Nat.le_refl _
   ·rename_i hw; rw [hw]; simp
  omega
 have hx1 : (La.wd σ).1 = ⟨#[112, 111, 111, 108]⟩ := by rw [show (La.wd σ).1 = ⟨(La.wd σ).1.data.toList.toArray⟩ from rfl, show (La.wd σ).1.data.toList = wPool from hx]; rfl
 rw [hx1] at C
 have hpl : (zs.map zc).flatten.length = zs.length * 33 := zcs_len hz
 obtain ⟨N, hN⟩ : ∃ N, zs.length = N := ⟨_, rfl⟩
 rw [hN] at hpl hc1 hc3
 have HT : Hid (TAt gt (zs.map zc).flatten post 45 t L1) := hT
 have HZ : Hid (zs.length = N ∧ (zs.map zc).flatten.length = N * 33 ∧ CLen c ∧ (∀ z ∈ zs, ZB z C0) ∧ N + 1 ≤ cap ∧ cap ≤ maxLen ∧ (N + 1) * 33 + post.length = cap * 33) := ⟨hN, hpl, hcl, hz, hc1, hc2, hc3⟩
 rw [hN] at h C
 have wz : IntKind.i64.wrap (((N + 1 : Nat) : Int) - 1) = (N : Int) := by rw [wrap64 (by unfold maxLen at hc2; omega) (by unfold maxLen at hc2; omega)]; omega
 have lz0 : (0 : Int) ≤ (N : Int) := by omega
 have lz2 : (N : Int) < ((N + 1 : Nat) : Int) := by omega
 have lz3 : (((N + 1 : Nat) : Int) == 0) = false := by rw [beq_eq_false_iff_ne]; omega
 clear h hx hwt hln hcl hz hT hc1 hc2 hc3 hne e hpl hp hx1
 obtain ⟨M, hM1⟩ : ∃ M, N + 1 = M := ⟨_, rfl⟩
 rw [hM1] at C wz lz2 lz3
 have HM1 : Hid (N + 1 = M) := hM1
 clear hM1
 generalize (La.wd σ).2 = x2 at C ⊢
 generalize nxt σ = τ at *
 obtain ⟨n, hn⟩ : ∃ n, N * 33 = n := ⟨_, rfl⟩
 have HN : Hid ((zs.map zc).flatten.length = n) := by rw [← hn]; exact HZ.out.2.1
 go_enter Tryz.func28, Tryz.ntmps28
 go_wp2_with fail
 refine C.mono ?_
 rintro e V1 ⟨rfl, hL⟩
 obtain ⟨gw, hgw⟩ : ∃ gw, V1.heap.size = gw := ⟨_, rfl⟩
 have HL : Hid (Lg w (V1.alloc (.cells #[.string ⟨#[112, 111, 111, 108]⟩, .int .i64 x2] 79)) g τ W (L1 ++ ((gw, .cells #[.string ⟨#[112, 111, 111, 108]⟩, .int .i64 x2] 79) :: (gc, .cells (cc c (.slice (some ⟨gt, 0, none⟩) M cap)).toArray 29) :: (C0 ++ K)))) := (hL.push _ hgw.symm).perm (by classical rw [List.perm_iff_count]; intro z; simp only [List.count_append, List.count_cons]; omega)
 clear C hL
 go_upto_region 17 with fail
 refine wp_letter (fun X => Lg w X g τ W (L1 ++ ((gw, .cells #[.string ⟨#[112, 111, 111, 108]⟩, .int .i64 x2] 79) :: (gc, .cells (cc c (.slice (some ⟨gt, 0, none⟩) M cap)).toArray 29) :: (C0 ++ K)))) (by exact HL.out) ?_
 intro V2 hR
 try simp only [hgw]
 clear hgw HL
 have c2 := (rl_cells HZ.out.2.2.1 hR).2.2
 have HL : Hid (Lg w V2 g τ W (L1 ++ ((gw, .cells #[.string ⟨#[112, 111, 111, 108]⟩, .int .i64 x2] 79) :: (gc, .cells (cc c (.slice (some ⟨gt, 0, none⟩) M cap)).toArray 29) :: (C0 ++ K)))) := hR
 clear hR
 go_upto_region 19 with fail
 go_quiet (fail)
 go_upto_region 20 with fail
 refine wp_letter (fun X => Lg w X g τ W (L1 ++ ((gw, .cells #[.string ⟨#[112, 111, 111, 108]⟩, .int .i64 x2] 79) :: (gc, .cells (cc c (.slice (some ⟨gt, 0, none⟩) M cap)).toArray 29) :: (C0 ++ K)))) (by first | exact HL.out.drewN _ | exact HL.out) ?_
 intro V0 hR
 try simp only [hn]
 obtain ⟨c0, c1, -⟩ := rl_cells HZ.out.2.2.1 hR
 have HR : Hid (Lg w V0 g τ W (L1 ++ ((gw, .cells #[.string ⟨#[112, 111, 111, 108]⟩, .int .i64 x2] 79) :: (gc, .cells (cc c (.slice (some ⟨gt, 0, none⟩) M cap)).toArray 29) :: (C0 ++ K)))) := hR
 clear hR HL c2 hn
 obtain ⟨ws0, fin, b0⟩ := τ
 simp only at hlen ⊢
 obtain ⟨R1, hR1⟩ : ∃ x, (pl ws0 fin b0).1 = x := ⟨_, rfl⟩
 obtain ⟨R2, hR2⟩ : ∃ x, (pl ws0 fin b0).2 = x := ⟨_, rfl⟩
 have HR12 : Hid ((pl ws0 fin b0).1 = R1 ∧ (pl ws0 fin b0).2 = R2) := ⟨hR1, hR2⟩
 have H0 : Hid (∃ L acc, Lg w V0 g ⟨ws0, fin, b0⟩ W (L ++ ((gw, .cells #[.string ⟨#[112, 111, 111, 108]⟩, .int .i64 x2] 79) :: (gc, .cells (cc c (.slice (some ⟨gt, 0, none⟩) M cap)).toArray 29) :: (C0 ++ K))) ∧ TAt gt (zs.map zc).flatten post 45 { t with pool := t.pool ++ acc } L ∧ acc ++ (pl ws0 fin b0).1 = R1 ∧ (pl ws0 fin b0).2 = R2 ∧ t.pool.length + acc.length + ws0.length ≤ 900000) := ⟨L1, [], HR.out, by rw [List.append_nil]; exact HT.out, by rw [List.nil_append]; exact hR1, hR2, by simpa using hlen⟩
 clear hR1 hR2 HR HT hlen
 go_wp2_with fail
 go_loopw [] (fun w' => ∃ r b, Hid (∃ L acc, Lg w w' g ⟨r, fin, b⟩ W (L ++ ((gw, .cells #[.string ⟨#[112, 111, 111, 108]⟩, .int .i64 x2] 79) :: (gc, .cells (cc c (.slice (some ⟨gt, 0, none⟩) M cap)).toArray 29) :: (C0 ++ K))) ∧ TAt gt (zs.map zc).flatten post 45 { t with pool := t.pool ++ acc } L ∧ acc ++ (pl r fin b).1 = R1 ∧ (pl r fin b).2 = R2 ∧ t.pool.length + acc.length + r.length ≤ 900000)) (fun w' => rgN g w')
 case atStart => exact ⟨ws0, b0, H0⟩
 case round =>
  obtain ⟨r, b, HR⟩ := hrel
  clear H0 c0 c1
  obtain ⟨L0, acc, hR, hT, hp1, hp2, hlen⟩ := HR.out
  obtain ⟨wa, wn, wc, wi, wat, d0, d1, d3, d4, hwn, -⟩ := hR.head
  simp only at d4 hwn
  have hl0 := rgN_of hR
  cases r with
  | nil =>
   rw [pl_nil] at hp1 hp2
   simp only [List.append_nil] at hp1 hp2
   subst hp1
   subst hp2
   have HF : Hid (Lg w wr g ⟨[], fin, b⟩ W (L0 ++ ((gw, .cells #[.string ⟨#[112, 111, 111, 108]⟩, .int .i64 x2] 79) :: (gc, .cells (cc c (.slice (some ⟨gt, 0, none⟩) M cap)).toArray 29) :: (C0 ++ K))) ∧ TAt gt (zs.map zc).flatten post 45 { t with pool := t.pool ++ acc } L0) := ⟨hR, hT⟩
   have hcd : decide ((wi : Int) < wn) = false := by simp at hwn; simp; omega
   have hcn : ¬ ((wi : Int) < wn) := by simp at hwn; omega
   clear HR hR hT hlen hwn hl0
   go_upto_region 23 with fail
   go_quiet (fail)
   go_wp2_with fail
   go_end0
   exact ⟨rfl, by rw [HR12.out.1, HR12.out.2]; exact rl_of HZ.out HM1.out HF.out.2 (by first | exact HF.out.1.drewN _ | exact HF.out.1)⟩
  | cons x r =>
   have hcd : decide ((wi : Int) < wn) = true := by simp at hwn; simp; omega
   have hcn : (wi : Int) < wn := by simp at hwn; omega
   cases b with
   | some a =>
    rw [pl_bad] at hp1 hp2
    simp only [List.append_nil] at hp1 hp2
    subst hp1
    subst hp2
    simp only [Option.isSome_some] at d4
    have HF : Hid (Lg w wr g ⟨x :: r, fin, some a⟩ W (L0 ++ ((gw, .cells #[.string ⟨#[112, 111, 111, 108]⟩, .int .i64 x2] 79) :: (gc, .cells (cc c (.slice (some ⟨gt, 0, none⟩) M cap)).toArray 29) :: (C0 ++ K))) ∧ TAt gt (zs.map zc).flatten post 45 { t with pool := t.pool ++ acc } L0) := ⟨hR, hT⟩
    clear HR hR hT hlen hwn hl0
    go_upto_region 23 with fail
    go_quiet (fail)
    go_wp2_with fail
    go_end0
    exact ⟨rfl, by rw [HR12.out.1, HR12.out.2]; exact rl_of HZ.out HM1.out HF.out.2 (by first | exact HF.out.1.drewN _ | exact HF.out.1)⟩
   | none =>
    simp only [Option.isSome_none] at d4
    obtain ⟨A, p, B, R, hperm, hpA, hB, hlt, hnew⟩ := (tat_list hT w []).1
    rw [HN.out] at hpA hlt hnew
    obtain ⟨pa, pm, pc, rfl⟩ := owb_slice hB
    obtain ⟨b', hvn, hpl⟩ := pl_step x r fin
    obtain ⟨y, hy⟩ : ∃ y, nv (val ip ⟨x :: r, fin, none⟩) = y := ⟨_, rfl⟩
    rw [hpl, hy] at hp1
    rw [hpl] at hp2
    simp only at hp1 hp2
    have HQ : Hid (Lg w wr g ⟨x :: r, fin, none⟩ W ((gt, .cells A 45) :: (B ++ (R ++ ((gw, .cells #[.string ⟨#[112, 111, 111, 108]⟩, .int .i64 x2] 79) :: (gc, .cells (cc c (.slice (some ⟨gt, 0, none⟩) M cap)).toArray 29) :: (C0 ++ K)))))) := (hR.perm (hperm.append_right _)).perm (by classical rw [List.perm_iff_count]; intro z; simp only [List.count_append, List.count_cons]; omega)
    have HG : Hid (∀ X σ', Lg w X g σ' W ((gt, .cells A 45) :: (B ++ (R ++ ((gw, .cells #[.string ⟨#[112, 111, 111, 108]⟩, .int .i64 x2] 79) :: (gc, .cells (cc c (.slice (some ⟨gt, 0, none⟩) M cap)).toArray 29) :: (C0 ++ K))))) → X.cell? ⟨gt, n + 23, none⟩ = some (.slice pa pm pc)) := fun X σ' hX => (hX.cellK (i := 0) rfl (n + 23)).trans hpA
    have CC : ∀ X, Lg w X g ⟨x :: r, fin, none⟩ W ((gt, .cells A 45) :: (B ++ (R ++ ((gw, .cells #[.string ⟨#[112, 111, 111, 108]⟩, .int .i64 x2] 79) :: (gc, .cells (cc c (.slice (some ⟨gt, 0, none⟩) M cap)).toArray 29) :: (C0 ++ K))))) → Calls Tryz.prog 24 #[.pointer (some ⟨g, 0, none⟩)] X fun e V' => e = .returned (.int .u32 y) ∧ Lg w V' g ⟨r, fin, b'⟩ W ((gt, .cells A 45) :: (B ++ (R ++ ((gw, .cells #[.string ⟨#[112, 111, 111, 108]⟩, .int .i64 x2] 79) :: (gc, .cells (cc c (.slice (some ⟨gt, 0, none⟩) M cap)).toArray 29) :: (C0 ++ K))))) := fun X hX => by
     have := rlip_any hX
     rw [hy, hvn] at this
     exact this
    have HCC : Hid (∀ X, Lg w X g ⟨x :: r, fin, none⟩ W ((gt, .cells A 45) :: (B ++ (R ++ ((gw, .cells #[.string ⟨#[112, 111, 111, 108]⟩, .int .i64 x2] 79) :: (gc, .cells (cc c (.slice (some ⟨gt, 0, none⟩) M cap)).toArray 29) :: (C0 ++ K))))) → Calls Tryz.prog 24 #[.pointer (some ⟨g, 0, none⟩)] X fun e V' => e = .returned (.int .u32 y) ∧ Lg w V' g ⟨r, fin, b'⟩ W ((gt, .cells A 45) :: (B ++ (R ++ ((gw, .cells #[.string ⟨#[112, 111, 111, 108]⟩, .int .i64 x2] 79) :: (gc, .cells (cc c (.slice (some ⟨gt, 0, none⟩) M cap)).toArray 29) :: (C0 ++ K)))))) := CC
    have hpln : ({ t with pool := t.pool ++ acc } : Ten).pool = t.pool ++ acc := rfl
    have STEP : Hid (∀ V2, Lg w V2 g ⟨r, fin, b'⟩ W ((gt, .cells A 45) :: (B ++ (R ++ ((gw, .cells #[.string ⟨#[112, 111, 111, 108]⟩, .int .i64 x2] 79) :: (gc, .cells (cc c (.slice (some ⟨gt, 0, none⟩) M cap)).toArray 29) :: (C0 ++ K))))) → ∃ v4 V4, (Builtin.append_ #[41, 41] 41 #[.slice pa pm pc, .slice (some ⟨V2.heap.size, 0, none⟩) 1 1]).run Tryz.prog (V2.alloc (.cells #[.int .u32 y] 23)) = .ok v4 V4 ∧ (∃ a m c, v4 = .slice a m c) ∧ (∃ v0, V4.cell? ⟨gt, n + 23, none⟩ = some v0) ∧ (∀ j, V4.frozen? ⟨gt, j, none⟩ = false) ∧
      ∀ a m c', v4 = .slice a m c' → Hid (∃ L acc, Lg w (V4.setCell ⟨gt, n + 23, none⟩ v4) g ⟨r, fin, b'⟩ W (L ++ ((gw, .cells #[.string ⟨#[112, 111, 111, 108]⟩, .int .i64 x2] 79) :: (gc, .cells (cc c (.slice (some ⟨gt, 0, none⟩) M cap)).toArray 29) :: (C0 ++ K))) ∧ TAt gt (zs.map zc).flatten post 45 { t with pool := t.pool ++ acc } L ∧ acc ++ (pl r fin b').1 = R1 ∧ (pl r fin b').2 = R2 ∧ t.pool.length + acc.length + r.length ≤ 900000) ∧ rgN g (V4.setCell ⟨gt, n + 23, none⟩ v4) = r.length) := by
     intro V2 h2
     have h3 := h2.after ((Below.refl V2.heap.size V2).alloc (Nat.le_refl _) (.cells #[.int .u32 y] 23))
     obtain ⟨ob, hMo, hback⟩ := h3.frame
     obtain ⟨v4, V4, B4, hrun, hM4, hB4⟩ := mem_append (t := 41) (ty := 41) Tryz.underlying41 infoU rfl (by decide) (K := (g, ob) :: (gt, .cells A 45) :: (R ++ (((gw, .cells #[.string ⟨#[112, 111, 111, 108]⟩, .int .i64 x2] 79) :: (gc, .cells (cc c (.slice (some ⟨gt, 0, none⟩) M cap)).toArray 29) :: (C0 ++ K)) ++ W))) (hMo.perm (by classical rw [List.perm_iff_count]; intro z; simp only [List.count_append, List.count_cons]; omega)) hB ⟨V2.heap.size, 0, none⟩ [.int .u32 y] rfl (fun j u hj => by
       rw [addr_mid, Nat.zero_add, World.cell?_alloc_new]
       simpa using hj) (by simp; rfl) (by rw [hpln, List.length_append]; omega) (by rw [hpln, List.length_append]; omega)
     have h4 : Lg w V4 g ⟨r, fin, b'⟩ W ((gt, .cells A 45) :: (B4 ++ (R ++ ((gw, .cells #[.string ⟨#[112, 111, 111, 108]⟩, .int .i64 x2] 79) :: (gc, .cells (cc c (.slice (some ⟨gt, 0, none⟩) M cap)).toArray 29) :: (C0 ++ K))))) := hback _ _ (hM4.perm (by classical rw [List.perm_iff_count]; intro z; simp only [List.count_append, List.count_cons]; omega))
     refine ⟨v4, V4, hrun, owb_slice hB4, ⟨_, (h4.cellK (i := 0) rfl (n + 23)).trans hpA⟩, h4.freeK (i := 0) rfl, fun a m c' e => ?_⟩
     subst e
     have hT' := hnew y a m c' B4 hB4
     have h5 := h4.set (i := 0) rfl (n + 23) (.slice a m c')
     refine ⟨⟨_, acc ++ [y], h5.perm (K' := (((gt, Obj.cells (A.setIfInBounds (n + 23) (.slice a m c')) 45) :: (B4 ++ R)) ++ ((gw, .cells #[.string ⟨#[112, 111, 111, 108]⟩, .int .i64 x2] 79) :: (gc, .cells (cc c (.slice (some ⟨gt, 0, none⟩) M cap)).toArray 29) :: (C0 ++ K)))) ?_, by rw [← List.append_assoc]; exact hT', by rw [List.append_assoc]; exact hp1, hp2, by rw [List.length_append]; have : (x :: r).length = r.length + 1 := rfl; simp only [List.length_cons, List.length_nil] at hlen ⊢; omega⟩, rgN_of h5⟩
     rw [List.set_cons_zero]
     exact (by classical rw [List.perm_iff_count]; intro z; simp only [List.count_append, List.count_cons]; omega)
    clear HR hR hT hp1 hp2 hlen hperm hpA hB hlt hnew hvn hpl hwn hy CC
    go_upto_region 23 with fail
    go_quiet (fail)
    go_upto_region 24 with fail
    refine wp_letter (fun X => Lg w X g ⟨x :: r, fin, none⟩ W ((gt, .cells A 45) :: (B ++ (R ++ ((gw, .cells #[.string ⟨#[112, 111, 111, 108]⟩, .int .i64 x2] 79) :: (gc, .cells (cc c (.slice (some ⟨gt, 0, none⟩) M cap)).toArray 29) :: (C0 ++ K)))))) (by first | exact HQ.out.drewN _ | exact HQ.out) ?_
    intro V0 hR0
    clear HQ d0 d1 d3 d4
    have hR2d := hR0.after ((Below.refl _ _).drew)
    have C2 := HCC.out _ hR2d
    have p0 := HG.out _ _ hR2d
    clear hR0 hR2d HCC
    refine wp_region_held_drew (S := fun _ => True) (by kernel_rfl) trivial (fun hHeld => ?_)
    refine wpAnyH_take (i := 0) (v := ?_) rfl (by kernel_rfl) (by kernel_rfl) (by kernel_rfl) (fun _ _ _ h => h) (Or.inl ⟨by rfl, ?qay0⟩) (by assumption) ?qar0
    case qay0 => intro w hSw; (try dsimp only at hSw); go_simp; all_goals with_reducible rfl
    try simp only [getElem_toArray, getElem_cons_zero, getElem_cons_succ, Act.put, setIfInBounds_toArray, set_cons_zero, set_cons_succ]
    refine wpAnyH_take (i := 1) (v := ?_) rfl (by kernel_rfl) (by kernel_rfl) (by kernel_rfl) (fun _ _ _ h => h) (Or.inl ⟨by rfl, ?qay1⟩) (by assumption) ?qar1
    case qay1 => intro w hSw; (try dsimp only at hSw); go_simp; all_goals with_reducible rfl
    try simp only [getElem_toArray, getElem_cons_zero, getElem_cons_succ, Act.put, setIfInBounds_toArray, set_cons_zero, set_cons_succ]
    refine wpAnyH_take (i := 2) (v := ?_) rfl (by kernel_rfl) (by kernel_rfl) (by kernel_rfl) (fun _ _ _ h => h) (Or.inl ⟨by rfl, ?qay2⟩) (by assumption) ?qar2
    case qay2 => intro w hSw; (try dsimp only at hSw); go_simp; all_goals with_reducible rfl
    try simp only [getElem_toArray, getElem_cons_zero, getElem_cons_succ, Act.put, setIfInBounds_toArray, set_cons_zero, set_cons_succ]
    refine wpAnyH_take (i := 3) (v := ?_) rfl (by kernel_rfl) (by kernel_rfl) (by kernel_rfl) (fun _ _ _ h => h) (Or.inl ⟨by rfl, ?qay3⟩) (by assumption) ?qar3
    case qay3 => intro w hSw; (try dsimp only at hSw); go_simp; all_goals with_reducible rfl
    try simp only [getElem_toArray, getElem_cons_zero, getElem_cons_succ, Act.put, setIfInBounds_toArray, set_cons_zero, set_cons_succ]
    refine wpAnyH_take (i := 5) (v := ?_) rfl (by kernel_rfl) (by kernel_rfl) (by kernel_rfl) (fun _ _ _ h => h) (Or.inl ⟨by rfl, ?qay5⟩) (by assumption) ?qar5
    case qay5 => intro w hSw; (try dsimp only at hSw); go_simp; all_goals with_reducible rfl
    try simp only [getElem_toArray, getElem_cons_zero, getElem_cons_succ, Act.put, setIfInBounds_toArray, set_cons_zero, set_cons_succ]
    refine wpAnyH_ready (rs := [4, 6]) (by kernel_rfl) (by simp) ?_
    refine AllReadyH.cons rfl (fun KK hK => ?_) (AllReadyH.cons rfl (fun KK hK => ?_) AllReadyH.nil)
    ·go_simp
     refine hK.out _ _ trivial (fun hHeld => ?_)
     clear hK KK
     try simp only [getElem_toArray, getElem_cons_zero, getElem_cons_succ, Act.put, setIfInBounds_toArray, set_cons_zero, set_cons_succ]
     refine wpAnyH_ready (rs := [6]) (by kernel_rfl) (by simp) ?_
     refine AllReadyH.cons rfl (fun KK hK => ?_) AllReadyH.nil
     go_simp
     with_reducible refine C2.mono ?_
     rintro e V1 ⟨rfl, hP⟩
     try go_wp2_with fail
     have p1 := HG.out _ _ hP
     have p2 := HG.out _ _ (hP.after ((Below.refl V1.heap.size V1).alloc (Nat.le_refl _) (.cells #[.int .u32 y] 23)))
     obtain ⟨v4, V4, hrun, ⟨qa, qm, qc, rfl⟩, ⟨v0, cv0⟩, fr4, hH⟩ := STEP.out _ hP
     obtain ⟨HH, hN'⟩ := hH qa qm qc rfl
     have HM : Hid (rgN g (V4.setCell ⟨gt, n + 23, none⟩ (.slice qa qm qc)) = r.length ∧ rgN g wr = (x :: r).length) := ⟨hN', hl0⟩
     clear hP hH hN'
     refine hK.out _ _ trivial (fun hHeld => ?_)
     clear hK KK
     try simp only [getElem_toArray, getElem_cons_zero, getElem_cons_succ, Act.put, setIfInBounds_toArray, set_cons_zero, set_cons_succ]
     refine wpAnyH_ready (rs := [7]) (by kernel_rfl) (by simp) ?_
     refine AllReadyH.cons rfl (fun KK hK => ?_) AllReadyH.nil
     go_simp
     refine hK.out _ _ trivial (fun hHeld => ?_)
     clear hK KK
     try simp only [getElem_toArray, getElem_cons_zero, getElem_cons_succ, Act.put, setIfInBounds_toArray, set_cons_zero, set_cons_succ]
     refine wpAnyH_ready (rs := [8]) (by kernel_rfl) (by simp) ?_
     refine AllReadyH.cons rfl (fun KK hK => ?_) AllReadyH.nil
     refine step_append_run rfl (.tmp 119) (.tmp 122) 41 41 rfl (by simp [Act.eval]) (by simp [Act.eval]) hrun ?_
     refine hK.out _ _ trivial (fun hHeld => ?_)
     clear hK KK
     try simp only [getElem_toArray, getElem_cons_zero, getElem_cons_succ, Act.put, setIfInBounds_toArray, set_cons_zero, set_cons_succ]
     refine wpAnyH_take (i := 9) (v := ?_) rfl (by kernel_rfl) (by kernel_rfl) (by kernel_rfl) (fun _ _ _ h => h) (Or.inl ⟨by rfl, ?qbzy9⟩) (by assumption) ?qbzr9
     case qbzy9 => intro w hSw; (try dsimp only at hSw); go_simp; all_goals with_reducible rfl
     try simp only [getElem_toArray, getElem_cons_zero, getElem_cons_succ, Act.put, setIfInBounds_toArray, set_cons_zero, set_cons_succ]
     refine wpAnyH_take (i := 10) (v := ?_) rfl (by kernel_rfl) (by kernel_rfl) (by kernel_rfl) (fun _ _ _ h => h) (Or.inl ⟨by rfl, ?qbzy10⟩) (by assumption) ?qbzr10
     case qbzy10 => intro w hSw; (try dsimp only at hSw); go_simp; all_goals with_reducible rfl
     try simp only [getElem_toArray, getElem_cons_zero, getElem_cons_succ, Act.put, setIfInBounds_toArray, set_cons_zero, set_cons_succ]
     refine wpAnyH_ready (rs := [11]) (by kernel_rfl) (by simp) ?_
     refine AllReadyH.cons rfl (fun KK hK => ?_) AllReadyH.nil
     go_simp
     refine hK.out _ _ trivial (fun hHeld => ?_)
     clear hK KK
     try simp only [getElem_toArray, getElem_cons_zero, getElem_cons_succ, Act.put, setIfInBounds_toArray, set_cons_zero, set_cons_succ]
     refine wpAnyH_done (by kernel_rfl) ?_ _
     go_wp2_with fail
     go_roundw
     case rel => exact ⟨r, b', HH⟩
     case measure => rw [HM.out.1, HM.out.2]; simp
    ·go_simp
     with_reducible refine C2.mono ?_
     rintro e V1 ⟨rfl, hP⟩
     try go_wp2_with fail
     have p1 := HG.out _ _ hP
     have p2 := HG.out _ _ (hP.after ((Below.refl V1.heap.size V1).alloc (Nat.le_refl _) (.cells #[.int .u32 y] 23)))
     obtain ⟨v4, V4, hrun, ⟨qa, qm, qc, rfl⟩, ⟨v0, cv0⟩, fr4, hH⟩ := STEP.out _ hP
     obtain ⟨HH, hN'⟩ := hH qa qm qc rfl
     have HM : Hid (rgN g (V4.setCell ⟨gt, n + 23, none⟩ (.slice qa qm qc)) = r.length ∧ rgN g wr = (x :: r).length) := ⟨hN', hl0⟩
     clear hP hH hN'
     refine hK.out _ _ trivial (fun hHeld => ?_)
     clear hK KK
     try simp only [getElem_toArray, getElem_cons_zero, getElem_cons_succ, Act.put, setIfInBounds_toArray, set_cons_zero, set_cons_succ]
     refine wpAnyH_ready (rs := [4, 7]) (by kernel_rfl) (by simp) ?_
     refine AllReadyH.cons rfl (fun KK hK => ?_) (AllReadyH.cons rfl (fun KK hK => ?_) AllReadyH.nil)
     ·go_simp
      refine hK.out _ _ trivial (fun hHeld => ?_)
      clear hK KK
      try simp only [getElem_toArray, getElem_cons_zero, getElem_cons_succ, Act.put, setIfInBounds_toArray, set_cons_zero, set_cons_succ]
      refine wpAnyH_ready (rs := [7]) (by kernel_rfl) (by simp) ?_
      refine AllReadyH.cons rfl (fun KK hK => ?_) AllReadyH.nil
      go_simp
      refine hK.out _ _ trivial (fun hHeld => ?_)
      clear hK KK
      try simp only [getElem_toArray, getElem_cons_zero, getElem_cons_succ, Act.put, setIfInBounds_toArray, set_cons_zero, set_cons_succ]
      refine wpAnyH_ready (rs := [8]) (by kernel_rfl) (by simp) ?_
      refine AllReadyH.cons rfl (fun KK hK => ?_) AllReadyH.nil
      refine step_append_run rfl (.tmp 119) (.tmp 122) 41 41 rfl (by simp [Act.eval]) (by simp [Act.eval]) hrun ?_
      refine hK.out _ _ trivial (fun hHeld => ?_)
      clear hK KK
      try simp only [getElem_toArray, getElem_cons_zero, getElem_cons_succ, Act.put, setIfInBounds_toArray, set_cons_zero, set_cons_succ]
      refine wpAnyH_take (i := 9) (v := ?_) rfl (by kernel_rfl) (by kernel_rfl) (by kernel_rfl) (fun _ _ _ h => h) (Or.inl ⟨by rfl, ?qczy9⟩) (by assumption) ?qczr9
      case qczy9 => intro w hSw; (try dsimp only at hSw); go_simp; all_goals with_reducible rfl
      try simp only [getElem_toArray, getElem_cons_zero, getElem_cons_succ, Act.put, setIfInBounds_toArray, set_cons_zero, set_cons_succ]
      refine wpAnyH_take (i := 10) (v := ?_) rfl (by kernel_rfl) (by kernel_rfl) (by kernel_rfl) (fun _ _ _ h => h) (Or.inl ⟨by rfl, ?qczy10⟩) (by assumption) ?qczr10
      case qczy10 => intro w hSw; (try dsimp only at hSw); go_simp; all_goals with_reducible rfl
      try simp only [getElem_toArray, getElem_cons_zero, getElem_cons_succ, Act.put, setIfInBounds_toArray, set_cons_zero, set_cons_succ]
      refine wpAnyH_ready (rs := [11]) (by kernel_rfl) (by simp) ?_
      refine AllReadyH.cons rfl (fun KK hK => ?_) AllReadyH.nil
      go_simp
      refine hK.out _ _ trivial (fun hHeld => ?_)
      clear hK KK
      try simp only [getElem_toArray, getElem_cons_zero, getElem_cons_succ, Act.put, setIfInBounds_toArray, set_cons_zero, set_cons_succ]
      refine wpAnyH_done (by kernel_rfl) ?_ _
      go_wp2_with fail
      go_roundw
      case rel => exact ⟨r, b', HH⟩
      case measure => rw [HM.out.1, HM.out.2]; simp
     ·go_simp
      refine hK.out _ _ trivial (fun hHeld => ?_)
      clear hK KK
      try simp only [getElem_toArray, getElem_cons_zero, getElem_cons_succ, Act.put, setIfInBounds_toArray, set_cons_zero, set_cons_succ]
      refine wpAnyH_ready (rs := [4]) (by kernel_rfl) (by simp) ?_
      refine AllReadyH.cons rfl (fun KK hK => ?_) AllReadyH.nil
      go_simp
      refine hK.out _ _ trivial (fun hHeld => ?_)
      clear hK KK
      try simp only [getElem_toArray, getElem_cons_zero, getElem_cons_succ, Act.put, setIfInBounds_toArray, set_cons_zero, set_cons_succ]
      refine wpAnyH_ready (rs := [8]) (by kernel_rfl) (by simp) ?_
      refine AllReadyH.cons rfl (fun KK hK => ?_) AllReadyH.nil
      refine step_append_run rfl (.tmp 119) (.tmp 122) 41 41 rfl (by simp [Act.eval]) (by simp [Act.eval]) hrun ?_
      refine hK.out _ _ trivial (fun hHeld => ?_)
      clear hK KK
      try simp only [getElem_toArray, getElem_cons_zero, getElem_cons_succ, Act.put, setIfInBounds_toArray, set_cons_zero, set_cons_succ]
      refine wpAnyH_take (i := 9) (v := ?_) rfl (by kernel_rfl) (by kernel_rfl) (by kernel_rfl) (fun _ _ _ h => h) (Or.inl ⟨by rfl, ?qdzy9⟩) (by assumption) ?qdzr9
      case qdzy9 => intro w hSw; (try dsimp only at hSw); go_simp; all_goals with_reducible rfl
      try simp only [getElem_toArray, getElem_cons_zero, getElem_cons_succ, Act.put, setIfInBounds_toArray, set_cons_zero, set_cons_succ]
      refine wpAnyH_take (i := 10) (v := ?_) rfl (by kernel_rfl) (by kernel_rfl) (by kernel_rfl) (fun _ _ _ h => h) (Or.inl ⟨by rfl, ?qdzy10⟩) (by assumption) ?qdzr10
      case qdzy10 => intro w hSw; (try dsimp only at hSw); go_simp; all_goals with_reducible rfl
      try simp only [getElem_toArray, getElem_cons_zero, getElem_cons_succ, Act.put, setIfInBounds_toArray, set_cons_zero, set_cons_succ]
      refine wpAnyH_ready (rs := [11]) (by kernel_rfl) (by simp) ?_
      refine AllReadyH.cons rfl (fun KK hK => ?_) AllReadyH.nil
      go_simp
      refine hK.out _ _ trivial (fun hHeld => ?_)
      clear hK KK
      try simp only [getElem_toArray, getElem_cons_zero, getElem_cons_succ, Act.put, setIfInBounds_toArray, set_cons_zero, set_cons_succ]
      refine wpAnyH_done (by kernel_rfl) ?_ _
      go_wp2_with fail
      go_roundw
      case rel => exact ⟨r, b', HH⟩
      case measure => rw [HM.out.1, HM.out.2]; simp
end Go.Proofs.YtneciccdiledfaaGreatDoor
namespace Go.Proofs.YtneciccdiledfaaGreatDoor
open Go.RowKit
open La
open Ad
set_option maxHeartbeats 16000000 in
theorem dl_filter {w V : World} {g : Nat} {σ : Sg} {W K L : List (Nat × Obj)} {gc : Nat} {c : Cgf} (h : Lg w V g σ W (L ++ K)) (hC : CfI gc c L) (hne : c.ten ≠ []) (hx : wt σ = wFilter) :
  Calls Tryz.prog 28 #[.pointer (some ⟨g, 0, none⟩), .pointer (some ⟨gc, 0, none⟩)] V (RL w g W K gc (ln c σ)) := by
 have hwt : wt σ ≠ wTenant := by rw [hx]; decide
 have C := rword_any h
 obtain ⟨hcl, hh⟩ := hC
 rcases hh with ⟨e, -⟩ | ⟨zs, t, gt, cap, post, C0, L1, e, hz, hT, hc1, hc2, hc3, rfl⟩
 ·exact absurd e hne
 have hp : La.part (La.wd σ) t (nxt σ) = ({ t with filter := ofl (val flt (nxt σ)) t.filter }, vnx flt (nxt σ)) := by
  have hb : (La.wd σ).1.data.toList = wFilter := hx
  unfold La.part; rw [if_neg (by rw [hb]; decide)]; rw [if_neg (by rw [hb]; decide)]; rw [if_pos hb]
 have hln : ln c σ = ({ c with ten := zs.map Prod.fst ++ [(La.part (La.wd σ) t (nxt σ)).1] }, (La.part (La.wd σ) t (nxt σ)).2) := ln_some hwt e
 rw [hp] at hln
 rw [hln]
 have hx1 : (La.wd σ).1 = ⟨#[102, 105, 108, 116, 101, 114]⟩ := by rw [show (La.wd σ).1 = ⟨(La.wd σ).1.data.toList.toArray⟩ from rfl, show (La.wd σ).1.data.toList = wFilter from hx]; rfl
 rw [hx1] at C
 have hpl : (zs.map zc).flatten.length = zs.length * 33 := zcs_len hz
 obtain ⟨N, hN⟩ : ∃ N, zs.length = N := ⟨_, rfl⟩
 rw [hN] at hpl hc1 hc3
 have HT : Hid (TAt gt (zs.map zc).flatten post 45 t L1) := hT
 have HZ : Hid (zs.length = N ∧ (zs.map zc).flatten.length = N * 33 ∧ CLen c ∧ (∀ z ∈ zs, ZB z C0) ∧ N + 1 ≤ cap ∧ cap ≤ maxLen ∧ (N + 1) * 33 + post.length = cap * 33) := ⟨hN, hpl, hcl, hz, hc1, hc2, hc3⟩
 rw [hN] at h C
 have wz : IntKind.i64.wrap (((N + 1 : Nat) : Int) - 1) = (N : Int) := by rw [wrap64 (by unfold maxLen at hc2; omega) (by unfold maxLen at hc2; omega)]; omega
 have lz0 : (0 : Int) ≤ (N : Int) := by omega
 have lz2 : (N : Int) < ((N + 1 : Nat) : Int) := by omega
 have lz3 : (((N + 1 : Nat) : Int) == 0) = false := by rw [beq_eq_false_iff_ne]; omega
 clear h hx hwt hln hcl hz hT hc1 hc2 hc3 hne e hpl hp hx1
 obtain ⟨M, hM1⟩ : ∃ M, N + 1 = M := ⟨_, rfl⟩
 rw [hM1] at C wz lz2 lz3
 have HM1 : Hid (N + 1 = M) := hM1
 clear hM1
 generalize (La.wd σ).2 = x2 at C ⊢
 generalize nxt σ = τ at *
 obtain ⟨n, hn⟩ : ∃ n, N * 33 = n := ⟨_, rfl⟩
 have HN : Hid ((zs.map zc).flatten.length = n) := by rw [← hn]; exact HZ.out.2.1
 go_enter Tryz.func28, Tryz.ntmps28
 go_wp2_with fail
 refine C.mono ?_
 rintro e V1 ⟨rfl, hL⟩
 obtain ⟨gw, hgw⟩ : ∃ gw, V1.heap.size = gw := ⟨_, rfl⟩
 have HL : Hid (Lg w (V1.alloc (.cells #[.string ⟨#[102, 105, 108, 116, 101, 114]⟩, .int .i64 x2] 79)) g τ W (L1 ++ ((gw, .cells #[.string ⟨#[102, 105, 108, 116, 101, 114]⟩, .int .i64 x2] 79) :: (gc, .cells (cc c (.slice (some ⟨gt, 0, none⟩) M cap)).toArray 29) :: (C0 ++ K)))) := (hL.push _ hgw.symm).perm (by classical rw [List.perm_iff_count]; intro z; simp only [List.count_append, List.count_cons]; omega)
 clear C hL
 go_upto_region 17 with fail
 refine wp_letter (fun X => Lg w X g τ W (L1 ++ ((gw, .cells #[.string ⟨#[102, 105, 108, 116, 101, 114]⟩, .int .i64 x2] 79) :: (gc, .cells (cc c (.slice (some ⟨gt, 0, none⟩) M cap)).toArray 29) :: (C0 ++ K)))) (by exact HL.out) ?_
 intro V2 hR
 try simp only [hgw]
 clear hgw HL
 have c2 := (rl_cells HZ.out.2.2.1 hR).2.2
 have HL : Hid (Lg w V2 g τ W (L1 ++ ((gw, .cells #[.string ⟨#[102, 105, 108, 116, 101, 114]⟩, .int .i64 x2] 79) :: (gc, .cells (cc c (.slice (some ⟨gt, 0, none⟩) M cap)).toArray 29) :: (C0 ++ K)))) := hR
 clear hR
 go_upto_region 19 with fail
 go_quiet (fail)
 go_upto_region 20 with fail
 refine wp_letter (fun X => Lg w X g τ W (L1 ++ ((gw, .cells #[.string ⟨#[102, 105, 108, 116, 101, 114]⟩, .int .i64 x2] 79) :: (gc, .cells (cc c (.slice (some ⟨gt, 0, none⟩) M cap)).toArray 29) :: (C0 ++ K)))) (by first | exact HL.out.drewN _ | exact HL.out) ?_
 intro V0 hR
 try simp only [hn]
 obtain ⟨c0, c1, -⟩ := rl_cells HZ.out.2.2.1 hR
 have HR : Hid (Lg w V0 g τ W (L1 ++ ((gw, .cells #[.string ⟨#[102, 105, 108, 116, 101, 114]⟩, .int .i64 x2] 79) :: (gc, .cells (cc c (.slice (some ⟨gt, 0, none⟩) M cap)).toArray 29) :: (C0 ++ K)))) := hR
 clear hR HL c2 hn
 have C := rword_any HR.out
 obtain ⟨y1, hy1⟩ : ∃ y, (La.wd τ).1 = y := ⟨_, rfl⟩
 obtain ⟨y2, hy2⟩ : ∃ y, (La.wd τ).2 = y := ⟨_, rfl⟩
 obtain ⟨υ, hυ⟩ : ∃ y, nxt τ = y := ⟨_, rfl⟩
 have hfl : val flt τ = flt y1.data.toList := by rw [← hy1]; rfl
 have hvn : vnx flt τ = if (flt y1.data.toList).isSome then υ else υ.fail y2 := by rw [← hy1, ← hy2, ← hυ]; rfl
 rw [hy1, hy2, hυ] at C
 clear HR hy1 hy2 hυ
 by_cases f0 : y1.data.toList = wAny
 ·have hf : flt y1.data.toList = some 0 := by unfold flt; rw [if_pos f0]
  have HF0 : Hid (ofl (val flt τ) t.filter = 0 ∧ vnx flt τ = υ) := by rw [hfl, hvn, hf]; exact ⟨rfl, rfl⟩
  obtain rfl : y1 = ⟨#[97, 110, 121]⟩ := by rw [show y1 = ⟨y1.data.toList.toArray⟩ from rfl, f0]; rfl
  clear hf hfl hvn f0
  go_wp2_with fail
  refine C.mono ?_
  rintro e V1 ⟨rfl, hR⟩
  obtain ⟨g8, hg8⟩ : ∃ g8, V1.heap.size = g8 := ⟨_, rfl⟩
  have HL : Hid (Lg w (V1.alloc (.cells #[.string ⟨#[97, 110, 121]⟩, .int .i64 y2] 79)) g υ W ((g8, .cells #[.string ⟨#[97, 110, 121]⟩, .int .i64 y2] 79) :: (L1 ++ ((gw, .cells #[.string ⟨#[102, 105, 108, 116, 101, 114]⟩, .int .i64 x2] 79) :: (gc, .cells (cc c (.slice (some ⟨gt, 0, none⟩) M cap)).toArray 29) :: (C0 ++ K))))) := hR.push _ hg8.symm
  clear C hR
  go_upto_region 30 with fail
  refine wp_letter (fun X => Lg w X g υ W ((g8, .cells #[.string ⟨#[97, 110, 121]⟩, .int .i64 y2] 79) :: (L1 ++ ((gw, .cells #[.string ⟨#[102, 105, 108, 116, 101, 114]⟩, .int .i64 x2] 79) :: (gc, .cells (cc c (.slice (some ⟨gt, 0, none⟩) M cap)).toArray 29) :: (C0 ++ K))))) (by exact HL.out) ?_
  intro V2 hR
  try simp only [hg8]
  have e0 : V2.cell? ⟨g8, 0, none⟩ = some (.string ⟨#[97, 110, 121]⟩) := hR.cellK (i := 0) rfl 0
  have e1 : V2.cell? ⟨g8, 1, none⟩ = some (.int .i64 y2) := hR.cellK (i := 0) rfl 1
  clear HL hg8
  obtain ⟨A, R, rfl, hlt, hT⟩ := tat_filter HT.out 0
  rw [HN.out] at hlt hT
  obtain ⟨v0, cv⟩ : ∃ v0, V2.cell? ⟨gt, n + 26, none⟩ = some v0 := ⟨_, (hR.cellK (i := 1) rfl (n + 26)).trans (Array.getElem?_eq_getElem hlt)⟩
  have fr : ∀ j, V2.frozen? ⟨gt, j, none⟩ = false := hR.freeK (i := 1) rfl
  have hR2 := (hR.set (i := 1) rfl (n + 26) (.int .i64 0)).drop1
  have HF : Hid (Lg w (V2.setCell ⟨gt, n + 26, none⟩ (.int .i64 0)) g υ W (((gt, Obj.cells (A.setIfInBounds (n + 26) (.int .i64 0)) 45) :: R) ++ ((gw, .cells #[.string ⟨#[102, 105, 108, 116, 101, 114]⟩, .int .i64 x2] 79) :: (gc, .cells (cc c (.slice (some ⟨gt, 0, none⟩) M cap)).toArray 29) :: (C0 ++ K))) ∧ TAt gt (zs.map zc).flatten post 45 { t with filter := 0 } ((gt, Obj.cells (A.setIfInBounds (n + 26) (.int .i64 0)) 45) :: R)) := ⟨hR2, hT⟩
  clear hR hR2 hT HT hlt
  go_wp2_with fail
  go_end0
  exact ⟨rfl, by rw [HF0.out.1, HF0.out.2]; exact rl_of HZ.out HM1.out HF.out.2 HF.out.1⟩
 by_cases f1 : y1.data.toList = wAddress
 ·have hf : flt y1.data.toList = some 1 := by unfold flt; rw [if_neg f0]; rw [if_pos f1]
  have HF0 : Hid (ofl (val flt τ) t.filter = 1 ∧ vnx flt τ = υ) := by rw [hfl, hvn, hf]; exact ⟨rfl, rfl⟩
  obtain rfl : y1 = ⟨#[97, 100, 100, 114, 101, 115, 115]⟩ := by rw [show y1 = ⟨y1.data.toList.toArray⟩ from rfl, f1]; rfl
  clear hf hfl hvn f0 f1
  go_wp2_with fail
  refine C.mono ?_
  rintro e V1 ⟨rfl, hR⟩
  obtain ⟨g8, hg8⟩ : ∃ g8, V1.heap.size = g8 := ⟨_, rfl⟩
  have HL : Hid (Lg w (V1.alloc (.cells #[.string ⟨#[97, 100, 100, 114, 101, 115, 115]⟩, .int .i64 y2] 79)) g υ W ((g8, .cells #[.string ⟨#[97, 100, 100, 114, 101, 115, 115]⟩, .int .i64 y2] 79) :: (L1 ++ ((gw, .cells #[.string ⟨#[102, 105, 108, 116, 101, 114]⟩, .int .i64 x2] 79) :: (gc, .cells (cc c (.slice (some ⟨gt, 0, none⟩) M cap)).toArray 29) :: (C0 ++ K))))) := hR.push _ hg8.symm
  clear C hR
  go_upto_region 30 with fail
  refine wp_letter (fun X => Lg w X g υ W ((g8, .cells #[.string ⟨#[97, 100, 100, 114, 101, 115, 115]⟩, .int .i64 y2] 79) :: (L1 ++ ((gw, .cells #[.string ⟨#[102, 105, 108, 116, 101, 114]⟩, .int .i64 x2] 79) :: (gc, .cells (cc c (.slice (some ⟨gt, 0, none⟩) M cap)).toArray 29) :: (C0 ++ K))))) (by exact HL.out) ?_
  intro V2 hR
  try simp only [hg8]
  have e0 : V2.cell? ⟨g8, 0, none⟩ = some (.string ⟨#[97, 100, 100, 114, 101, 115, 115]⟩) := hR.cellK (i := 0) rfl 0
  have e1 : V2.cell? ⟨g8, 1, none⟩ = some (.int .i64 y2) := hR.cellK (i := 0) rfl 1
  clear HL hg8
  obtain ⟨A, R, rfl, hlt, hT⟩ := tat_filter HT.out 1
  rw [HN.out] at hlt hT
  obtain ⟨v0, cv⟩ : ∃ v0, V2.cell? ⟨gt, n + 26, none⟩ = some v0 := ⟨_, (hR.cellK (i := 1) rfl (n + 26)).trans (Array.getElem?_eq_getElem hlt)⟩
  have fr : ∀ j, V2.frozen? ⟨gt, j, none⟩ = false := hR.freeK (i := 1) rfl
  have hR2 := (hR.set (i := 1) rfl (n + 26) (.int .i64 1)).drop1
  have HF : Hid (Lg w (V2.setCell ⟨gt, n + 26, none⟩ (.int .i64 1)) g υ W (((gt, Obj.cells (A.setIfInBounds (n + 26) (.int .i64 1)) 45) :: R) ++ ((gw, .cells #[.string ⟨#[102, 105, 108, 116, 101, 114]⟩, .int .i64 x2] 79) :: (gc, .cells (cc c (.slice (some ⟨gt, 0, none⟩) M cap)).toArray 29) :: (C0 ++ K))) ∧ TAt gt (zs.map zc).flatten post 45 { t with filter := 1 } ((gt, Obj.cells (A.setIfInBounds (n + 26) (.int .i64 1)) 45) :: R)) := ⟨hR2, hT⟩
  clear hR hR2 hT HT hlt
  go_wp2_with fail
  go_end0
  exact ⟨rfl, by rw [HF0.out.1, HF0.out.2]; exact rl_of HZ.out HM1.out HF.out.2 HF.out.1⟩
 by_cases f2 : y1.data.toList = wPort
 ·have hf : flt y1.data.toList = some 2 := by unfold flt; rw [if_neg f0]; rw [if_neg f1]; rw [if_pos f2]
  have HF0 : Hid (ofl (val flt τ) t.filter = 2 ∧ vnx flt τ = υ) := by rw [hfl, hvn, hf]; exact ⟨rfl, rfl⟩
  obtain rfl : y1 = ⟨#[112, 111, 114, 116]⟩ := by rw [show y1 = ⟨y1.data.toList.toArray⟩ from rfl, f2]; rfl
  clear hf hfl hvn f0 f1 f2
  go_wp2_with fail
  refine C.mono ?_
  rintro e V1 ⟨rfl, hR⟩
  obtain ⟨g8, hg8⟩ : ∃ g8, V1.heap.size = g8 := ⟨_, rfl⟩
  have HL : Hid (Lg w (V1.alloc (.cells #[.string ⟨#[112, 111, 114, 116]⟩, .int .i64 y2] 79)) g υ W ((g8, .cells #[.string ⟨#[112, 111, 114, 116]⟩, .int .i64 y2] 79) :: (L1 ++ ((gw, .cells #[.string ⟨#[102, 105, 108, 116, 101, 114]⟩, .int .i64 x2] 79) :: (gc, .cells (cc c (.slice (some ⟨gt, 0, none⟩) M cap)).toArray 29) :: (C0 ++ K))))) := hR.push _ hg8.symm
  clear C hR
  go_upto_region 30 with fail
  refine wp_letter (fun X => Lg w X g υ W ((g8, .cells #[.string ⟨#[112, 111, 114, 116]⟩, .int .i64 y2] 79) :: (L1 ++ ((gw, .cells #[.string ⟨#[102, 105, 108, 116, 101, 114]⟩, .int .i64 x2] 79) :: (gc, .cells (cc c (.slice (some ⟨gt, 0, none⟩) M cap)).toArray 29) :: (C0 ++ K))))) (by exact HL.out) ?_
  intro V2 hR
  try simp only [hg8]
  have e0 : V2.cell? ⟨g8, 0, none⟩ = some (.string ⟨#[112, 111, 114, 116]⟩) := hR.cellK (i := 0) rfl 0
  have e1 : V2.cell? ⟨g8, 1, none⟩ = some (.int .i64 y2) := hR.cellK (i := 0) rfl 1
  clear HL hg8
  obtain ⟨A, R, rfl, hlt, hT⟩ := tat_filter HT.out 2
  rw [HN.out] at hlt hT
  obtain ⟨v0, cv⟩ : ∃ v0, V2.cell? ⟨gt, n + 26, none⟩ = some v0 := ⟨_, (hR.cellK (i := 1) rfl (n + 26)).trans (Array.getElem?_eq_getElem hlt)⟩
  have fr : ∀ j, V2.frozen? ⟨gt, j, none⟩ = false := hR.freeK (i := 1) rfl
  have hR2 := (hR.set (i := 1) rfl (n + 26) (.int .i64 2)).drop1
  have HF : Hid (Lg w (V2.setCell ⟨gt, n + 26, none⟩ (.int .i64 2)) g υ W (((gt, Obj.cells (A.setIfInBounds (n + 26) (.int .i64 2)) 45) :: R) ++ ((gw, .cells #[.string ⟨#[102, 105, 108, 116, 101, 114]⟩, .int .i64 x2] 79) :: (gc, .cells (cc c (.slice (some ⟨gt, 0, none⟩) M cap)).toArray 29) :: (C0 ++ K))) ∧ TAt gt (zs.map zc).flatten post 45 { t with filter := 2 } ((gt, Obj.cells (A.setIfInBounds (n + 26) (.int .i64 2)) 45) :: R)) := ⟨hR2, hT⟩
  clear hR hR2 hT HT hlt
  go_wp2_with fail
  go_end0
  exact ⟨rfl, by rw [HF0.out.1, HF0.out.2]; exact rl_of HZ.out HM1.out HF.out.2 HF.out.1⟩
 have hf : flt y1.data.toList = none := by unfold flt; rw [if_neg f0, if_neg f1, if_neg f2]
 have HF0 : Hid (ofl (val flt τ) t.filter = t.filter ∧ vnx flt τ = υ.fail y2) := by rw [hfl, hvn, hf]; exact ⟨rfl, rfl⟩
 have q0 : (y1.toList == [97, 110, 121]) = false := str_ne f0
 have q1 : (y1.toList == [97, 100, 100, 114, 101, 115, 115]) = false := str_ne f1
 have q2 : (y1.toList == [112, 111, 114, 116]) = false := str_ne f2
 clear hf hfl hvn f0 f1 f2
 go_wp2_with fail
 refine C.mono ?_
 rintro e V1 ⟨rfl, hR⟩
 obtain ⟨g8, hg8⟩ : ∃ g8, V1.heap.size = g8 := ⟨_, rfl⟩
 have HL : Hid (Lg w (V1.alloc (.cells #[.string y1, .int .i64 y2] 79)) g υ W ((g8, .cells #[.string y1, .int .i64 y2] 79) :: (L1 ++ ((gw, .cells #[.string ⟨#[102, 105, 108, 116, 101, 114]⟩, .int .i64 x2] 79) :: (gc, .cells (cc c (.slice (some ⟨gt, 0, none⟩) M cap)).toArray 29) :: (C0 ++ K))))) := hR.push _ hg8.symm
 clear C hR
 go_upto_region 30 with fail
 refine wp_letter (fun X => Lg w X g υ W ((g8, .cells #[.string y1, .int .i64 y2] 79) :: (L1 ++ ((gw, .cells #[.string ⟨#[102, 105, 108, 116, 101, 114]⟩, .int .i64 x2] 79) :: (gc, .cells (cc c (.slice (some ⟨gt, 0, none⟩) M cap)).toArray 29) :: (C0 ++ K))))) (by exact HL.out) ?_
 intro V2 hR
 try simp only [hg8]
 have e0 : V2.cell? ⟨g8, 0, none⟩ = some (.string y1) := hR.cellK (i := 0) rfl 0
 have e1 : V2.cell? ⟨g8, 1, none⟩ = some (.int .i64 y2) := hR.cellK (i := 0) rfl 1
 clear HL hg8
 have CF := rfail_any hR y2
 clear hR
 go_wp2_with fail
 refine CF.mono ?_
 rintro e V3 ⟨rfl, hM⟩
 have HM : Hid (Lg w V3 g (υ.fail y2) W (L1 ++ ((gw, .cells #[.string ⟨#[102, 105, 108, 116, 101, 114]⟩, .int .i64 x2] 79) :: (gc, .cells (cc c (.slice (some ⟨gt, 0, none⟩) M cap)).toArray 29) :: (C0 ++ K)))) := hM.drop1
 clear hM CF
 go_wp2_with fail
 go_end0
 exact ⟨rfl, by rw [HF0.out.1, HF0.out.2]; exact rl_of HZ.out HM1.out HT.out HM.out⟩
end Go.Proofs.YtneciccdiledfaaGreatDoor
namespace Go.Proofs.YtneciccdiledfaaGreatDoor
open Go.RowKit
open La
open Ad
set_option maxHeartbeats 16000000 in
theorem dl_twice {w V : World} {g : Nat} {σ : Sg} {W K L : List (Nat × Obj)} {gc : Nat} {c : Cgf} (h : Lg w V g σ W (L ++ K)) (hC : CfI gc c L) (hne : c.ten ≠ []) (hlen : ∀ t ∈ c.ten, t.pool.length + σ.ws.length ≤ 900000 ∧ t.stat.length ≤ 900000 ∧ t.twi.length ≤ 900000) (hx : wt σ = wTwice) :
  Calls Tryz.prog 28 #[.pointer (some ⟨g, 0, none⟩), .pointer (some ⟨gc, 0, none⟩)] V (RL w g W K gc (ln c σ)) := by
 have hwt : wt σ ≠ wTenant := by rw [hx]; decide
 have C := rword_any h
 obtain ⟨hcl, hh⟩ := hC
 rcases hh with ⟨e, -⟩ | ⟨zs, t, gt, cap, post, C0, L1, e, hz, hT, hc1, hc2, hc3, rfl⟩
 ·exact absurd e hne
 have hp : La.part (La.wd σ) t (nxt σ) = ({ t with twi := t.twi ++ [(nv (val ip (nxt σ)), nv (val ip (vnx ip (nxt σ))))] }, two2 ip (nxt σ)) := by
  have hb : (La.wd σ).1.data.toList = wTwice := hx
  unfold La.part; rw [if_neg (by rw [hb]; decide)]; rw [if_neg (by rw [hb]; decide)]; rw [if_neg (by rw [hb]; decide)]; rw [if_neg (by rw [hb]; decide)]; rw [if_pos hb]
 have hln : ln c σ = ({ c with ten := zs.map Prod.fst ++ [(La.part (La.wd σ) t (nxt σ)).1] }, (La.part (La.wd σ) t (nxt σ)).2) := ln_some hwt e
 rw [hp] at hln
 rw [hln]
 have hlen := (hlen t (by rw [e]; simp)).2
 have hx1 : (La.wd σ).1 = ⟨#[116, 119, 105, 99, 101]⟩ := by rw [show (La.wd σ).1 = ⟨(La.wd σ).1.data.toList.toArray⟩ from rfl, show (La.wd σ).1.data.toList = wTwice from hx]; rfl
 rw [hx1] at C
 have hpl : (zs.map zc).flatten.length = zs.length * 33 := zcs_len hz
 obtain ⟨N, hN⟩ : ∃ N, zs.length = N := ⟨_, rfl⟩
 rw [hN] at hpl hc1 hc3
 have HT : Hid (TAt gt (zs.map zc).flatten post 45 t L1) := hT
 have HZ : Hid (zs.length = N ∧ (zs.map zc).flatten.length = N * 33 ∧ CLen c ∧ (∀ z ∈ zs, ZB z C0) ∧ N + 1 ≤ cap ∧ cap ≤ maxLen ∧ (N + 1) * 33 + post.length = cap * 33) := ⟨hN, hpl, hcl, hz, hc1, hc2, hc3⟩
 rw [hN] at h C
 have wz : IntKind.i64.wrap (((N + 1 : Nat) : Int) - 1) = (N : Int) := by rw [wrap64 (by unfold maxLen at hc2; omega) (by unfold maxLen at hc2; omega)]; omega
 have lz0 : (0 : Int) ≤ (N : Int) := by omega
 have lz2 : (N : Int) < ((N + 1 : Nat) : Int) := by omega
 have lz3 : (((N + 1 : Nat) : Int) == 0) = false := by rw [beq_eq_false_iff_ne]; omega
 clear h hx hwt hln hcl hz hT hc1 hc2 hc3 hne e hpl hp hx1
 obtain ⟨M, hM1⟩ : ∃ M, N + 1 = M := ⟨_, rfl⟩
 rw [hM1] at C wz lz2 lz3
 have HM1 : Hid (N + 1 = M) := hM1
 clear hM1
 generalize (La.wd σ).2 = x2 at C ⊢
 generalize nxt σ = τ at *
 obtain ⟨n, hn⟩ : ∃ n, N * 33 = n := ⟨_, rfl⟩
 have HN : Hid ((zs.map zc).flatten.length = n) := by rw [← hn]; exact HZ.out.2.1
 go_enter Tryz.func28, Tryz.ntmps28
 go_wp2_with fail
 refine C.mono ?_
 rintro e V1 ⟨rfl, hL⟩
 obtain ⟨gw, hgw⟩ : ∃ gw, V1.heap.size = gw := ⟨_, rfl⟩
 have HL : Hid (Lg w (V1.alloc (.cells #[.string ⟨#[116, 119, 105, 99, 101]⟩, .int .i64 x2] 79)) g τ W (L1 ++ ((gw, .cells #[.string ⟨#[116, 119, 105, 99, 101]⟩, .int .i64 x2] 79) :: (gc, .cells (cc c (.slice (some ⟨gt, 0, none⟩) M cap)).toArray 29) :: (C0 ++ K)))) := (hL.push _ hgw.symm).perm (by classical rw [List.perm_iff_count]; intro z; simp only [List.count_append, List.count_cons]; omega)
 clear C hL
 go_upto_region 17 with fail
 refine wp_letter (fun X => Lg w X g τ W (L1 ++ ((gw, .cells #[.string ⟨#[116, 119, 105, 99, 101]⟩, .int .i64 x2] 79) :: (gc, .cells (cc c (.slice (some ⟨gt, 0, none⟩) M cap)).toArray 29) :: (C0 ++ K)))) (by exact HL.out) ?_
 intro V2 hR
 try simp only [hgw]
 clear hgw HL
 have c2 := (rl_cells HZ.out.2.2.1 hR).2.2
 have HL : Hid (Lg w V2 g τ W (L1 ++ ((gw, .cells #[.string ⟨#[116, 119, 105, 99, 101]⟩, .int .i64 x2] 79) :: (gc, .cells (cc c (.slice (some ⟨gt, 0, none⟩) M cap)).toArray 29) :: (C0 ++ K)))) := hR
 clear hR
 go_upto_region 19 with fail
 go_quiet (fail)
 go_upto_region 20 with fail
 refine wp_letter (fun X => Lg w X g τ W (L1 ++ ((gw, .cells #[.string ⟨#[116, 119, 105, 99, 101]⟩, .int .i64 x2] 79) :: (gc, .cells (cc c (.slice (some ⟨gt, 0, none⟩) M cap)).toArray 29) :: (C0 ++ K)))) (by first | exact HL.out.drewN _ | exact HL.out) ?_
 intro V0 hR
 try simp only [hn]
 obtain ⟨c0, c1, -⟩ := rl_cells HZ.out.2.2.1 hR
 have HR : Hid (Lg w V0 g τ W (L1 ++ ((gw, .cells #[.string ⟨#[116, 119, 105, 99, 101]⟩, .int .i64 x2] 79) :: (gc, .cells (cc c (.slice (some ⟨gt, 0, none⟩) M cap)).toArray 29) :: (C0 ++ K)))) := hR
 clear hR HL c2 hn
 obtain ⟨x, hx⟩ : ∃ x, nv (val ip τ) = x := ⟨_, rfl⟩
 obtain ⟨y, hy⟩ : ∃ y, nv (val ip (vnx ip τ)) = y := ⟨_, rfl⟩
 have HE : Hid (nv (val ip τ) = x ∧ nv (val ip (vnx ip τ)) = y) := ⟨hx, hy⟩
 have C1 := rlip_any HR.out
 rw [hx] at C1
 clear HR hx
 go_wp2_with fail
 refine C1.mono ?_
 rintro e V1 ⟨rfl, hR⟩
 have C2 : Calls Tryz.prog 24 #[.pointer (some ⟨g, 0, none⟩)] V1 fun e V' => e = .returned (.int .u32 (nv (val ip (vnx ip τ)))) ∧ Lg w V' g (two2 ip τ) W (L1 ++ ((gw, .cells #[.string ⟨#[116, 119, 105, 99, 101]⟩, .int .i64 x2] 79) :: (gc, .cells (cc c (.slice (some ⟨gt, 0, none⟩) M cap)).toArray 29) :: (C0 ++ K))) := rlip_any hR
 rw [hy] at C2
 clear C1 hR hy c0 c1
 go_wp2_with fail
 refine C2.mono ?_
 rintro e V2 ⟨rfl, hR⟩
 obtain ⟨c0, c1, -⟩ := rl_cells HZ.out.2.2.1 hR
 obtain ⟨A, p, B, R, hperm, hpA, hB, hlt, hnew⟩ := (tat_list HT.out w []).2.2
 rw [HN.out] at hpA hlt hnew
 have hR2 : Lg w V2 g (two2 ip τ) W ((gt, .cells A 45) :: (B ++ (R ++ ((gw, .cells #[.string ⟨#[116, 119, 105, 99, 101]⟩, .int .i64 x2] 79) :: (gc, .cells (cc c (.slice (some ⟨gt, 0, none⟩) M cap)).toArray 29) :: (C0 ++ K))))) := (hR.perm (hperm.append_right _)).perm (by classical rw [List.perm_iff_count]; intro z; simp only [List.count_append, List.count_cons]; omega)
 have p0 : V2.cell? ⟨gt, n + 28, none⟩ = some p := (hR2.cellK (i := 0) rfl (n + 28)).trans hpA
 obtain ⟨pa, pm, pc, rfl⟩ := owb_slice hB
 have h3 := hR2.after ((Below.refl V2.heap.size V2).alloc (Nat.le_refl _) (.cells #[.int .u32 x, .int .u32 y] 96))
 obtain ⟨ob, hMo, hback⟩ := h3.frame
 obtain ⟨v4, V4, B4, hrun, hM4, hB4⟩ := mem_append (t := 43) (ty := 43) Tryz.underlying43 infoP rfl (by decide) (K := (g, ob) :: (gt, .cells A 45) :: (R ++ (((gw, .cells #[.string ⟨#[116, 119, 105, 99, 101]⟩, .int .i64 x2] 79) :: (gc, .cells (cc c (.slice (some ⟨gt, 0, none⟩) M cap)).toArray 29) :: (C0 ++ K)) ++ W))) (hMo.perm (by classical rw [List.perm_iff_count]; intro z; simp only [List.count_append, List.count_cons]; omega)) hB ⟨V2.heap.size, 0, none⟩ [.int .u32 x, .int .u32 y] rfl (fun j u hj => by
    rw [addr_mid, Nat.zero_add, World.cell?_alloc_new]
    simpa using hj) (by simp; exact ⟨rfl, rfl⟩) (by omega) (by omega)
 have h4 : Lg w V4 g (two2 ip τ) W ((gt, .cells A 45) :: (B4 ++ (R ++ ((gw, .cells #[.string ⟨#[116, 119, 105, 99, 101]⟩, .int .i64 x2] 79) :: (gc, .cells (cc c (.slice (some ⟨gt, 0, none⟩) M cap)).toArray 29) :: (C0 ++ K))))) := hback _ _ (hM4.perm (by classical rw [List.perm_iff_count]; intro z; simp only [List.count_append, List.count_cons]; omega))
 obtain ⟨qa, qm, qc, rfl⟩ := owb_slice hB4
 obtain ⟨v0, cv0⟩ : ∃ v0, V4.cell? ⟨gt, n + 28, none⟩ = some v0 := ⟨_, (h4.cellK (i := 0) rfl (n + 28)).trans hpA⟩
 have fr4 : ∀ j, V4.frozen? ⟨gt, j, none⟩ = false := h4.freeK (i := 0) rfl
 obtain ⟨L', hL', hT'⟩ := hnew x y qa qm qc B4 hB4
 have HH : Hid (TAt gt (zs.map zc).flatten post 45 { t with twi := t.twi ++ [(x, y)] } L' ∧ Lg w (V4.setCell ⟨gt, n + 28, none⟩ (.slice qa qm qc)) g (two2 ip τ) W (L' ++ ((gw, .cells #[.string ⟨#[116, 119, 105, 99, 101]⟩, .int .i64 x2] 79) :: (gc, .cells (cc c (.slice (some ⟨gt, 0, none⟩) M cap)).toArray 29) :: (C0 ++ K)))) := by
  refine ⟨hT', (h4.set (i := 0) rfl (n + 28) (.slice qa qm qc)).perm ?_⟩
  rw [List.set_cons_zero]
  refine List.Perm.trans ?_ (hL'.symm.append_right _)
  exact (by classical rw [List.perm_iff_count]; intro z; simp only [List.count_append, List.count_cons]; omega)
 clear hR hR2 hperm hpA hB hlt hnew h3 hMo hback hM4 hB4 h4 hT' hL' C2 HT hlen
 go_wp2_with (at_builtin; refine wpList_append_run (.tmp 191) (.tmp 195) 43 43 (by with_reducible rfl) hrun rfl rfl (by simp [Act.eval]) (by simp [Act.eval]) ?_)
 go_end0
 exact ⟨rfl, rl_of HZ.out HM1.out (by rw [HE.out.1, HE.out.2]; exact HH.out.1) HH.out.2⟩
end Go.Proofs.YtneciccdiledfaaGreatDoor
namespace Go.Proofs.YtneciccdiledfaaGreatDoor
open Go.RowKit
open La
open Ad
set_option maxHeartbeats 16000000 in
theorem dl_ports {w V : World} {g : Nat} {σ : Sg} {W K L : List (Nat × Obj)} {gc : Nat} {c : Cgf} (h : Lg w V g σ W (L ++ K)) (hC : CfI gc c L) (hne : c.ten ≠ []) (hx : wt σ = wPorts) :
  Calls Tryz.prog 28 #[.pointer (some ⟨g, 0, none⟩), .pointer (some ⟨gc, 0, none⟩)] V (RL w g W K gc (ln c σ)) := by
 have hwt : wt σ ≠ wTenant := by rw [hx]; decide
 have C := rword_any h
 obtain ⟨hcl, hh⟩ := hC
 rcases hh with ⟨e, -⟩ | ⟨zs, t, gt, cap, post, C0, L1, e, hz, hT, hc1, hc2, hc3, rfl⟩
 ·exact absurd e hne
 have hp : La.part (La.wd σ) t (nxt σ) = ({ t with lo := nv (val n16 (nxt σ)), hi := nv (val n16 (vnx n16 (nxt σ))) }, two2 n16 (nxt σ)) := by
  have hb : (La.wd σ).1.data.toList = wPorts := hx
  unfold La.part; rw [if_neg (by rw [hb]; decide)]; rw [if_pos hb]
 have hln : ln c σ = ({ c with ten := zs.map Prod.fst ++ [(La.part (La.wd σ) t (nxt σ)).1] }, (La.part (La.wd σ) t (nxt σ)).2) := ln_some hwt e
 rw [hp] at hln
 rw [hln]
 have hx1 : (La.wd σ).1 = ⟨#[112, 111, 114, 116, 115]⟩ := by rw [show (La.wd σ).1 = ⟨(La.wd σ).1.data.toList.toArray⟩ from rfl, show (La.wd σ).1.data.toList = wPorts from hx]; rfl
 rw [hx1] at C
 have hpl : (zs.map zc).flatten.length = zs.length * 33 := zcs_len hz
 obtain ⟨N, hN⟩ : ∃ N, zs.length = N := ⟨_, rfl⟩
 rw [hN] at hpl hc1 hc3
 have HT : Hid (TAt gt (zs.map zc).flatten post 45 t L1) := hT
 have HZ : Hid (zs.length = N ∧ (zs.map zc).flatten.length = N * 33 ∧ CLen c ∧ (∀ z ∈ zs, ZB z C0) ∧ N + 1 ≤ cap ∧ cap ≤ maxLen ∧ (N + 1) * 33 + post.length = cap * 33) := ⟨hN, hpl, hcl, hz, hc1, hc2, hc3⟩
 rw [hN] at h C
 have wz : IntKind.i64.wrap (((N + 1 : Nat) : Int) - 1) = (N : Int) := by rw [wrap64 (by unfold maxLen at hc2; omega) (by unfold maxLen at hc2; omega)]; omega
 have lz0 : (0 : Int) ≤ (N : Int) := by omega
 have lz2 : (N : Int) < ((N + 1 : Nat) : Int) := by omega
 have lz3 : (((N + 1 : Nat) : Int) == 0) = false := by rw [beq_eq_false_iff_ne]; omega
 clear h hx hwt hln hcl hz hT hc1 hc2 hc3 hne e hpl hp hx1
 obtain ⟨M, hM1⟩ : ∃ M, N + 1 = M := ⟨_, rfl⟩
 rw [hM1] at C wz lz2 lz3
 have HM1 : Hid (N + 1 = M) := hM1
 clear hM1
 generalize (La.wd σ).2 = x2 at C ⊢
 generalize nxt σ = τ at *
 obtain ⟨n, hn⟩ : ∃ n, N * 33 = n := ⟨_, rfl⟩
 have HN : Hid ((zs.map zc).flatten.length = n) := by rw [← hn]; exact HZ.out.2.1
 go_enter Tryz.func28, Tryz.ntmps28
 go_wp2_with fail
 refine C.mono ?_
 rintro e V1 ⟨rfl, hL⟩
 obtain ⟨gw, hgw⟩ : ∃ gw, V1.heap.size = gw := ⟨_, rfl⟩
 have HL : Hid (Lg w (V1.alloc (.cells #[.string ⟨#[112, 111, 114, 116, 115]⟩, .int .i64 x2] 79)) g τ W (L1 ++ ((gw, .cells #[.string ⟨#[112, 111, 114, 116, 115]⟩, .int .i64 x2] 79) :: (gc, .cells (cc c (.slice (some ⟨gt, 0, none⟩) M cap)).toArray 29) :: (C0 ++ K)))) := (hL.push _ hgw.symm).perm (by classical rw [List.perm_iff_count]; intro z; simp only [List.count_append, List.count_cons]; omega)
 clear C hL
 go_upto_region 17 with fail
 refine wp_letter (fun X => Lg w X g τ W (L1 ++ ((gw, .cells #[.string ⟨#[112, 111, 114, 116, 115]⟩, .int .i64 x2] 79) :: (gc, .cells (cc c (.slice (some ⟨gt, 0, none⟩) M cap)).toArray 29) :: (C0 ++ K)))) (by exact HL.out) ?_
 intro V2 hR
 try simp only [hgw]
 clear hgw HL
 have c2 := (rl_cells HZ.out.2.2.1 hR).2.2
 have HL : Hid (Lg w V2 g τ W (L1 ++ ((gw, .cells #[.string ⟨#[112, 111, 114, 116, 115]⟩, .int .i64 x2] 79) :: (gc, .cells (cc c (.slice (some ⟨gt, 0, none⟩) M cap)).toArray 29) :: (C0 ++ K)))) := hR
 clear hR
 go_upto_region 19 with fail
 go_quiet (fail)
 go_upto_region 20 with fail
 refine wp_letter (fun X => Lg w X g τ W (L1 ++ ((gw, .cells #[.string ⟨#[112, 111, 114, 116, 115]⟩, .int .i64 x2] 79) :: (gc, .cells (cc c (.slice (some ⟨gt, 0, none⟩) M cap)).toArray 29) :: (C0 ++ K)))) (by first | exact HL.out.drewN _ | exact HL.out) ?_
 intro V0 hR
 try simp only [hn]
 obtain ⟨c0, c1, -⟩ := rl_cells HZ.out.2.2.1 hR
 have HR : Hid (Lg w V0 g τ W (L1 ++ ((gw, .cells #[.string ⟨#[112, 111, 114, 116, 115]⟩, .int .i64 x2] 79) :: (gc, .cells (cc c (.slice (some ⟨gt, 0, none⟩) M cap)).toArray 29) :: (C0 ++ K)))) := hR
 clear hR HL c2 hn
 have bd1 := nv_le τ 65535
 obtain ⟨y1, hx1⟩ : ∃ y, nv (val n16 τ) = y := ⟨_, rfl⟩
 have HE1 : Hid (nv (val n16 τ) = y1) := hx1
 rw [show nv (val (fun s => num s 65535) τ) = y1 from hx1] at bd1
 obtain ⟨bl1, bh1⟩ := bd1
 have cw1 : IntKind.u16.wrap y1 = y1 := by simp [IntKind.wrap, IntKind.bits, IntKind.signed]; omega
 have cm1 : y1 % 65536 = y1 := by omega
 have C : Calls Tryz.prog 27 #[.pointer (some ⟨g, 0, none⟩), .int .u32 65535] V0 fun e V' => e = .returned (.int .u32 (nv (val n16 τ))) ∧ Lg w V' g (vnx n16 τ) W (L1 ++ ((gw, .cells #[.string ⟨#[112, 111, 114, 116, 115]⟩, .int .i64 x2] 79) :: (gc, .cells (cc c (.slice (some ⟨gt, 0, none⟩) M cap)).toArray 29) :: (C0 ++ K))) := rlnum_any HR.out 65535 (by omega)
 rw [hx1] at C
 clear HR hx1
 go_wp2_with fail
 refine C.mono ?_
 rintro e V1 ⟨rfl, hR⟩
 obtain ⟨A1, R1, rfl, hlt1, hT1⟩ := tat_lo HT.out y1
 rw [HN.out] at hlt1 hT1
 obtain ⟨v0, cc1⟩ : ∃ v0, V1.cell? ⟨gt, n + 24, none⟩ = some v0 := ⟨_, (hR.cellK (i := 0) rfl (n + 24)).trans (Array.getElem?_eq_getElem hlt1)⟩
 have fr1 : ∀ j, V1.frozen? ⟨gt, j, none⟩ = false := hR.freeK (i := 0) rfl
 have hR2 := hR.set (i := 0) rfl (n + 24) (.int .u16 y1)
 obtain ⟨Lq, hL1⟩ : ∃ L', (gt, Obj.cells (A1.setIfInBounds (n + 24) (.int .u16 y1)) 45) :: R1 = L' := ⟨_, rfl⟩
 rw [hL1] at hT1
 have HNx : Hid (Lg w (V1.setCell ⟨gt, n + 24, none⟩ (.int .u16 y1)) g (vnx n16 τ) W (Lq ++ ((gw, .cells #[.string ⟨#[112, 111, 114, 116, 115]⟩, .int .i64 x2] 79) :: (gc, .cells (cc c (.slice (some ⟨gt, 0, none⟩) M cap)).toArray 29) :: (C0 ++ K)))) := by rw [← hL1]; exact hR2
 have HT' : Hid (TAt gt (zs.map zc).flatten post 45 { t with lo := y1 } Lq) := hT1
 clear HT hT1 hL1 hR2 hR C hlt1
 have HT := HT'
 clear HT'
 go_upto_region 27 with fail
 refine wp_letter (fun X => Lg w X g (vnx n16 τ) W (Lq ++ ((gw, .cells #[.string ⟨#[112, 111, 114, 116, 115]⟩, .int .i64 x2] 79) :: (gc, .cells (cc c (.slice (some ⟨gt, 0, none⟩) M cap)).toArray 29) :: (C0 ++ K)))) (by exact HNx.out) ?_
 intro V1b hR
 have HR : Hid (Lg w V1b g (vnx n16 τ) W (Lq ++ ((gw, .cells #[.string ⟨#[112, 111, 114, 116, 115]⟩, .int .i64 x2] 79) :: (gc, .cells (cc c (.slice (some ⟨gt, 0, none⟩) M cap)).toArray 29) :: (C0 ++ K)))) := hR
 clear hR HNx cc1 fr1 c0 c1
 have bd2 := nv_le (vnx n16 τ) 65535
 obtain ⟨y2, hx2⟩ : ∃ y, nv (val n16 (vnx n16 τ)) = y := ⟨_, rfl⟩
 have HE2 : Hid (nv (val n16 (vnx n16 τ)) = y2) := hx2
 rw [show nv (val (fun s => num s 65535) (vnx n16 τ)) = y2 from hx2] at bd2
 obtain ⟨bl2, bh2⟩ := bd2
 have cw2 : IntKind.u16.wrap y2 = y2 := by simp [IntKind.wrap, IntKind.bits, IntKind.signed]; omega
 have cm2 : y2 % 65536 = y2 := by omega
 have C : Calls Tryz.prog 27 #[.pointer (some ⟨g, 0, none⟩), .int .u32 65535] V1b fun e V' => e = .returned (.int .u32 (nv (val n16 (vnx n16 τ)))) ∧ Lg w V' g (two2 n16 τ) W (Lq ++ ((gw, .cells #[.string ⟨#[112, 111, 114, 116, 115]⟩, .int .i64 x2] 79) :: (gc, .cells (cc c (.slice (some ⟨gt, 0, none⟩) M cap)).toArray 29) :: (C0 ++ K))) := rlnum_any HR.out 65535 (by omega)
 rw [hx2] at C
 clear HR hx2
 go_wp2_with fail
 refine C.mono ?_
 rintro e V2 ⟨rfl, hR⟩
 obtain ⟨A2, R2, rfl, hlt2, hT2⟩ := tat_hi HT.out y2
 rw [HN.out] at hlt2 hT2
 obtain ⟨v0, cc2⟩ : ∃ v0, V2.cell? ⟨gt, n + 25, none⟩ = some v0 := ⟨_, (hR.cellK (i := 0) rfl (n + 25)).trans (Array.getElem?_eq_getElem hlt2)⟩
 have fr2 : ∀ j, V2.frozen? ⟨gt, j, none⟩ = false := hR.freeK (i := 0) rfl
 have hR2 := hR.set (i := 0) rfl (n + 25) (.int .u16 y2)
 obtain ⟨L2, hL2⟩ : ∃ L', (gt, Obj.cells (A2.setIfInBounds (n + 25) (.int .u16 y2)) 45) :: R2 = L' := ⟨_, rfl⟩
 rw [hL2] at hT2
 have HNx : Hid (Lg w (V2.setCell ⟨gt, n + 25, none⟩ (.int .u16 y2)) g (two2 n16 τ) W (L2 ++ ((gw, .cells #[.string ⟨#[112, 111, 114, 116, 115]⟩, .int .i64 x2] 79) :: (gc, .cells (cc c (.slice (some ⟨gt, 0, none⟩) M cap)).toArray 29) :: (C0 ++ K)))) := by rw [← hL2]; exact hR2
 have HT' : Hid (TAt gt (zs.map zc).flatten post 45 { { t with lo := y1 } with hi := y2 } L2) := hT2
 clear HT hT2 hL2 hR2 hR C hlt2
 have HT := HT'
 clear HT'
 go_wp2_with fail
 go_end0
 exact ⟨rfl, rl_of HZ.out HM1.out (by rw [HE1.out, HE2.out]; exact HT.out) HNx.out⟩
end Go.Proofs.YtneciccdiledfaaGreatDoor
namespace Go.Proofs.YtneciccdiledfaaGreatDoor
open Go.RowKit
open La
open Ad
set_option maxHeartbeats 16000000 in
theorem dl_rate {w V : World} {g : Nat} {σ : Sg} {W K L : List (Nat × Obj)} {gc : Nat} {c : Cgf} (h : Lg w V g σ W (L ++ K)) (hC : CfI gc c L) (hne : c.ten ≠ []) (hx : wt σ = wRate) :
  Calls Tryz.prog 28 #[.pointer (some ⟨g, 0, none⟩), .pointer (some ⟨gc, 0, none⟩)] V (RL w g W K gc (ln c σ)) := by
 have hwt : wt σ ≠ wTenant := by rw [hx]; decide
 have C := rword_any h
 obtain ⟨hcl, hh⟩ := hC
 rcases hh with ⟨e, -⟩ | ⟨zs, t, gt, cap, post, C0, L1, e, hz, hT, hc1, hc2, hc3, rfl⟩
 ·exact absurd e hne
 have hp : La.part (La.wd σ) t (nxt σ) = ({ t with rate := nv (val n32 (nxt σ)), burst := nv (val n32 (vnx n32 (nxt σ))) }, two2 n32 (nxt σ)) := by
  have hb : (La.wd σ).1.data.toList = wRate := hx
  unfold La.part; rw [if_neg (by rw [hb]; decide)]; rw [if_neg (by rw [hb]; decide)]; rw [if_neg (by rw [hb]; decide)]; rw [if_neg (by rw [hb]; decide)]; rw [if_neg (by rw [hb]; decide)]; rw [if_neg (by rw [hb]; decide)]; rw [if_pos hb]
 have hln : ln c σ = ({ c with ten := zs.map Prod.fst ++ [(La.part (La.wd σ) t (nxt σ)).1] }, (La.part (La.wd σ) t (nxt σ)).2) := ln_some hwt e
 rw [hp] at hln
 rw [hln]
 have hx1 : (La.wd σ).1 = ⟨#[114, 97, 116, 101]⟩ := by rw [show (La.wd σ).1 = ⟨(La.wd σ).1.data.toList.toArray⟩ from rfl, show (La.wd σ).1.data.toList = wRate from hx]; rfl
 rw [hx1] at C
 have hpl : (zs.map zc).flatten.length = zs.length * 33 := zcs_len hz
 obtain ⟨N, hN⟩ : ∃ N, zs.length = N := ⟨_, rfl⟩
 rw [hN] at hpl hc1 hc3
 have HT : Hid (TAt gt (zs.map zc).flatten post 45 t L1) := hT
 have HZ : Hid (zs.length = N ∧ (zs.map zc).flatten.length = N * 33 ∧ CLen c ∧ (∀ z ∈ zs, ZB z C0) ∧ N + 1 ≤ cap ∧ cap ≤ maxLen ∧ (N + 1) * 33 + post.length = cap * 33) := ⟨hN, hpl, hcl, hz, hc1, hc2, hc3⟩
 rw [hN] at h C
 have wz : IntKind.i64.wrap (((N + 1 : Nat) : Int) - 1) = (N : Int) := by rw [wrap64 (by unfold maxLen at hc2; omega) (by unfold maxLen at hc2; omega)]; omega
 have lz0 : (0 : Int) ≤ (N : Int) := by omega
 have lz2 : (N : Int) < ((N + 1 : Nat) : Int) := by omega
 have lz3 : (((N + 1 : Nat) : Int) == 0) = false := by rw [beq_eq_false_iff_ne]; omega
 clear h hx hwt hln hcl hz hT hc1 hc2 hc3 hne e hpl hp hx1
 obtain ⟨M, hM1⟩ : ∃ M, N + 1 = M := ⟨_, rfl⟩
 rw [hM1] at C wz lz2 lz3
 have HM1 : Hid (N + 1 = M) := hM1
 clear hM1
 generalize (La.wd σ).2 = x2 at C ⊢
 generalize nxt σ = τ at *
 obtain ⟨n, hn⟩ : ∃ n, N * 33 = n := ⟨_, rfl⟩
 have HN : Hid ((zs.map zc).flatten.length = n) := by rw [← hn]; exact HZ.out.2.1
 go_enter Tryz.func28, Tryz.ntmps28
 go_wp2_with fail
 refine C.mono ?_
 rintro e V1 ⟨rfl, hL⟩
 obtain ⟨gw, hgw⟩ : ∃ gw, V1.heap.size = gw := ⟨_, rfl⟩
 have HL : Hid (Lg w (V1.alloc (.cells #[.string ⟨#[114, 97, 116, 101]⟩, .int .i64 x2] 79)) g τ W (L1 ++ ((gw, .cells #[.string ⟨#[114, 97, 116, 101]⟩, .int .i64 x2] 79) :: (gc, .cells (cc c (.slice (some ⟨gt, 0, none⟩) M cap)).toArray 29) :: (C0 ++ K)))) := (hL.push _ hgw.symm).perm (by classical rw [List.perm_iff_count]; intro z; simp only [List.count_append, List.count_cons]; omega)
 clear C hL
 go_upto_region 17 with fail
 refine wp_letter (fun X => Lg w X g τ W (L1 ++ ((gw, .cells #[.string ⟨#[114, 97, 116, 101]⟩, .int .i64 x2] 79) :: (gc, .cells (cc c (.slice (some ⟨gt, 0, none⟩) M cap)).toArray 29) :: (C0 ++ K)))) (by exact HL.out) ?_
 intro V2 hR
 try simp only [hgw]
 clear hgw HL
 have c2 := (rl_cells HZ.out.2.2.1 hR).2.2
 have HL : Hid (Lg w V2 g τ W (L1 ++ ((gw, .cells #[.string ⟨#[114, 97, 116, 101]⟩, .int .i64 x2] 79) :: (gc, .cells (cc c (.slice (some ⟨gt, 0, none⟩) M cap)).toArray 29) :: (C0 ++ K)))) := hR
 clear hR
 go_upto_region 19 with fail
 go_quiet (fail)
 go_upto_region 20 with fail
 refine wp_letter (fun X => Lg w X g τ W (L1 ++ ((gw, .cells #[.string ⟨#[114, 97, 116, 101]⟩, .int .i64 x2] 79) :: (gc, .cells (cc c (.slice (some ⟨gt, 0, none⟩) M cap)).toArray 29) :: (C0 ++ K)))) (by first | exact HL.out.drewN _ | exact HL.out) ?_
 intro V0 hR
 try simp only [hn]
 obtain ⟨c0, c1, -⟩ := rl_cells HZ.out.2.2.1 hR
 have HR : Hid (Lg w V0 g τ W (L1 ++ ((gw, .cells #[.string ⟨#[114, 97, 116, 101]⟩, .int .i64 x2] 79) :: (gc, .cells (cc c (.slice (some ⟨gt, 0, none⟩) M cap)).toArray 29) :: (C0 ++ K)))) := hR
 clear hR HL c2 hn
 have bd1 := nv_le τ 4294967295
 obtain ⟨y1, hx1⟩ : ∃ y, nv (val n32 τ) = y := ⟨_, rfl⟩
 have HE1 : Hid (nv (val n32 τ) = y1) := hx1
 rw [show nv (val (fun s => num s 4294967295) τ) = y1 from hx1] at bd1
 obtain ⟨bl1, bh1⟩ := bd1
 have C : Calls Tryz.prog 27 #[.pointer (some ⟨g, 0, none⟩), .int .u32 4294967295] V0 fun e V' => e = .returned (.int .u32 (nv (val n32 τ))) ∧ Lg w V' g (vnx n32 τ) W (L1 ++ ((gw, .cells #[.string ⟨#[114, 97, 116, 101]⟩, .int .i64 x2] 79) :: (gc, .cells (cc c (.slice (some ⟨gt, 0, none⟩) M cap)).toArray 29) :: (C0 ++ K))) := rlnum_any HR.out 4294967295 (by omega)
 rw [hx1] at C
 clear HR hx1
 go_wp2_with fail
 refine C.mono ?_
 rintro e V1 ⟨rfl, hR⟩
 obtain ⟨A1, R1, rfl, hlt1, hT1⟩ := tat_rate HT.out y1
 rw [HN.out] at hlt1 hT1
 obtain ⟨v0, cc1⟩ : ∃ v0, V1.cell? ⟨gt, n + 31, none⟩ = some v0 := ⟨_, (hR.cellK (i := 0) rfl (n + 31)).trans (Array.getElem?_eq_getElem hlt1)⟩
 have fr1 : ∀ j, V1.frozen? ⟨gt, j, none⟩ = false := hR.freeK (i := 0) rfl
 have hR2 := hR.set (i := 0) rfl (n + 31) (.int .u32 y1)
 obtain ⟨Lq, hL1⟩ : ∃ L', (gt, Obj.cells (A1.setIfInBounds (n + 31) (.int .u32 y1)) 45) :: R1 = L' := ⟨_, rfl⟩
 rw [hL1] at hT1
 have HNx : Hid (Lg w (V1.setCell ⟨gt, n + 31, none⟩ (.int .u32 y1)) g (vnx n32 τ) W (Lq ++ ((gw, .cells #[.string ⟨#[114, 97, 116, 101]⟩, .int .i64 x2] 79) :: (gc, .cells (cc c (.slice (some ⟨gt, 0, none⟩) M cap)).toArray 29) :: (C0 ++ K)))) := by rw [← hL1]; exact hR2
 have HT' : Hid (TAt gt (zs.map zc).flatten post 45 { t with rate := y1 } Lq) := hT1
 clear HT hT1 hL1 hR2 hR C hlt1
 have HT := HT'
 clear HT'
 go_upto_region 50 with fail
 refine wp_letter (fun X => Lg w X g (vnx n32 τ) W (Lq ++ ((gw, .cells #[.string ⟨#[114, 97, 116, 101]⟩, .int .i64 x2] 79) :: (gc, .cells (cc c (.slice (some ⟨gt, 0, none⟩) M cap)).toArray 29) :: (C0 ++ K)))) (by exact HNx.out) ?_
 intro V1b hR
 have HR : Hid (Lg w V1b g (vnx n32 τ) W (Lq ++ ((gw, .cells #[.string ⟨#[114, 97, 116, 101]⟩, .int .i64 x2] 79) :: (gc, .cells (cc c (.slice (some ⟨gt, 0, none⟩) M cap)).toArray 29) :: (C0 ++ K)))) := hR
 clear hR HNx cc1 fr1 c0 c1
 have bd2 := nv_le (vnx n32 τ) 4294967295
 obtain ⟨y2, hx2⟩ : ∃ y, nv (val n32 (vnx n32 τ)) = y := ⟨_, rfl⟩
 have HE2 : Hid (nv (val n32 (vnx n32 τ)) = y2) := hx2
 rw [show nv (val (fun s => num s 4294967295) (vnx n32 τ)) = y2 from hx2] at bd2
 obtain ⟨bl2, bh2⟩ := bd2
 have C : Calls Tryz.prog 27 #[.pointer (some ⟨g, 0, none⟩), .int .u32 4294967295] V1b fun e V' => e = .returned (.int .u32 (nv (val n32 (vnx n32 τ)))) ∧ Lg w V' g (two2 n32 τ) W (Lq ++ ((gw, .cells #[.string ⟨#[114, 97, 116, 101]⟩, .int .i64 x2] 79) :: (gc, .cells (cc c (.slice (some ⟨gt, 0, none⟩) M cap)).toArray 29) :: (C0 ++ K))) := rlnum_any HR.out 4294967295 (by omega)
 rw [hx2] at C
 clear HR hx2
 go_wp2_with fail
 refine C.mono ?_
 rintro e V2 ⟨rfl, hR⟩
 obtain ⟨A2, R2, rfl, hlt2, hT2⟩ := tat_burst HT.out y2
 rw [HN.out] at hlt2 hT2
 obtain ⟨v0, cc2⟩ : ∃ v0, V2.cell? ⟨gt, n + 32, none⟩ = some v0 := ⟨_, (hR.cellK (i := 0) rfl (n + 32)).trans (Array.getElem?_eq_getElem hlt2)⟩
 have fr2 : ∀ j, V2.frozen? ⟨gt, j, none⟩ = false := hR.freeK (i := 0) rfl
 have hR2 := hR.set (i := 0) rfl (n + 32) (.int .u32 y2)
 obtain ⟨L2, hL2⟩ : ∃ L', (gt, Obj.cells (A2.setIfInBounds (n + 32) (.int .u32 y2)) 45) :: R2 = L' := ⟨_, rfl⟩
 rw [hL2] at hT2
 have HNx : Hid (Lg w (V2.setCell ⟨gt, n + 32, none⟩ (.int .u32 y2)) g (two2 n32 τ) W (L2 ++ ((gw, .cells #[.string ⟨#[114, 97, 116, 101]⟩, .int .i64 x2] 79) :: (gc, .cells (cc c (.slice (some ⟨gt, 0, none⟩) M cap)).toArray 29) :: (C0 ++ K)))) := by rw [← hL2]; exact hR2
 have HT' : Hid (TAt gt (zs.map zc).flatten post 45 { { t with rate := y1 } with burst := y2 } L2) := hT2
 clear HT hT2 hL2 hR2 hR C hlt2
 have HT := HT'
 clear HT'
 go_wp2_with fail
 go_end0
 exact ⟨rfl, rl_of HZ.out HM1.out (by rw [HE1.out, HE2.out]; exact HT.out) HNx.out⟩
end Go.Proofs.YtneciccdiledfaaGreatDoor
