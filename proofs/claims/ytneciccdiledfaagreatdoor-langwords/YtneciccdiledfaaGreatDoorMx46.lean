/-
  Settings as text: the document's Text, at all settings.
  The statements' seat of settings: its settings.
  Settings as text: the program's reader: a line behind the first, of a tenant or of none.
  Settings as text: the document's own reader of a line behind the first: no tenant yet, no such word.
-/
import Derived.Test.YtneciccdiledfaaGreatDoorMx40
import Derived.Test.YtneciccdiledfaaGreatDoorMx45
import Derived.BigQuiet
import Derived.Deep.CutBlock
import Derived.Deep.QuietTactic
import Derived.Test.YtneciccdiledfaaGreatDoorMx43
import Derived.Test.YtneciccdiledfaaGreatDoorMx35
import Derived.Deep.RegionHeld3
set_option linter.unusedVariables false
set_option linter.unusedSimpArgs false
set_option maxRecDepth 20000
namespace Go.Proofs.YtneciccdiledfaaGreatDoor
open Go.RowKit
open List (getElem_toArray getElem_cons_zero getElem_cons_succ setIfInBounds_toArray set_cons_zero set_cons_succ)
open La
open Ad
open Sm (IsBytes)
theorem rip_b (n : Int) (h : 0 ≤ n ∧ n ≤ 4294967295) (w : World) : Calls Tryz.prog 36 #[.int .u32 n] w fun e w' => e = .returned (.string ⟨(ipx n).toArray⟩) ∧ Below w.heap.size w w' :=
 (rip32 n h w).mono fun e w' ⟨a, b⟩ => ⟨a, b ▸ Below.refl _ _⟩
theorem rdec_b (n : Int) (h0 : 0 ≤ n) (h1 : n ≤ 18446744073709551615) (w : World) : Calls Tryz.prog 39 #[.int .u64 n] w fun e w' => e = .returned (.string ⟨(La.dec n).toArray⟩) ∧ Below w.heap.size w w' :=
 (rdecI n h0 h1 w).mono fun e w' ⟨a, b⟩ => ⟨a, b ▸ Below.refl _ _⟩
theorem rdecS_b (n : Int) (h0 : 0 ≤ n) (h1 : n ≤ 9223372036854775807) (w : World) : Calls Tryz.prog 40 #[.int .i64 n] w fun e w' => e = .returned (.string ⟨(La.dec n).toArray⟩) ∧ Below w.heap.size w w' :=
 (rdecS n h0 h1 w).mono fun e w' ⟨a, b⟩ => ⟨a, b ▸ Below.refl _ _⟩
theorem sz_of {s : ByteArray} {l : List UInt8} {n : Nat} (h : ⟨l.toArray⟩ = s) (hl : l.length ≤ n) : s.size ≤ n ∧ s.data.toList = l := by
 subst h; exact ⟨by rw [str_size]; exact hl, rfl⟩
theorem dec_sz (n : Int) (h : n ≤ 18446744073709551615) : (La.dec n).length ≤ 20 := dec_len64 _ (by omega)
theorem ipx_sz (n : Int) (h : 0 ≤ n ∧ n ≤ 4294967295) : (ipx n).length ≤ 15 := ipx_le ⟨h.1, by omega⟩
theorem sz_le {s : ByteArray} {l : List UInt8} {n : Nat} (h : s.data.toList = l) (hl : l.length ≤ n) : s.size ≤ n := by
 rw [← text_len, h]; exact hl
theorem str_is {s : ByteArray} {l : List UInt8} (h : s.data.toList = l) : Value.string s = .string ⟨l.toArray⟩ := by rw [str_of h]
theorem txtR_parts (t : Ten) : (txtR t).flatMap spc = (txtP t).flatMap spc ++ (spc [wPorts, La.dec t.lo, La.dec t.hi] ++ (spc [wFilter, fw t.filter] ++ ((txtS wStatic t.stat).flatMap spc ++ ((txtS wTwice t.twi).flatMap spc ++ (spc [wQuota, La.dec t.sess, La.dec t.queue] ++ spc [wRate, La.dec t.rate, La.dec t.burst]))))) := by
 simp [txtR, List.flatMap_append]
def pws (ps : List Int) (k : Nat) : List UInt8 := wPool ++ (ps.take k).flatMap (fun x => 32 :: ipx x)
theorem pws_end (ps : List Int) : pws ps ps.length ++ [10] = spc (wPool :: ps.map ipx) := by
 unfold pws spc
 rw [List.take_length]
 simp [Lib.join_cons]
 induction ps with
 | nil => rfl
 | cons x xs ih => simp [Lib.joinTail] at ih ⊢; exact ih
theorem pws_snoc (ps : List Int) (k : Nat) (x : Int) (h : ps[k]? = some x) : pws ps (k + 1) = pws ps k ++ (32 :: ipx x) := by
 unfold pws
 rw [List.take_add_one, h]; simp
set_option maxHeartbeats 32000000 in
theorem rtext_any {w : World} {v : Value} {c : Cgf} (h : CV w v c) (hi : CIn c) (hr : CRg c) (ht : ∀ t ∈ c.ten, TW t) (hn : c.ten.length ≤ 1000000) (hlen : (txt c).length ≤ 90000000) :
  Calls Tryz.prog 16 #[v] w fun e w' => e = .returned (.string ⟨(txt c).toArray⟩) ∧ Below w.heap.size w w' := by
 obtain ⟨hl, u, rfl, zs, hz, hrw, hq⟩ := h
 obtain ⟨g1, hg1⟩ : ∃ g1, w.heap.size = g1 := ⟨_, rfl⟩
 have hM0 : Mem w (w.alloc (.cells (cc c u).toArray 29)) [(g1, .cells (cc c u).toArray 29)] := (Mem.nil w).push1 hg1.symm
 obtain ⟨K1, hK1⟩ : ∃ K1, [(g1, Obj.cells (cc c u).toArray 29)] = K1 := ⟨_, rfl⟩
 have KS0 : ∀ X, Mem w X K1 → X.cell? ⟨g1, 0, none⟩ = some (.int .u32 c.ip) ∧ X.rangeAt g1 1 (u8s c.mac) ∧ X.rangeAt g1 7 (u8s c.omac) ∧ X.rangeAt g1 13 (u8s c.nmac) ∧ X.rangeAt g1 19 (u8s c.key) ∧ X.cell? ⟨g1, 27, none⟩ = some (.int .u32 c.drain) := by
  intro X hX
  rw [← hK1] at hX
  obtain ⟨a1, a2, a3, a4, a5, a6, -⟩ := cfg_box hl hX (List.mem_cons_self ..)
  exact ⟨a1, a2, a3, a4, a5, a6⟩
 obtain ⟨N, hN⟩ : ∃ N, c.ten.length = N := ⟨_, rfl⟩
 have hzl : zs.length = N := by rw [← hN, ← hz, List.length_map]
 obtain ⟨sa, sc, rfl, hrr⟩ := hrw
 have HK : Hid (∀ X, Mem w X K1 → X.cell? ⟨g1, 28, none⟩ = some (.slice sa N sc)) := by
  intro X hX
  rw [← hK1] at hX
  have := (cfg_box hl hX (List.mem_cons_self ..)).2.2.2.2.2.2
  rw [List.length_map, hzl] at this
  exact this
 have HR : Hid (∀ i, i < N → ∃ t p s q, c.ten[i]? = some t ∧ TW t ∧ (Rw w 1 p (ux t.pool) ∧ Rw w 2 s (px t.stat) ∧ Rw w 2 q (px t.twi)) ∧ TLen t ∧ (tc t p s q).toArray.size = 33 ∧ (tc t p s q).toArray.all (·.oneCell') = true ∧ ∀ X, Mem w X K1 → ∃ b off, sa = some ⟨b, off, none⟩ ∧ X.rangeAt b (off + i * 33) (tc t p s q)) := by
  intro i hiN
  obtain ⟨z, hx⟩ : ∃ z, zs[i]? = some z := ⟨_, List.getElem?_eq_getElem (by omega)⟩
  have hzm := hq z (List.mem_of_getElem? hx)
  have e1 : c.ten[i]? = some z.1 := by rw [← hz, List.getElem?_map, hx]; rfl
  refine ⟨z.1, z.2.1, z.2.2.1, z.2.2.2, e1, ht _ (List.mem_of_getElem? e1), hzm.2, hzm.1, by rw [List.size_toArray]; exact tc_len hzm.1 _ _ _, zc_one hzm.2, fun X hX => ?_⟩
  have hr2 : Rw X 33 (.slice sa (zs.map zc).length sc) (zs.map zc) := (show Rw w 33 (.slice sa (zs.map zc).length sc) (zs.map zc) from ⟨sa, sc, rfl, hrr⟩).below zc_ne hX.below (Nat.le_refl _)
  obtain ⟨b, off, e2, hc⟩ := rw_at hr2 i (by rw [List.length_map]; omega)
  refine ⟨b, off, e2, fun j v hj => ?_⟩
  refine hc j v ?_
  have : (zs.map zc).getD i [] = zc z := by simp [List.getD, hx]
  rw [this]; exact hj
 rw [List.length_map, hzl] at hM0 hK1 ⊢
 have HS : Hid (∀ i t, c.ten[i]? = some t → spc (txtG c) ++ ((c.ten.take (i + 1)).flatMap txtT).flatMap spc = ((spc (txtG c) ++ ((c.ten.take i).flatMap txtT).flatMap spc) ++ spc (txtH t)) ++ (txtR t).flatMap spc) := fun i t hh => txt_app c i t hh
 have HLe : Hid (∀ i, (spc (txtG c) ++ ((c.ten.take i).flatMap txtT).flatMap spc).length ≤ 90000000) := fun i => by have := txt_part c i; omega
 have HW : Hid (spc (txtG c) ++ ((c.ten.take N).flatMap txtT).flatMap spc = txt c) := by rw [← hN]; exact txt_whole c
 have HG : Hid (spc (txtG c) = spc (txtG c) ++ ((c.ten.take 0).flatMap txtT).flatMap spc) := by show _ = _; simp
 generalize hFF : (fun i => spc (txtG c) ++ ((c.ten.take i).flatMap txtT).flatMap spc) = F at *
 have hFi : ∀ i, spc (txtG c) ++ ((c.ten.take i).flatMap txtT).flatMap spc = F i := fun i => by rw [← hFF]
 simp only [hFi] at HS HLe HW HG
 rw [hK1] at hM0
 have C1 := fun (X : World) => rip_b c.ip hr.ip X
 have C2 : ∀ X : World, Calls Tryz.prog 37 #[.agg (u8s c.mac).toArray] X fun e w' => e = .returned (.string ⟨(mact c.mac).toArray⟩) ∧ Below X.heap.size X w' := fun (X : World) => rmact_any X c.mac hi.len.mac hi.mac
 have C3 : ∀ X : World, Calls Tryz.prog 37 #[.agg (u8s c.omac).toArray] X fun e w' => e = .returned (.string ⟨(mact c.omac).toArray⟩) ∧ Below X.heap.size X w' := fun (X : World) => rmact_any X c.omac hi.len.omac hi.omac
 have C4 : ∀ X : World, Calls Tryz.prog 37 #[.agg (u8s c.nmac).toArray] X fun e w' => e = .returned (.string ⟨(mact c.nmac).toArray⟩) ∧ Below X.heap.size X w' := fun (X : World) => rmact_any X c.nmac hi.len.nmac hi.nmac
 have C5 : ∀ X : World, Calls Tryz.prog 38 #[.agg (u8s c.key).toArray] X fun e w' => e = .returned (.string ⟨(keyt c.key).toArray⟩) ∧ Below X.heap.size X w' := fun (X : World) => rkeyt_any X c.key hi.len.key hi.key
 have C6 := fun (X : World) => rdec_b c.drain hr.drain.1 (by have := hr.drain; omega) X
 have i2 : (Tryz.prog.info? 25).map (·.size) = some (u8s c.mac).length := by rw [List.length_map, hi.len.mac]; kernel_rfl
 have i3 : (Tryz.prog.info? 25).map (·.size) = some (u8s c.omac).length := by rw [List.length_map, hi.len.omac]; kernel_rfl
 have i4 : (Tryz.prog.info? 25).map (·.size) = some (u8s c.nmac).length := by rw [List.length_map, hi.len.nmac]; kernel_rfl
 have i5 : (Tryz.prog.info? 26).map (·.size) = some (u8s c.key).length := by rw [List.length_map, hi.len.key]; kernel_rfl
 have u6 : IntKind.u64.wrap c.drain = c.drain := wrap64u (by have := hr.drain; omega) (by have := hr.drain; omega)
 obtain ⟨s1, hs1⟩ : ∃ s : ByteArray, ⟨(ipx c.ip).toArray⟩ = s := ⟨_, rfl⟩
 obtain ⟨s2, hs2⟩ : ∃ s : ByteArray, ⟨(mact c.mac).toArray⟩ = s := ⟨_, rfl⟩
 obtain ⟨s3, hs3⟩ : ∃ s : ByteArray, ⟨(mact c.omac).toArray⟩ = s := ⟨_, rfl⟩
 obtain ⟨s4, hs4⟩ : ∃ s : ByteArray, ⟨(mact c.nmac).toArray⟩ = s := ⟨_, rfl⟩
 obtain ⟨s5, hs5⟩ : ∃ s : ByteArray, ⟨(keyt c.key).toArray⟩ = s := ⟨_, rfl⟩
 obtain ⟨s6, hs6⟩ : ∃ s : ByteArray, ⟨(La.dec c.drain).toArray⟩ = s := ⟨_, rfl⟩
 simp only [hs1] at C1
 simp only [hs2] at C2
 simp only [hs3] at C3
 simp only [hs4] at C4
 simp only [hs5] at C5
 simp only [hs6] at C6
 have x1 := sz_of hs1 (ipx_sz c.ip hr.ip)
 have x2 := sz_of hs2 (mact_len c.mac (by rw [hi.len.mac]; decide))
 have x3 := sz_of hs3 (mact_len c.omac (by rw [hi.len.omac]; decide))
 have x4 := sz_of hs4 (mact_len c.nmac (by rw [hi.len.nmac]; decide))
 have x5 := sz_of (n := 16) hs5 (by rw [keyt_len, hi.len.key]; decide)
 have x6 := sz_of hs6 (dec_sz c.drain (by have := hr.drain; omega))
 obtain ⟨A1, Ad1, Az1, Aq1⟩ := add_step ⟨#[103, 97, 116, 101, 119, 97, 121, 32]⟩ s1 8 15 (by decide) x1.1 (by decide)
 obtain ⟨A2, Ad2, Az2, Aq2⟩ := add_step A1 ⟨#[32]⟩ 23 1 Az1 (by decide) (by decide)
 obtain ⟨A3, Ad3, Az3, Aq3⟩ := add_step A2 s2 24 808 Az2 x2.1 (by decide)
 obtain ⟨A4, Ad4, Az4, Aq4⟩ := add_step A3 ⟨#[32]⟩ 832 1 Az3 (by decide) (by decide)
 obtain ⟨A5, Ad5, Az5, Aq5⟩ := add_step A4 s3 833 808 Az4 x3.1 (by decide)
 obtain ⟨A6, Ad6, Az6, Aq6⟩ := add_step A5 ⟨#[32]⟩ 1641 1 Az5 (by decide) (by decide)
 obtain ⟨A7, Ad7, Az7, Aq7⟩ := add_step A6 s4 1642 808 Az6 x4.1 (by decide)
 obtain ⟨A8, Ad8, Az8, Aq8⟩ := add_step A7 ⟨#[32]⟩ 2450 1 Az7 (by decide) (by decide)
 obtain ⟨A9, Ad9, Az9, Aq9⟩ := add_step A8 s5 2451 16 Az8 x5.1 (by decide)
 obtain ⟨A10, Ad10, Az10, Aq10⟩ := add_step A9 ⟨#[32, 100, 114, 97, 105, 110, 32]⟩ 2467 7 Az9 (by decide) (by decide)
 obtain ⟨A11, Ad11, Az11, Aq11⟩ := add_step A10 s6 2474 20 Az10 x6.1 (by decide)
 obtain ⟨A12, Ad12, Az12, Aq12⟩ := add_step A11 ⟨#[10]⟩ 2494 1 Az11 (by decide) (by decide)
 have HA : Hid (A12.data.toList = F 0) := by
  show A12.data.toList = F 0
  rw [← HG.out, Ad12, Ad11, Ad10, Ad9, Ad8, Ad7, Ad6, Ad5, Ad4, Ad3, Ad2, Ad1, x1.2, x2.2, x3.2, x4.2, x5.2, x6.2]
  simp [spc, Lib.join_cons, Lib.joinTail, Lib.join, wGateway, wDrain, wTenant, wVni, wKey, wVtep, wHost, wPool, wPorts, wFilter, wStatic, wTwice, wQuota, wRate, txtG, txtH]
 clear Ad1 Az1 Ad2 Az2 Ad3 Az3 Ad4 Az4 Ad5 Az5 Ad6 Az6 Ad7 Az7 Ad8 Az8 Ad9 Az9 Ad10 Az10 Ad11 Az11 Ad12 Az12 x1 x2 x3 x4 x5 x6 hs1 hs2 hs3 hs4 hs5 hs6 HG
 have HN : Hid (N ≤ 1000000) := by rw [← hN]; exact hn
 generalize hT : txt c = T at *
 generalize c.ten = ct at *
 obtain ⟨A, hA⟩ : ∃ A, (cc c (.slice sa N sc)).toArray = A := ⟨_, rfl⟩
 rw [hA] at hM0 ⊢
 clear hFF hFi hi hr ht hN hn hlen hz hq hrr hzl hl hK1 hT hA
 generalize c.ip = n1 at *
 generalize c.drain = n6 at *
 generalize u8s c.mac = m2 at *
 generalize u8s c.omac = m3 at *
 generalize u8s c.nmac = m4 at *
 generalize u8s c.key = m5 at *
 have KS : Hid (∀ X, Mem w X K1 → X.cell? ⟨g1, 0, none⟩ = some (.int .u32 n1) ∧ X.rangeAt g1 1 m2 ∧ X.rangeAt g1 7 m3 ∧ X.rangeAt g1 13 m4 ∧ X.rangeAt g1 19 m5 ∧ X.cell? ⟨g1, 27, none⟩ = some (.int .u32 n6)) := KS0
 have HP : Hid (Mem w (w.alloc (.cells A 29)) K1) := hM0
 clear KS0 hM0
 go_enter Tryz.func16, Tryz.ntmps16
 go_upto_region 1 with fail
 refine wp_letter (fun X => Mem w X K1) (by exact HP.out) ?_
 intro V0 hR
 try simp only [hg1]
 clear HP hg1
 have HB0 : Hid (Mem w V0.drew K1) := hR.after ((Below.refl _ _).drew)
 clear hR
 refine wp_region_held_drew (S := fun X => X.cell? ⟨g1, 0, none⟩ = some (.int .u32 n1) ∧ X.rangeAt g1 1 m2 ∧ X.rangeAt g1 7 m3 ∧ X.rangeAt g1 13 m4 ∧ X.rangeAt g1 19 m5 ∧ X.cell? ⟨g1, 27, none⟩ = some (.int .u32 n6)) (by kernel_rfl) (KS.out _ HB0.out) (fun hHeld => ?_)
 refine wpAnyH_take (i := 0) (v := ?_) rfl (by kernel_rfl) (by kernel_rfl) (by kernel_rfl) (fun _ _ _ h => h) (Or.inl ⟨by rfl, ?qy0⟩) (by assumption) ?qr0
 case qy0 => intro w hSw; (try dsimp only at hSw); go_simp; all_goals with_reducible rfl
 try simp only [getElem_toArray, getElem_cons_zero, getElem_cons_succ, Act.put, setIfInBounds_toArray, set_cons_zero, set_cons_succ]
 refine wpAnyH_take (i := 1) (v := ?_) rfl (by kernel_rfl) (by kernel_rfl) (by kernel_rfl) (fun _ _ _ h => h) (Or.inl ⟨by rfl, ?qy1⟩) (by assumption) ?qr1
 case qy1 => intro w hSw; (try dsimp only at hSw); go_simp; all_goals with_reducible rfl
 try simp only [getElem_toArray, getElem_cons_zero, getElem_cons_succ, Act.put, setIfInBounds_toArray, set_cons_zero, set_cons_succ]
 refine wpAnyH_take (i := 5) (v := ?_) rfl (by kernel_rfl) (by kernel_rfl) (by kernel_rfl) (fun _ _ _ h => h) (Or.inl ⟨by rfl, ?qy5⟩) (by assumption) ?qr5
 case qy5 => intro w hSw; (try dsimp only at hSw); go_simp; all_goals with_reducible rfl
 try simp only [getElem_toArray, getElem_cons_zero, getElem_cons_succ, Act.put, setIfInBounds_toArray, set_cons_zero, set_cons_succ]
 refine wpAnyH_take (i := 6) (v := _) rfl (by kernel_rfl) (by kernel_rfl) (by kernel_rfl) (fun _ _ _ h => h) (yieldsIf_load_mid (by rfl) _ _ rfl _ _ rfl _ _ ?qs6 Tryz.underlying25 rfl i2) (by assumption) ?qr6
 case qs6 =>
  intro w hSw
  (try dsimp only at hSw)
  go_split_ands
  assumption
 try simp only [getElem_toArray, getElem_cons_zero, getElem_cons_succ, Act.put, setIfInBounds_toArray, set_cons_zero, set_cons_succ]
 refine wpAnyH_take (i := 10) (v := ?_) rfl (by kernel_rfl) (by kernel_rfl) (by kernel_rfl) (fun _ _ _ h => h) (Or.inl ⟨by rfl, ?qy10⟩) (by assumption) ?qr10
 case qy10 => intro w hSw; (try dsimp only at hSw); go_simp; all_goals with_reducible rfl
 try simp only [getElem_toArray, getElem_cons_zero, getElem_cons_succ, Act.put, setIfInBounds_toArray, set_cons_zero, set_cons_succ]
 refine wpAnyH_take (i := 11) (v := _) rfl (by kernel_rfl) (by kernel_rfl) (by kernel_rfl) (fun _ _ _ h => h) (yieldsIf_load_mid (by rfl) _ _ rfl _ _ rfl _ _ ?qs11 Tryz.underlying25 rfl i3) (by assumption) ?qr11
 case qs11 =>
  intro w hSw
  (try dsimp only at hSw)
  go_split_ands
  assumption
 try simp only [getElem_toArray, getElem_cons_zero, getElem_cons_succ, Act.put, setIfInBounds_toArray, set_cons_zero, set_cons_succ]
 refine wpAnyH_take (i := 15) (v := ?_) rfl (by kernel_rfl) (by kernel_rfl) (by kernel_rfl) (fun _ _ _ h => h) (Or.inl ⟨by rfl, ?qy15⟩) (by assumption) ?qr15
 case qy15 => intro w hSw; (try dsimp only at hSw); go_simp; all_goals with_reducible rfl
 try simp only [getElem_toArray, getElem_cons_zero, getElem_cons_succ, Act.put, setIfInBounds_toArray, set_cons_zero, set_cons_succ]
 refine wpAnyH_take (i := 16) (v := _) rfl (by kernel_rfl) (by kernel_rfl) (by kernel_rfl) (fun _ _ _ h => h) (yieldsIf_load_mid (by rfl) _ _ rfl _ _ rfl _ _ ?qs16 Tryz.underlying25 rfl i4) (by assumption) ?qr16
 case qs16 =>
  intro w hSw
  (try dsimp only at hSw)
  go_split_ands
  assumption
 try simp only [getElem_toArray, getElem_cons_zero, getElem_cons_succ, Act.put, setIfInBounds_toArray, set_cons_zero, set_cons_succ]
 refine wpAnyH_take (i := 20) (v := ?_) rfl (by kernel_rfl) (by kernel_rfl) (by kernel_rfl) (fun _ _ _ h => h) (Or.inl ⟨by rfl, ?qy20⟩) (by assumption) ?qr20
 case qy20 => intro w hSw; (try dsimp only at hSw); go_simp; all_goals with_reducible rfl
 try simp only [getElem_toArray, getElem_cons_zero, getElem_cons_succ, Act.put, setIfInBounds_toArray, set_cons_zero, set_cons_succ]
 refine wpAnyH_take (i := 21) (v := _) rfl (by kernel_rfl) (by kernel_rfl) (by kernel_rfl) (fun _ _ _ h => h) (yieldsIf_load_mid (by rfl) _ _ rfl _ _ rfl _ _ ?qs21 Tryz.underlying26 rfl i5) (by assumption) ?qr21
 case qs21 =>
  intro w hSw
  (try dsimp only at hSw)
  go_split_ands
  assumption
 try simp only [getElem_toArray, getElem_cons_zero, getElem_cons_succ, Act.put, setIfInBounds_toArray, set_cons_zero, set_cons_succ]
 refine wpAnyH_take (i := 25) (v := ?_) rfl (by kernel_rfl) (by kernel_rfl) (by kernel_rfl) (fun _ _ _ h => h) (Or.inl ⟨by rfl, ?qy25⟩) (by assumption) ?qr25
 case qy25 => intro w hSw; (try dsimp only at hSw); go_simp; all_goals with_reducible rfl
 try simp only [getElem_toArray, getElem_cons_zero, getElem_cons_succ, Act.put, setIfInBounds_toArray, set_cons_zero, set_cons_succ]
 refine wpAnyH_take (i := 26) (v := ?_) rfl (by kernel_rfl) (by kernel_rfl) (by kernel_rfl) (fun _ _ _ h => h) (Or.inl ⟨by rfl, ?qy26⟩) (by assumption) ?qr26
 case qy26 => intro w hSw; (try dsimp only at hSw); go_simp; all_goals with_reducible rfl
 try simp only [getElem_toArray, getElem_cons_zero, getElem_cons_succ, Act.put, setIfInBounds_toArray, set_cons_zero, set_cons_succ]
 refine wpAnyH_take (i := 27) (v := ?_) rfl (by kernel_rfl) (by kernel_rfl) (by kernel_rfl) (fun _ _ _ h => h) (Or.inl ⟨by rfl, ?qy27⟩) (by assumption) ?qr27
 case qy27 => intro w hSw; (try dsimp only at hSw); go_simp; all_goals with_reducible rfl
 try simp only [getElem_toArray, getElem_cons_zero, getElem_cons_succ, Act.put, setIfInBounds_toArray, set_cons_zero, set_cons_succ]
 refine wpAnyH_ready (rs := [2]) (by kernel_rfl) (by simp) ?_
 refine AllReadyH.cons rfl (fun K hK => ?_) AllReadyH.nil
 go_simp
 with_reducible refine (C1 _).mono ?_
 rintro e W1 ⟨rfl, hb1⟩
 try go_wp2_with fail
 refine hK.out _ _ (KS.out _ (HB0.out.after hb1)) (fun hHeld => ?_)
 clear hK K
 try simp only [getElem_toArray, getElem_cons_zero, getElem_cons_succ, Act.put, setIfInBounds_toArray, set_cons_zero, set_cons_succ]
 refine wpAnyH_take (i := 3) (v := ?_) rfl (by kernel_rfl) (by kernel_rfl) (by kernel_rfl) (fun _ _ _ h => h) (Or.inl ⟨by rfl, ?qy3⟩) (by assumption) ?qr3
 case qy3 => intro w hSw; (try dsimp only at hSw); go_simp; all_goals with_reducible rfl
 try simp only [getElem_toArray, getElem_cons_zero, getElem_cons_succ, Act.put, setIfInBounds_toArray, set_cons_zero, set_cons_succ]
 refine wpAnyH_take (i := 4) (v := ?_) rfl (by kernel_rfl) (by kernel_rfl) (by kernel_rfl) (fun _ _ _ h => h) (Or.inl ⟨by rfl, ?qy4⟩) (by assumption) ?qr4
 case qy4 => intro w hSw; (try dsimp only at hSw); go_simp; all_goals with_reducible rfl
 try simp only [getElem_toArray, getElem_cons_zero, getElem_cons_succ, Act.put, setIfInBounds_toArray, set_cons_zero, set_cons_succ]
 refine wpAnyH_ready (rs := [7]) (by kernel_rfl) (by simp) ?_
 refine AllReadyH.cons rfl (fun K hK => ?_) AllReadyH.nil
 go_simp
 with_reducible refine (C2 _).mono ?_
 rintro e W2 ⟨rfl, hb2⟩
 try go_wp2_with fail
 refine hK.out _ _ (KS.out _ ((HB0.out.after hb1).after hb2)) (fun hHeld => ?_)
 clear hK K
 try simp only [getElem_toArray, getElem_cons_zero, getElem_cons_succ, Act.put, setIfInBounds_toArray, set_cons_zero, set_cons_succ]
 refine wpAnyH_take (i := 8) (v := ?_) rfl (by kernel_rfl) (by kernel_rfl) (by kernel_rfl) (fun _ _ _ h => h) (Or.inl ⟨by rfl, ?qy8⟩) (by assumption) ?qr8
 case qy8 => intro w hSw; (try dsimp only at hSw); go_simp; all_goals with_reducible rfl
 try simp only [getElem_toArray, getElem_cons_zero, getElem_cons_succ, Act.put, setIfInBounds_toArray, set_cons_zero, set_cons_succ]
 refine wpAnyH_take (i := 9) (v := ?_) rfl (by kernel_rfl) (by kernel_rfl) (by kernel_rfl) (fun _ _ _ h => h) (Or.inl ⟨by rfl, ?qy9⟩) (by assumption) ?qr9
 case qy9 => intro w hSw; (try dsimp only at hSw); go_simp; all_goals with_reducible rfl
 try simp only [getElem_toArray, getElem_cons_zero, getElem_cons_succ, Act.put, setIfInBounds_toArray, set_cons_zero, set_cons_succ]
 refine wpAnyH_ready (rs := [12]) (by kernel_rfl) (by simp) ?_
 refine AllReadyH.cons rfl (fun K hK => ?_) AllReadyH.nil
 go_simp
 with_reducible refine (C3 _).mono ?_
 rintro e W3 ⟨rfl, hb3⟩
 try go_wp2_with fail
 refine hK.out _ _ (KS.out _ (((HB0.out.after hb1).after hb2).after hb3)) (fun hHeld => ?_)
 clear hK K
 try simp only [getElem_toArray, getElem_cons_zero, getElem_cons_succ, Act.put, setIfInBounds_toArray, set_cons_zero, set_cons_succ]
 refine wpAnyH_take (i := 13) (v := ?_) rfl (by kernel_rfl) (by kernel_rfl) (by kernel_rfl) (fun _ _ _ h => h) (Or.inl ⟨by rfl, ?qy13⟩) (by assumption) ?qr13
 case qy13 => intro w hSw; (try dsimp only at hSw); go_simp; all_goals with_reducible rfl
 try simp only [getElem_toArray, getElem_cons_zero, getElem_cons_succ, Act.put, setIfInBounds_toArray, set_cons_zero, set_cons_succ]
 refine wpAnyH_take (i := 14) (v := ?_) rfl (by kernel_rfl) (by kernel_rfl) (by kernel_rfl) (fun _ _ _ h => h) (Or.inl ⟨by rfl, ?qy14⟩) (by assumption) ?qr14
 case qy14 => intro w hSw; (try dsimp only at hSw); go_simp; all_goals with_reducible rfl
 try simp only [getElem_toArray, getElem_cons_zero, getElem_cons_succ, Act.put, setIfInBounds_toArray, set_cons_zero, set_cons_succ]
 refine wpAnyH_ready (rs := [17]) (by kernel_rfl) (by simp) ?_
 refine AllReadyH.cons rfl (fun K hK => ?_) AllReadyH.nil
 go_simp
 with_reducible refine (C4 _).mono ?_
 rintro e W4 ⟨rfl, hb4⟩
 try go_wp2_with fail
 refine hK.out _ _ (KS.out _ ((((HB0.out.after hb1).after hb2).after hb3).after hb4)) (fun hHeld => ?_)
 clear hK K
 try simp only [getElem_toArray, getElem_cons_zero, getElem_cons_succ, Act.put, setIfInBounds_toArray, set_cons_zero, set_cons_succ]
 refine wpAnyH_take (i := 18) (v := ?_) rfl (by kernel_rfl) (by kernel_rfl) (by kernel_rfl) (fun _ _ _ h => h) (Or.inl ⟨by rfl, ?qy18⟩) (by assumption) ?qr18
 case qy18 => intro w hSw; (try dsimp only at hSw); go_simp; all_goals with_reducible rfl
 try simp only [getElem_toArray, getElem_cons_zero, getElem_cons_succ, Act.put, setIfInBounds_toArray, set_cons_zero, set_cons_succ]
 refine wpAnyH_take (i := 19) (v := ?_) rfl (by kernel_rfl) (by kernel_rfl) (by kernel_rfl) (fun _ _ _ h => h) (Or.inl ⟨by rfl, ?qy19⟩) (by assumption) ?qr19
 case qy19 => intro w hSw; (try dsimp only at hSw); go_simp; all_goals with_reducible rfl
 try simp only [getElem_toArray, getElem_cons_zero, getElem_cons_succ, Act.put, setIfInBounds_toArray, set_cons_zero, set_cons_succ]
 refine wpAnyH_ready (rs := [22]) (by kernel_rfl) (by simp) ?_
 refine AllReadyH.cons rfl (fun K hK => ?_) AllReadyH.nil
 go_simp
 with_reducible refine (C5 _).mono ?_
 rintro e W5 ⟨rfl, hb5⟩
 try go_wp2_with fail
 refine hK.out _ _ (KS.out _ (((((HB0.out.after hb1).after hb2).after hb3).after hb4).after hb5)) (fun hHeld => ?_)
 clear hK K
 try simp only [getElem_toArray, getElem_cons_zero, getElem_cons_succ, Act.put, setIfInBounds_toArray, set_cons_zero, set_cons_succ]
 refine wpAnyH_take (i := 23) (v := ?_) rfl (by kernel_rfl) (by kernel_rfl) (by kernel_rfl) (fun _ _ _ h => h) (Or.inl ⟨by rfl, ?qy23⟩) (by assumption) ?qr23
 case qy23 => intro w hSw; (try dsimp only at hSw); go_simp; all_goals with_reducible rfl
 try simp only [getElem_toArray, getElem_cons_zero, getElem_cons_succ, Act.put, setIfInBounds_toArray, set_cons_zero, set_cons_succ]
 refine wpAnyH_take (i := 24) (v := ?_) rfl (by kernel_rfl) (by kernel_rfl) (by kernel_rfl) (fun _ _ _ h => h) (Or.inl ⟨by rfl, ?qy24⟩) (by assumption) ?qr24
 case qy24 => intro w hSw; (try dsimp only at hSw); go_simp; all_goals with_reducible rfl
 try simp only [getElem_toArray, getElem_cons_zero, getElem_cons_succ, Act.put, setIfInBounds_toArray, set_cons_zero, set_cons_succ]
 refine wpAnyH_ready (rs := [28]) (by kernel_rfl) (by simp) ?_
 refine AllReadyH.cons rfl (fun K hK => ?_) AllReadyH.nil
 go_simp
 with_reducible refine (C6 _).mono ?_
 rintro e W6 ⟨rfl, hb6⟩
 try go_wp2_with fail
 refine hK.out _ _ (KS.out _ ((((((HB0.out.after hb1).after hb2).after hb3).after hb4).after hb5).after hb6)) (fun hHeld => ?_)
 clear hK K
 try simp only [getElem_toArray, getElem_cons_zero, getElem_cons_succ, Act.put, setIfInBounds_toArray, set_cons_zero, set_cons_succ]
 refine wpAnyH_take (i := 29) (v := ?_) rfl (by kernel_rfl) (by kernel_rfl) (by kernel_rfl) (fun _ _ _ h => h) (Or.inl ⟨by rfl, ?qy29⟩) (by assumption) ?qr29
 case qy29 => intro w hSw; (try dsimp only at hSw); go_simp; all_goals with_reducible rfl
 try simp only [getElem_toArray, getElem_cons_zero, getElem_cons_succ, Act.put, setIfInBounds_toArray, set_cons_zero, set_cons_succ]
 refine wpAnyH_take (i := 30) (v := ?_) rfl (by kernel_rfl) (by kernel_rfl) (by kernel_rfl) (fun _ _ _ h => h) (Or.inl ⟨by rfl, ?qy30⟩) (by assumption) ?qr30
 case qy30 => intro w hSw; (try dsimp only at hSw); go_simp; all_goals with_reducible rfl
 try simp only [getElem_toArray, getElem_cons_zero, getElem_cons_succ, Act.put, setIfInBounds_toArray, set_cons_zero, set_cons_succ]
 refine wpAnyH_take (i := 31) (v := ?_) rfl (by kernel_rfl) (by kernel_rfl) (by kernel_rfl) (fun _ _ _ h => h) (Or.inl ⟨by rfl, ?qy31⟩) (by assumption) ?qr31
 case qy31 => intro w hSw; (try dsimp only at hSw); go_simp; all_goals with_reducible rfl
 try simp only [getElem_toArray, getElem_cons_zero, getElem_cons_succ, Act.put, setIfInBounds_toArray, set_cons_zero, set_cons_succ]
 refine wpAnyH_done (by kernel_rfl) ?_ _
 have HB6 : Hid (Mem w W6 K1) := ((((((HB0.out.after hb1).after hb2).after hb3).after hb4).after hb5).after hb6)
 clear hHeld hb1 hb2 hb3 hb4 hb5 hb6 C1 C2 C3 C4 C5 C6 i2 i3 i4 i5 u6 KS Aq1 Aq2 Aq3 Aq4 Aq5 Aq6 Aq7 Aq8 Aq9 Aq10 Aq11 Aq12
 go_wp2_with fail
 go_loopw [3, 4] (fun o ii w' => ∃ (i : Nat) (O : ByteArray), i ≤ N ∧ ii = .int .i64 i ∧ o = .string O ∧ Hid (O.data.toList = F i ∧ Mem w w' K1)) (fun _ ii _ => N - (intOf ii).toNat)
 case atStart => exact ⟨0, A12, Nat.zero_le _, rfl, rfl, HA.out, HB6.out⟩
 case round =>
  obtain ⟨i, O, hi, rfl, rfl, HX⟩ := hrel
  clear HA HB6
  have c28 := HK.out _ HX.out.2
  by_cases hlt : i < N
  ·have h1 : (i : Int) < N := by omega
   have e7 : IntKind.i64.wrap ((i : Int) + 1) = (i : Int) + 1 := by have := HN.out; exact wrap64 (by omega) (by omega)
   obtain ⟨t, p, s, q, et, tw, ⟨rp, rs, rq⟩, tl, tsz, tone, hra⟩ := HR.out i hlt
   obtain ⟨b, off, rfl, hrg⟩ := hra _ HX.out.2
   have hsn := HS.out i t et
   have hln := HLe.out (i + 1)
   rw [txtR_parts] at hsn
   obtain ⟨L1, hL1⟩ : ∃ L, F i ++ spc (txtH t) = L := ⟨_, rfl⟩
   obtain ⟨L2, hL2⟩ : ∃ L, L1 ++ (txtP t).flatMap spc = L := ⟨_, rfl⟩
   obtain ⟨L3, hL3⟩ : ∃ L, L2 ++ spc [wPorts, La.dec t.lo, La.dec t.hi] = L := ⟨_, rfl⟩
   obtain ⟨L4, hL4⟩ : ∃ L, L3 ++ spc [wFilter, fw t.filter] = L := ⟨_, rfl⟩
   obtain ⟨L5, hL5⟩ : ∃ L, L4 ++ (txtS wStatic t.stat).flatMap spc = L := ⟨_, rfl⟩
   obtain ⟨L6, hL6⟩ : ∃ L, L5 ++ (txtS wTwice t.twi).flatMap spc = L := ⟨_, rfl⟩
   have hL7 : L6 ++ (spc [wQuota, La.dec t.sess, La.dec t.queue] ++ spc [wRate, La.dec t.rate, La.dec t.burst]) = F (i + 1) := by
    rw [hsn, ← hL6, ← hL5, ← hL4, ← hL3, ← hL2, ← hL1]; simp only [List.append_assoc]
   have HLL : Hid ((F i).length ≤ 90000000 ∧ L1.length ≤ 90000000 ∧ L2.length ≤ 90000000 ∧ L3.length ≤ 90000000 ∧ L4.length ≤ 90000000 ∧ L5.length ≤ 90000000 ∧ L6.length ≤ 90000000) := by
    have a1 := congrArg List.length hL1
    have a2 := congrArg List.length hL2
    have a3 := congrArg List.length hL3
    have a4 := congrArg List.length hL4
    have a5 := congrArg List.length hL5
    have a6 := congrArg List.length hL6
    have a7 := congrArg List.length hL7
    rw [List.length_append] at a1 a2 a3 a4 a5 a6 a7
    show _ ∧ _
    omega
   have hO := sz_le HX.out.1 HLL.out.1
   have hOd := HX.out.1
   have hnm : t.name.size ≤ 1000000 := tw.inn.name
   have C1 := fun (X : World) => rdec_b t.vni tw.rg.vni.1 (by have := tw.rg.vni; omega) X
   have C2 : ∀ X : World, Calls Tryz.prog 38 #[.agg (u8s t.key).toArray] X fun e w' => e = .returned (.string ⟨(keyt t.key).toArray⟩) ∧ Below X.heap.size X w' := fun (X : World) => rkeyt_any X t.key tl.key tw.inn.key
   have C3 := fun (X : World) => rip_b t.vtep tw.rg.vtep X
   have C4 : ∀ X : World, Calls Tryz.prog 37 #[.agg (u8s t.vmac).toArray] X fun e w' => e = .returned (.string ⟨(mact t.vmac).toArray⟩) ∧ Below X.heap.size X w' := fun (X : World) => rmact_any X t.vmac tl.vmac tw.inn.vmac
   have C5 : ∀ X : World, Calls Tryz.prog 37 #[.agg (u8s t.host).toArray] X fun e w' => e = .returned (.string ⟨(mact t.host).toArray⟩) ∧ Below X.heap.size X w' := fun (X : World) => rmact_any X t.host tl.host tw.inn.host
   have i2 : (Tryz.prog.info? 26).map (·.size) = some (u8s t.key).length := by rw [List.length_map, tl.key]; kernel_rfl
   have i4 : (Tryz.prog.info? 25).map (·.size) = some (u8s t.vmac).length := by rw [List.length_map, tl.vmac]; kernel_rfl
   have i5 : (Tryz.prog.info? 25).map (·.size) = some (u8s t.host).length := by rw [List.length_map, tl.host]; kernel_rfl
   have u1 : IntKind.u64.wrap t.vni = t.vni := wrap64u (by have := tw.rg.vni; omega) (by have := tw.rg.vni; omega)
   obtain ⟨s1, hs1⟩ : ∃ s : ByteArray, ⟨(La.dec t.vni).toArray⟩ = s := ⟨_, rfl⟩
   obtain ⟨s2, hs2⟩ : ∃ s : ByteArray, ⟨(keyt t.key).toArray⟩ = s := ⟨_, rfl⟩
   obtain ⟨s3, hs3⟩ : ∃ s : ByteArray, ⟨(ipx t.vtep).toArray⟩ = s := ⟨_, rfl⟩
   obtain ⟨s4, hs4⟩ : ∃ s : ByteArray, ⟨(mact t.vmac).toArray⟩ = s := ⟨_, rfl⟩
   obtain ⟨s5, hs5⟩ : ∃ s : ByteArray, ⟨(mact t.host).toArray⟩ = s := ⟨_, rfl⟩
   simp only [hs1] at C1
   simp only [hs2] at C2
   simp only [hs3] at C3
   simp only [hs4] at C4
   simp only [hs5] at C5
   have x1 := sz_of hs1 (dec_sz t.vni (by have := tw.rg.vni; omega))
   have x2 := sz_of (n := 16) hs2 (by rw [keyt_len, tl.key]; decide)
   have x3 := sz_of hs3 (ipx_sz t.vtep tw.rg.vtep)
   have x4 := sz_of hs4 (mact_len t.vmac (by rw [tl.vmac]; decide))
   have x5 := sz_of hs5 (mact_len t.host (by rw [tl.host]; decide))
   obtain ⟨B1, Bd1, Bz1, Bq1⟩ := add_step O ⟨#[116, 101, 110, 97, 110, 116, 32]⟩ 90000000 7 hO (by decide) (by decide)
   obtain ⟨B2, Bd2, Bz2, Bq2⟩ := add_step B1 t.name 90000007 1000000 Bz1 hnm (by decide)
   obtain ⟨B3, Bd3, Bz3, Bq3⟩ := add_step B2 ⟨#[32, 118, 110, 105, 32]⟩ 91000007 5 Bz2 (by decide) (by decide)
   obtain ⟨B4, Bd4, Bz4, Bq4⟩ := add_step B3 s1 91000012 20 Bz3 x1.1 (by decide)
   obtain ⟨B5, Bd5, Bz5, Bq5⟩ := add_step B4 ⟨#[32, 107, 101, 121, 32]⟩ 91000032 5 Bz4 (by decide) (by decide)
   obtain ⟨B6, Bd6, Bz6, Bq6⟩ := add_step B5 s2 91000037 16 Bz5 x2.1 (by decide)
   obtain ⟨B7, Bd7, Bz7, Bq7⟩ := add_step B6 ⟨#[32, 118, 116, 101, 112, 32]⟩ 91000053 6 Bz6 (by decide) (by decide)
   obtain ⟨B8, Bd8, Bz8, Bq8⟩ := add_step B7 s3 91000059 15 Bz7 x3.1 (by decide)
   obtain ⟨B9, Bd9, Bz9, Bq9⟩ := add_step B8 ⟨#[32]⟩ 91000074 1 Bz8 (by decide) (by decide)
   obtain ⟨B10, Bd10, Bz10, Bq10⟩ := add_step B9 s4 91000075 808 Bz9 x4.1 (by decide)
   obtain ⟨B11, Bd11, Bz11, Bq11⟩ := add_step B10 ⟨#[32, 104, 111, 115, 116, 32]⟩ 91000883 6 Bz10 (by decide) (by decide)
   obtain ⟨B12, Bd12, Bz12, Bq12⟩ := add_step B11 s5 91000889 808 Bz11 x5.1 (by decide)
   obtain ⟨B13, Bd13, Bz13, Bq13⟩ := add_step B12 ⟨#[10]⟩ 91001697 1 Bz12 (by decide) (by decide)
   have HB : Hid (B13.data.toList = L1) := by
    show B13.data.toList = L1
    rw [← hL1, Bd13, Bd12, Bd11, Bd10, Bd9, Bd8, Bd7, Bd6, Bd5, Bd4, Bd3, Bd2, Bd1, hOd, x1.2, x2.2, x3.2, x4.2, x5.2]
    simp [spc, Lib.join_cons, Lib.joinTail, Lib.join, wGateway, wDrain, wTenant, wVni, wKey, wVtep, wHost, wPool, wPorts, wFilter, wStatic, wTwice, wQuota, wRate, txtG, txtH]
   clear Bd1 Bz1 Bd2 Bz2 Bd3 Bz3 Bd4 Bz4 Bd5 Bz5 Bd6 Bz6 Bd7 Bz7 Bd8 Bz8 Bd9 Bz9 Bd10 Bz10 Bd11 Bz11 Bd12 Bz12 Bd13 Bz13 x1 x2 x3 x4 x5 hs1 hs2 hs3 hs4 hs5 hsn hln hO hOd hnm hL1
   have hi33 : (Tryz.prog.info? 45).map (·.size) = some (tc t p s q).length := by rw [← List.size_toArray, tsz]; kernel_rfl
   have i33 : (Tryz.prog.info? 45).map (·.size) = some (tc t p s q).toArray.size := by rw [tsz]; kernel_rfl
   obtain ⟨gt, hgt⟩ : ∃ gt, wr.heap.size = gt := ⟨_, rfl⟩
   obtain ⟨B, hB⟩ : ∃ B, (tc t p s q).toArray = B := ⟨_, rfl⟩
   have KT0 : ∀ X, Mem w X ((gt, .cells B 45) :: K1) → (X.cell? ⟨gt, 0, none⟩ = some (.string t.name) ∧ X.cell? ⟨gt, 1, none⟩ = some (.int .u32 t.vni) ∧ X.rangeAt gt 2 (u8s t.key) ∧ X.cell? ⟨gt, 10, none⟩ = some (.int .u32 t.vtep) ∧ X.rangeAt gt 11 (u8s t.vmac) ∧ X.rangeAt gt 17 (u8s t.host)) ∧
     X.cell? ⟨gt, 23, none⟩ = some p ∧ X.cell? ⟨gt, 24, none⟩ = some (.int .u16 t.lo) ∧ X.cell? ⟨gt, 25, none⟩ = some (.int .u16 t.hi) ∧ X.cell? ⟨gt, 26, none⟩ = some (.int .i64 t.filter) ∧ X.cell? ⟨gt, 27, none⟩ = some s ∧ X.cell? ⟨gt, 28, none⟩ = some q ∧ X.cell? ⟨gt, 29, none⟩ = some (.int .i64 t.sess) ∧ X.cell? ⟨gt, 30, none⟩ = some (.int .i64 t.queue) ∧ X.cell? ⟨gt, 31, none⟩ = some (.int .u32 t.rate) ∧ X.cell? ⟨gt, 32, none⟩ = some (.int .u32 t.burst) := by
    intro X hX
    rw [← hB] at hX
    obtain ⟨a1, a2, a3, a4, a5, a6, a7⟩ := ten_box tl hX (List.mem_cons_self ..)
    exact ⟨⟨a1, a2, a3, a4, a5, a6⟩, a7⟩
   obtain ⟨pa, pc, rfl, hpr⟩ := rp
   obtain ⟨ta, tcc, rfl, htr⟩ := rs
   obtain ⟨qa, qc, rfl, hqr⟩ := rq
   have HPo : Hid (∀ k, k < t.pool.length → ∀ X K', Mem w X K' → ∃ bb off x, pa = some ⟨bb, off, none⟩ ∧ t.pool[k]? = some x ∧ X.cell? ⟨bb, off + k, none⟩ = some (.int .u32 x) ∧ 0 ≤ x ∧ x ≤ 4294967295) := by
    intro k hk X K' hX
    have hr2 : Rw X 1 (.slice pa (ux t.pool).length pc) (ux t.pool) := hX.rw' ⟨pa, pc, rfl, hpr⟩ ux_ne
    obtain ⟨bb, off, rfl, hc⟩ := rw_at hr2 k (by simpa [ux] using hk)
    obtain ⟨x, hx⟩ : ∃ x, t.pool[k]? = some x := ⟨_, List.getElem?_eq_getElem hk⟩
    have ex : (ux t.pool).getD k [] = [.int .u32 x] := by simp [ux, List.getD, hx]
    rw [ex] at hc
    have := hc 0 _ rfl
    rw [Nat.mul_one, Nat.add_zero] at this
    exact ⟨bb, off, x, rfl, hx, this, tw.rg.pool x (List.mem_of_getElem? hx)⟩
   have HPa : ∀ (a : Option Addr) (c : Nat) (ps : List (Int × Int)), Rw w 2 (.slice a (px ps).length c) (px ps) → (∀ x ∈ ps, (0 ≤ x.1 ∧ x.1 ≤ 4294967295) ∧ 0 ≤ x.2 ∧ x.2 ≤ 4294967295) → ∀ k, k < ps.length → ∀ X K', Mem w X K' → ∃ bb off x y, a = some ⟨bb, off, none⟩ ∧ ps[k]? = some (x, y) ∧ X.cell? ⟨bb, off + k * 2, none⟩ = some (.int .u32 x) ∧ X.cell? ⟨bb, off + k * 2 + 1, none⟩ = some (.int .u32 y) ∧ (0 ≤ x ∧ x ≤ 4294967295) ∧ 0 ≤ y ∧ y ≤ 4294967295 := by
    intro a c ps hrr hrg k hk X K' hX
    have hr2 : Rw X 2 (.slice a (px ps).length c) (px ps) := hX.rw' hrr px_ne
    obtain ⟨bb, off, rfl, hc⟩ := rw_at hr2 k (by simpa [px] using hk)
    obtain ⟨x, hx⟩ : ∃ x, ps[k]? = some x := ⟨_, List.getElem?_eq_getElem hk⟩
    have ex : (px ps).getD k [] = [.int .u32 x.1, .int .u32 x.2] := by simp [px, List.getD, hx]
    rw [ex] at hc
    exact ⟨bb, off, x.1, x.2, rfl, hx, hc 0 _ rfl, hc 1 _ rfl, hrg x (List.mem_of_getElem? hx)⟩
   have HSt : Hid (∀ k, k < t.stat.length → ∀ X K', Mem w X K' → ∃ bb off x y, ta = some ⟨bb, off, none⟩ ∧ t.stat[k]? = some (x, y) ∧ X.cell? ⟨bb, off + k * 2, none⟩ = some (.int .u32 x) ∧ X.cell? ⟨bb, off + k * 2 + 1, none⟩ = some (.int .u32 y) ∧ (0 ≤ x ∧ x ≤ 4294967295) ∧ 0 ≤ y ∧ y ≤ 4294967295) := HPa ta tcc t.stat ⟨ta, tcc, rfl, htr⟩ tw.rg.stat
   have HTw : Hid (∀ k, k < t.twi.length → ∀ X K', Mem w X K' → ∃ bb off x y, qa = some ⟨bb, off, none⟩ ∧ t.twi[k]? = some (x, y) ∧ X.cell? ⟨bb, off + k * 2, none⟩ = some (.int .u32 x) ∧ X.cell? ⟨bb, off + k * 2 + 1, none⟩ = some (.int .u32 y) ∧ (0 ≤ x ∧ x ≤ 4294967295) ∧ 0 ≤ y ∧ y ≤ 4294967295) := HPa qa qc t.twi ⟨qa, qc, rfl, hqr⟩ tw.rg.twi
   have HIN : Hid (t.pool.length ≤ 1000000 ∧ t.stat.length ≤ 1000000 ∧ t.twi.length ≤ 1000000) := ⟨tw.inn.pool, tw.inn.stat, tw.inn.twi⟩
   rw [show (ux t.pool).length = t.pool.length by simp [ux], show (px t.stat).length = t.stat.length by simp [px], show (px t.twi).length = t.twi.length by simp [px]] at *
   have HTX : Hid ((L1 ++ (txtP t).flatMap spc = L2) ∧ (L2 ++ spc [wPorts, La.dec t.lo, La.dec t.hi] = L3) ∧ (L3 ++ spc [wFilter, fw t.filter] = L4) ∧ (L4 ++ (txtS wStatic t.stat).flatMap spc = L5) ∧ (L5 ++ (txtS wTwice t.twi).flatMap spc = L6) ∧ (L6 ++ (spc [wQuota, La.dec t.sess, La.dec t.queue] ++ spc [wRate, La.dec t.rate, La.dec t.burst]) = F (i + 1))) := ⟨hL2, hL3, hL4, hL5, hL6, hL7⟩
   have HR0 : Hid (i + 1 ≤ N ∧ (Value.int .i64 ((i : Int) + 1) = .int .i64 ((i + 1 : Nat) : Int)) ∧ (N - (intOf (.int .i64 ((i : Int) + 1))).toNat < N - (intOf (.int .i64 (i : Int))).toNat)) := ⟨by omega, by simp, by simp [intOf]; omega⟩
   have HTG : Hid (TRg t ∧ (0 ≤ t.sess ∧ 0 ≤ t.queue)) := ⟨tw.rg, tw.sess⟩
   have hk1 : (wr.alloc (.cells tz 45)).heap[gt]? = some (.cells tz 45) := by rw [← hgt]; exact heap_alloc_new _ _
   have e1 : (wr.alloc (.cells tz 45)).setRow gt B = wr.alloc (.cells B 45) := by
    rw [← hgt]; exact World.setRow_alloc_new wr tz B 45
   have hP := HX.out.2.front (.cells B 45) hgt.symm
   obtain ⟨KK, hKK⟩ : ∃ KK, ((gt, Obj.cells B 45) :: K1) = KK := ⟨_, rfl⟩
   rw [hKK] at hP KT0
   rw [← e1] at hP
   have HP : Hid (Mem w ((wr.alloc (.cells tz 45)).setRow gt B) KK) := hP
   have HDr : Hid (∀ X, Mem w X KK → Mem w X K1) := by
    intro X hX
    rw [← hKK] at hX
    exact Mem.dropA (A := [_]) hX
   rw [hB] at tsz tone i33
   obtain ⟨x, hx⟩ : ∃ x, tc t (.slice pa t.pool.length pc) (.slice ta t.stat.length tcc) (.slice qa t.twi.length qc) = x := ⟨_, rfl⟩
   rw [hx] at hB hi33 hrg
   clear hP e1 HX hKK hra tw tl et hL2 hL3 hL4 hL5 hL6 hL7 HPa hpr htr hqr hx
   obtain ⟨nm, hnm⟩ : ∃ nm, t.name = nm := ⟨_, rfl⟩
   obtain ⟨n1, hn1⟩ : ∃ n1, t.vni = n1 := ⟨_, rfl⟩
   obtain ⟨n3, hn3⟩ : ∃ n3, t.vtep = n3 := ⟨_, rfl⟩
   obtain ⟨m2, hm2⟩ : ∃ m2, u8s t.key = m2 := ⟨_, rfl⟩
   obtain ⟨m4, hm4⟩ : ∃ m4, u8s t.vmac = m4 := ⟨_, rfl⟩
   obtain ⟨m5, hm5⟩ : ∃ m5, u8s t.host = m5 := ⟨_, rfl⟩
   simp only [hnm, hn1, hn3, hm2, hm4, hm5] at KT0
   simp only [hnm] at Bq2
   simp only [hn1] at C1 u1
   simp only [hm2] at C2 i2
   simp only [hn3] at C3
   simp only [hm4] at C4 i4
   simp only [hm5] at C5 i5
   clear hnm hn1 hn3 hm2 hm4 hm5
   have KS : Hid (∀ X, Mem w X KK → X.cell? ⟨gt, 0, none⟩ = some (.string nm) ∧ X.cell? ⟨gt, 1, none⟩ = some (.int .u32 n1) ∧ X.rangeAt gt 2 m2 ∧ X.cell? ⟨gt, 10, none⟩ = some (.int .u32 n3) ∧ X.rangeAt gt 11 m4 ∧ X.rangeAt gt 17 m5) := fun X hX => (KT0 X hX).1
   have KT : Hid (∀ X, Mem w X KK → X.cell? ⟨gt, 23, none⟩ = some (.slice pa t.pool.length pc) ∧ X.cell? ⟨gt, 24, none⟩ = some (.int .u16 t.lo) ∧ X.cell? ⟨gt, 25, none⟩ = some (.int .u16 t.hi) ∧ X.cell? ⟨gt, 26, none⟩ = some (.int .i64 t.filter) ∧ X.cell? ⟨gt, 27, none⟩ = some (.slice ta t.stat.length tcc) ∧ X.cell? ⟨gt, 28, none⟩ = some (.slice qa t.twi.length qc) ∧ X.cell? ⟨gt, 29, none⟩ = some (.int .i64 t.sess) ∧ X.cell? ⟨gt, 30, none⟩ = some (.int .i64 t.queue) ∧ X.cell? ⟨gt, 31, none⟩ = some (.int .u32 t.rate) ∧ X.cell? ⟨gt, 32, none⟩ = some (.int .u32 t.burst)) := fun X hX => (KT0 X hX).2
   clear KT0
   go_upto_region 6 with (first | (refine wpList_load_mid rfl 45 (.tmp 51) (by with_reducible rfl) b (off + i * 33) (by first | rfl | simp [Act.eval]) x _ hrg Tryz.underlying45 rfl hi33 ?_) | (refine wpList_store_row rfl 45 (.tmp 5) (.tmp 52) (by with_reducible rfl) gt B (by simp [Act.eval]; try exact hgt) (by first | exact congrArg Value.agg hB | rfl | simp [Act.eval, hB]) 45 tz hk1 i33 (by rw [tsz]; rfl) tone ?_))
   refine wp_letter (fun X => Mem w X KK) (by exact HP.out) ?_
   intro V3 hR
   try simp only [hgt]
   clear HP hgt hk1 hrg hB hi33 i33 tsz tone c28
   have HB0 : Hid (Mem w V3.drew KK) := hR.after ((Below.refl _ _).drew)
   clear hR
   refine wp_region_held_drew (S := fun X => X.cell? ⟨gt, 0, none⟩ = some (.string nm) ∧ X.cell? ⟨gt, 1, none⟩ = some (.int .u32 n1) ∧ X.rangeAt gt 2 m2 ∧ X.cell? ⟨gt, 10, none⟩ = some (.int .u32 n3) ∧ X.rangeAt gt 11 m4 ∧ X.rangeAt gt 17 m5) (by kernel_rfl) (KS.out _ HB0.out) (fun hHeld => ?_)
   refine wpAnyH_take (i := 0) (v := ?_) rfl (by kernel_rfl) (by kernel_rfl) (by kernel_rfl) (fun _ _ _ h => h) (Or.inl ⟨by rfl, ?ty0⟩) (by assumption) ?tr0
   case ty0 => intro w hSw; (try dsimp only at hSw); go_simp; all_goals with_reducible rfl
   try simp only [getElem_toArray, getElem_cons_zero, getElem_cons_succ, Act.put, setIfInBounds_toArray, set_cons_zero, set_cons_succ]
   refine wpAnyH_take (i := 1) (v := ?_) rfl (by kernel_rfl) (by kernel_rfl) (by kernel_rfl) (fun _ _ _ h => h) (Or.inl ⟨by rfl, ?ty1⟩) (by assumption) ?tr1
   case ty1 => intro w hSw; (try dsimp only at hSw); go_simp; all_goals with_reducible rfl
   try simp only [getElem_toArray, getElem_cons_zero, getElem_cons_succ, Act.put, setIfInBounds_toArray, set_cons_zero, set_cons_succ]
   refine wpAnyH_take (i := 2) (v := ?_) rfl (by kernel_rfl) (by kernel_rfl) (by kernel_rfl) (fun _ _ _ h => h) (Or.inl ⟨by rfl, ?ty2⟩) (by assumption) ?tr2
   case ty2 => intro w hSw; (try dsimp only at hSw); go_simp; all_goals with_reducible rfl
   try simp only [getElem_toArray, getElem_cons_zero, getElem_cons_succ, Act.put, setIfInBounds_toArray, set_cons_zero, set_cons_succ]
   refine wpAnyH_take (i := 3) (v := ?_) rfl (by kernel_rfl) (by kernel_rfl) (by kernel_rfl) (fun _ _ _ h => h) (Or.inl ⟨by rfl, ?ty3⟩) (by assumption) ?tr3
   case ty3 => intro w hSw; (try dsimp only at hSw); go_simp; all_goals with_reducible rfl
   try simp only [getElem_toArray, getElem_cons_zero, getElem_cons_succ, Act.put, setIfInBounds_toArray, set_cons_zero, set_cons_succ]
   refine wpAnyH_take (i := 4) (v := ?_) rfl (by kernel_rfl) (by kernel_rfl) (by kernel_rfl) (fun _ _ _ h => h) (Or.inl ⟨by rfl, ?ty4⟩) (by assumption) ?tr4
   case ty4 => intro w hSw; (try dsimp only at hSw); go_simp; all_goals with_reducible rfl
   try simp only [getElem_toArray, getElem_cons_zero, getElem_cons_succ, Act.put, setIfInBounds_toArray, set_cons_zero, set_cons_succ]
   refine wpAnyH_take (i := 5) (v := ?_) rfl (by kernel_rfl) (by kernel_rfl) (by kernel_rfl) (fun _ _ _ h => h) (Or.inl ⟨by rfl, ?ty5⟩) (by assumption) ?tr5
   case ty5 => intro w hSw; (try dsimp only at hSw); go_simp; all_goals with_reducible rfl
   try simp only [getElem_toArray, getElem_cons_zero, getElem_cons_succ, Act.put, setIfInBounds_toArray, set_cons_zero, set_cons_succ]
   refine wpAnyH_take (i := 6) (v := ?_) rfl (by kernel_rfl) (by kernel_rfl) (by kernel_rfl) (fun _ _ _ h => h) (Or.inl ⟨by rfl, ?ty6⟩) (by assumption) ?tr6
   case ty6 => intro w hSw; (try dsimp only at hSw); go_simp; all_goals with_reducible rfl
   try simp only [getElem_toArray, getElem_cons_zero, getElem_cons_succ, Act.put, setIfInBounds_toArray, set_cons_zero, set_cons_succ]
   refine wpAnyH_take (i := 7) (v := ?_) rfl (by kernel_rfl) (by kernel_rfl) (by kernel_rfl) (fun _ _ _ h => h) (Or.inl ⟨by rfl, ?ty7⟩) (by assumption) ?tr7
   case ty7 => intro w hSw; (try dsimp only at hSw); go_simp; all_goals with_reducible rfl
   try simp only [getElem_toArray, getElem_cons_zero, getElem_cons_succ, Act.put, setIfInBounds_toArray, set_cons_zero, set_cons_succ]
   refine wpAnyH_take (i := 8) (v := ?_) rfl (by kernel_rfl) (by kernel_rfl) (by kernel_rfl) (fun _ _ _ h => h) (Or.inl ⟨by rfl, ?ty8⟩) (by assumption) ?tr8
   case ty8 => intro w hSw; (try dsimp only at hSw); go_simp; all_goals with_reducible rfl
   try simp only [getElem_toArray, getElem_cons_zero, getElem_cons_succ, Act.put, setIfInBounds_toArray, set_cons_zero, set_cons_succ]
   refine wpAnyH_take (i := 12) (v := ?_) rfl (by kernel_rfl) (by kernel_rfl) (by kernel_rfl) (fun _ _ _ h => h) (Or.inl ⟨by rfl, ?ty12⟩) (by assumption) ?tr12
   case ty12 => intro w hSw; (try dsimp only at hSw); go_simp; all_goals with_reducible rfl
   try simp only [getElem_toArray, getElem_cons_zero, getElem_cons_succ, Act.put, setIfInBounds_toArray, set_cons_zero, set_cons_succ]
   refine wpAnyH_take (i := 13) (v := _) rfl (by kernel_rfl) (by kernel_rfl) (by kernel_rfl) (fun _ _ _ h => h) (yieldsIf_load_mid (by rfl) _ _ rfl _ _ rfl _ _ ?ts13 Tryz.underlying26 rfl i2) (by assumption) ?tr13
   case ts13 =>
    intro w hSw
    (try dsimp only at hSw)
    go_split_ands
    assumption
   try simp only [getElem_toArray, getElem_cons_zero, getElem_cons_succ, Act.put, setIfInBounds_toArray, set_cons_zero, set_cons_succ]
   refine wpAnyH_take (i := 17) (v := ?_) rfl (by kernel_rfl) (by kernel_rfl) (by kernel_rfl) (fun _ _ _ h => h) (Or.inl ⟨by rfl, ?ty17⟩) (by assumption) ?tr17
   case ty17 => intro w hSw; (try dsimp only at hSw); go_simp; all_goals with_reducible rfl
   try simp only [getElem_toArray, getElem_cons_zero, getElem_cons_succ, Act.put, setIfInBounds_toArray, set_cons_zero, set_cons_succ]
   refine wpAnyH_take (i := 18) (v := ?_) rfl (by kernel_rfl) (by kernel_rfl) (by kernel_rfl) (fun _ _ _ h => h) (Or.inl ⟨by rfl, ?ty18⟩) (by assumption) ?tr18
   case ty18 => intro w hSw; (try dsimp only at hSw); go_simp; all_goals with_reducible rfl
   try simp only [getElem_toArray, getElem_cons_zero, getElem_cons_succ, Act.put, setIfInBounds_toArray, set_cons_zero, set_cons_succ]
   refine wpAnyH_take (i := 22) (v := ?_) rfl (by kernel_rfl) (by kernel_rfl) (by kernel_rfl) (fun _ _ _ h => h) (Or.inl ⟨by rfl, ?ty22⟩) (by assumption) ?tr22
   case ty22 => intro w hSw; (try dsimp only at hSw); go_simp; all_goals with_reducible rfl
   try simp only [getElem_toArray, getElem_cons_zero, getElem_cons_succ, Act.put, setIfInBounds_toArray, set_cons_zero, set_cons_succ]
   refine wpAnyH_take (i := 23) (v := _) rfl (by kernel_rfl) (by kernel_rfl) (by kernel_rfl) (fun _ _ _ h => h) (yieldsIf_load_mid (by rfl) _ _ rfl _ _ rfl _ _ ?ts23 Tryz.underlying25 rfl i4) (by assumption) ?tr23
   case ts23 =>
    intro w hSw
    (try dsimp only at hSw)
    go_split_ands
    assumption
   try simp only [getElem_toArray, getElem_cons_zero, getElem_cons_succ, Act.put, setIfInBounds_toArray, set_cons_zero, set_cons_succ]
   refine wpAnyH_take (i := 27) (v := ?_) rfl (by kernel_rfl) (by kernel_rfl) (by kernel_rfl) (fun _ _ _ h => h) (Or.inl ⟨by rfl, ?ty27⟩) (by assumption) ?tr27
   case ty27 => intro w hSw; (try dsimp only at hSw); go_simp; all_goals with_reducible rfl
   try simp only [getElem_toArray, getElem_cons_zero, getElem_cons_succ, Act.put, setIfInBounds_toArray, set_cons_zero, set_cons_succ]
   refine wpAnyH_take (i := 28) (v := _) rfl (by kernel_rfl) (by kernel_rfl) (by kernel_rfl) (fun _ _ _ h => h) (yieldsIf_load_mid (by rfl) _ _ rfl _ _ rfl _ _ ?ts28 Tryz.underlying25 rfl i5) (by assumption) ?tr28
   case ts28 =>
    intro w hSw
    (try dsimp only at hSw)
    go_split_ands
    assumption
   try simp only [getElem_toArray, getElem_cons_zero, getElem_cons_succ, Act.put, setIfInBounds_toArray, set_cons_zero, set_cons_succ]
   refine wpAnyH_ready (rs := [9]) (by kernel_rfl) (by simp) ?_
   refine AllReadyH.cons rfl (fun K hK => ?_) AllReadyH.nil
   go_simp
   with_reducible refine (C1 _).mono ?_
   rintro e W1 ⟨rfl, hb1⟩
   try go_wp2_with fail
   refine hK.out _ _ (KS.out _ (HB0.out.after hb1)) (fun hHeld => ?_)
   clear hK K
   try simp only [getElem_toArray, getElem_cons_zero, getElem_cons_succ, Act.put, setIfInBounds_toArray, set_cons_zero, set_cons_succ]
   refine wpAnyH_take (i := 10) (v := ?_) rfl (by kernel_rfl) (by kernel_rfl) (by kernel_rfl) (fun _ _ _ h => h) (Or.inl ⟨by rfl, ?ty10⟩) (by assumption) ?tr10
   case ty10 => intro w hSw; (try dsimp only at hSw); go_simp; all_goals with_reducible rfl
   try simp only [getElem_toArray, getElem_cons_zero, getElem_cons_succ, Act.put, setIfInBounds_toArray, set_cons_zero, set_cons_succ]
   refine wpAnyH_take (i := 11) (v := ?_) rfl (by kernel_rfl) (by kernel_rfl) (by kernel_rfl) (fun _ _ _ h => h) (Or.inl ⟨by rfl, ?ty11⟩) (by assumption) ?tr11
   case ty11 => intro w hSw; (try dsimp only at hSw); go_simp; all_goals with_reducible rfl
   try simp only [getElem_toArray, getElem_cons_zero, getElem_cons_succ, Act.put, setIfInBounds_toArray, set_cons_zero, set_cons_succ]
   refine wpAnyH_ready (rs := [14]) (by kernel_rfl) (by simp) ?_
   refine AllReadyH.cons rfl (fun K hK => ?_) AllReadyH.nil
   go_simp
   with_reducible refine (C2 _).mono ?_
   rintro e W2 ⟨rfl, hb2⟩
   try go_wp2_with fail
   refine hK.out _ _ (KS.out _ ((HB0.out.after hb1).after hb2)) (fun hHeld => ?_)
   clear hK K
   try simp only [getElem_toArray, getElem_cons_zero, getElem_cons_succ, Act.put, setIfInBounds_toArray, set_cons_zero, set_cons_succ]
   refine wpAnyH_take (i := 15) (v := ?_) rfl (by kernel_rfl) (by kernel_rfl) (by kernel_rfl) (fun _ _ _ h => h) (Or.inl ⟨by rfl, ?ty15⟩) (by assumption) ?tr15
   case ty15 => intro w hSw; (try dsimp only at hSw); go_simp; all_goals with_reducible rfl
   try simp only [getElem_toArray, getElem_cons_zero, getElem_cons_succ, Act.put, setIfInBounds_toArray, set_cons_zero, set_cons_succ]
   refine wpAnyH_take (i := 16) (v := ?_) rfl (by kernel_rfl) (by kernel_rfl) (by kernel_rfl) (fun _ _ _ h => h) (Or.inl ⟨by rfl, ?ty16⟩) (by assumption) ?tr16
   case ty16 => intro w hSw; (try dsimp only at hSw); go_simp; all_goals with_reducible rfl
   try simp only [getElem_toArray, getElem_cons_zero, getElem_cons_succ, Act.put, setIfInBounds_toArray, set_cons_zero, set_cons_succ]
   refine wpAnyH_ready (rs := [19]) (by kernel_rfl) (by simp) ?_
   refine AllReadyH.cons rfl (fun K hK => ?_) AllReadyH.nil
   go_simp
   with_reducible refine (C3 _).mono ?_
   rintro e W3 ⟨rfl, hb3⟩
   try go_wp2_with fail
   refine hK.out _ _ (KS.out _ (((HB0.out.after hb1).after hb2).after hb3)) (fun hHeld => ?_)
   clear hK K
   try simp only [getElem_toArray, getElem_cons_zero, getElem_cons_succ, Act.put, setIfInBounds_toArray, set_cons_zero, set_cons_succ]
   refine wpAnyH_take (i := 20) (v := ?_) rfl (by kernel_rfl) (by kernel_rfl) (by kernel_rfl) (fun _ _ _ h => h) (Or.inl ⟨by rfl, ?ty20⟩) (by assumption) ?tr20
   case ty20 => intro w hSw; (try dsimp only at hSw); go_simp; all_goals with_reducible rfl
   try simp only [getElem_toArray, getElem_cons_zero, getElem_cons_succ, Act.put, setIfInBounds_toArray, set_cons_zero, set_cons_succ]
   refine wpAnyH_take (i := 21) (v := ?_) rfl (by kernel_rfl) (by kernel_rfl) (by kernel_rfl) (fun _ _ _ h => h) (Or.inl ⟨by rfl, ?ty21⟩) (by assumption) ?tr21
   case ty21 => intro w hSw; (try dsimp only at hSw); go_simp; all_goals with_reducible rfl
   try simp only [getElem_toArray, getElem_cons_zero, getElem_cons_succ, Act.put, setIfInBounds_toArray, set_cons_zero, set_cons_succ]
   refine wpAnyH_ready (rs := [24]) (by kernel_rfl) (by simp) ?_
   refine AllReadyH.cons rfl (fun K hK => ?_) AllReadyH.nil
   go_simp
   with_reducible refine (C4 _).mono ?_
   rintro e W4 ⟨rfl, hb4⟩
   try go_wp2_with fail
   refine hK.out _ _ (KS.out _ ((((HB0.out.after hb1).after hb2).after hb3).after hb4)) (fun hHeld => ?_)
   clear hK K
   try simp only [getElem_toArray, getElem_cons_zero, getElem_cons_succ, Act.put, setIfInBounds_toArray, set_cons_zero, set_cons_succ]
   refine wpAnyH_take (i := 25) (v := ?_) rfl (by kernel_rfl) (by kernel_rfl) (by kernel_rfl) (fun _ _ _ h => h) (Or.inl ⟨by rfl, ?ty25⟩) (by assumption) ?tr25
   case ty25 => intro w hSw; (try dsimp only at hSw); go_simp; all_goals with_reducible rfl
   try simp only [getElem_toArray, getElem_cons_zero, getElem_cons_succ, Act.put, setIfInBounds_toArray, set_cons_zero, set_cons_succ]
   refine wpAnyH_take (i := 26) (v := ?_) rfl (by kernel_rfl) (by kernel_rfl) (by kernel_rfl) (fun _ _ _ h => h) (Or.inl ⟨by rfl, ?ty26⟩) (by assumption) ?tr26
   case ty26 => intro w hSw; (try dsimp only at hSw); go_simp; all_goals with_reducible rfl
   try simp only [getElem_toArray, getElem_cons_zero, getElem_cons_succ, Act.put, setIfInBounds_toArray, set_cons_zero, set_cons_succ]
   refine wpAnyH_ready (rs := [29]) (by kernel_rfl) (by simp) ?_
   refine AllReadyH.cons rfl (fun K hK => ?_) AllReadyH.nil
   go_simp
   with_reducible refine (C5 _).mono ?_
   rintro e W5 ⟨rfl, hb5⟩
   try go_wp2_with fail
   refine hK.out _ _ (KS.out _ (((((HB0.out.after hb1).after hb2).after hb3).after hb4).after hb5)) (fun hHeld => ?_)
   clear hK K
   try simp only [getElem_toArray, getElem_cons_zero, getElem_cons_succ, Act.put, setIfInBounds_toArray, set_cons_zero, set_cons_succ]
   refine wpAnyH_take (i := 30) (v := ?_) rfl (by kernel_rfl) (by kernel_rfl) (by kernel_rfl) (fun _ _ _ h => h) (Or.inl ⟨by rfl, ?ty30⟩) (by assumption) ?tr30
   case ty30 => intro w hSw; (try dsimp only at hSw); go_simp; all_goals with_reducible rfl
   try simp only [getElem_toArray, getElem_cons_zero, getElem_cons_succ, Act.put, setIfInBounds_toArray, set_cons_zero, set_cons_succ]
   refine wpAnyH_take (i := 31) (v := ?_) rfl (by kernel_rfl) (by kernel_rfl) (by kernel_rfl) (fun _ _ _ h => h) (Or.inl ⟨by rfl, ?ty31⟩) (by assumption) ?tr31
   case ty31 => intro w hSw; (try dsimp only at hSw); go_simp; all_goals with_reducible rfl
   try simp only [getElem_toArray, getElem_cons_zero, getElem_cons_succ, Act.put, setIfInBounds_toArray, set_cons_zero, set_cons_succ]
   refine wpAnyH_take (i := 32) (v := ?_) rfl (by kernel_rfl) (by kernel_rfl) (by kernel_rfl) (fun _ _ _ h => h) (Or.inl ⟨by rfl, ?ty32⟩) (by assumption) ?tr32
   case ty32 => intro w hSw; (try dsimp only at hSw); go_simp; all_goals with_reducible rfl
   try simp only [getElem_toArray, getElem_cons_zero, getElem_cons_succ, Act.put, setIfInBounds_toArray, set_cons_zero, set_cons_succ]
   refine wpAnyH_done (by kernel_rfl) ?_ _
   have HB5 : Hid (Mem w W5 KK) := (((((HB0.out.after hb1).after hb2).after hb3).after hb4).after hb5)
   clear hHeld hb1 hb2 hb3 hb4 hb5 C1 C2 C3 C4 C5 i2 i4 i5 u1 KS HB0 Bq1 Bq2 Bq3 Bq4 Bq5 Bq6 Bq7 Bq8 Bq9 Bq10 Bq11 Bq12 Bq13
   obtain ⟨np, hnp⟩ : ∃ np, t.pool.length = np := ⟨_, rfl⟩
   obtain ⟨ns, hns⟩ : ∃ ns, t.stat.length = ns := ⟨_, rfl⟩
   obtain ⟨nt, hnt⟩ : ∃ nt, t.twi.length = nt := ⟨_, rfl⟩
   simp only [hnp, hns, hnt] at HPo HSt HTw HIN KT
   have HPl : Hid ((0 < np → L1 ++ (pws t.pool np ++ [10]) = L2) ∧ (¬ 0 < np → L1 = L2)) := by
    have h2 := HTX.out.1
    unfold txtP at h2
    refine ⟨fun hp => ?_, fun hp => ?_⟩
    ·rw [if_neg (by intro e; rw [e] at hnp; simp at hnp; omega)] at h2
     rw [← hnp, pws_end, ← h2]; simp
    ·rw [if_pos (List.eq_nil_of_length_eq_zero (by omega))] at h2
     rw [← h2]; simp
   have hB13 := sz_le HB.out HLL.out.2.1
   have k23 := (KT.out _ HB5.out).1
   go_upto_if 88 with fail
   go_cut [3, 6] from 41 to 211 (fun o kk w' => ∃ O2 : ByteArray, o = .string O2 ∧ Hid (O2.data.toList = L2 ∧ Mem w w' KK))
   case first => as_aux_lemma =>
    by_cases hne : 0 < np
    ·have hz : (0 : Int) < np := by omega
     have hzd : decide (0 < np) = true := decide_eq_true hne
     try simp only [hzd]
     obtain ⟨P1, Pd1, Pz1, Pq1⟩ := add_step B13 ⟨#[112, 111, 111, 108]⟩ 90000000 4 hB13 (by decide) (by decide)
     have HP1 : Hid (P1.data.toList = L1 ++ pws t.pool 0 ∧ P1.size ≤ 90000004 + 16 * 0 ∧ Mem w W5 KK) := ⟨by rw [Pd1, HB.out]; simp [pws, wPool], Pz1, HB5.out⟩
     clear Pd1 Pz1 hB13 HB HB5
     go_wp2_with fail
     go_loopw [3, 6] (fun o kk w' => ∃ (k : Nat) (O2 : ByteArray), k ≤ np ∧ kk = .int .i64 k ∧ o = .string O2 ∧ Hid (O2.data.toList = L1 ++ pws t.pool k ∧ O2.size ≤ 90000004 + 16 * k ∧ Mem w w' KK)) (fun _ kk _ => np - (intOf kk).toNat)
     case atStart => exact ⟨0, P1, Nat.zero_le _, rfl, rfl, HP1⟩
     case round =>
      obtain ⟨k, O2, hk, rfl, rfl, HY⟩ := hrel
      clear HP1 Pq1 k23
      have k23 := (KT.out _ HY.out.2.2).1
      by_cases hkl : k < np
      ·have h2 : (k : Int) < np := by omega
       have e8 : IntKind.i64.wrap ((k : Int) + 1) = (k : Int) + 1 := by have := HIN.out.1; exact wrap64 (by omega) (by omega)
       obtain ⟨bb, of2, y, rfl, ey, cy, ry⟩ := HPo.out k hkl _ _ HY.out.2.2
       have CY := fun X => rip32 y ry X
       obtain ⟨sy, hsy⟩ : ∃ s : ByteArray, ⟨(ipx y).toArray⟩ = s := ⟨_, rfl⟩
       simp only [hsy] at CY
       have xy := sz_of hsy (ipx_sz y ry)
       obtain ⟨Y1, Yd1, Yz1, Yq1⟩ := add_step O2 ⟨#[32]⟩ (90000004 + 16 * k) 1 HY.out.2.1 (by decide) (by have := HIN.out.1; omega)
       obtain ⟨Y2, Yd2, Yz2, Yq2⟩ := add_step Y1 sy (90000005 + 16 * k) 15 (by omega) xy.1 (by have := HIN.out.1; omega)
       have HY2 : Hid (Y2.data.toList = L1 ++ pws t.pool (k + 1) ∧ Y2.size ≤ 90000004 + 16 * (k + 1) ∧ Mem w _ KK) := ⟨by rw [Yd2, Yd1, HY.out.1, pws_snoc _ _ _ ey, xy.2]; simp, by omega, HY.out.2.2⟩
       have HR1 : Hid (k + 1 ≤ np ∧ (Value.int .i64 ((k : Int) + 1) = .int .i64 ((k + 1 : Nat) : Int)) ∧ (np - (intOf (.int .i64 ((k : Int) + 1))).toNat < np - (intOf (.int .i64 (k : Int))).toNat)) := ⟨by omega, by simp, by simp [intOf]; omega⟩
       clear HY Yd1 Yd2 Yz1 Yz2 xy hsy ey ry
       go_wp2_with fail
       refine (CY _).mono ?_
       rintro e _ ⟨rfl, rfl⟩
       go_wp2_with fail
       go_roundw
       case rel => exact ⟨k + 1, Y2, HR1.out.1, HR1.out.2.1, rfl, HY2⟩
       case measure => exact HR1.out.2.2
      ·obtain rfl : k = np := by omega
       have h2 : ¬ ((k : Int) < k) := by omega
       obtain ⟨Z1, Zd1, Zz1, Zq1⟩ := add_step O2 ⟨#[10]⟩ (90000004 + 16 * k) 1 HY.out.2.1 (by decide) (by have := HIN.out.1; omega)
       have HZ : Hid (Z1.data.toList = L2 ∧ Mem w _ KK) := ⟨by rw [Zd1, HY.out.1, ← HPl.out.1 hne]; simp, HY.out.2.2⟩
       clear HY Zd1 Zz1
       go_wp2_with fail
       go_meet
       case rel => exact ⟨Z1, rfl, HZ⟩
    ·have hz : ¬ (0 : Int) < np := by omega
     have HZ : Hid (B13.data.toList = L2 ∧ Mem w W5 KK) := ⟨HB.out.trans (HPl.out.2 hne), HB5.out⟩
     clear HB HB5
     go_wp2_with fail
     go_meet
     case rel => exact ⟨B13, rfl, HZ⟩
   case rest => as_aux_lemma =>
    obtain ⟨O2, rfl, HY⟩ := hcut
    clear HB HB5 HPl HPo k23 hB13
    have k24 := (KT.out _ HY.out.2).2.1
    have k25 := (KT.out _ HY.out.2).2.2.1
    have hrg := HTG.out.1
    have u1 : IntKind.u64.wrap t.lo = t.lo := wrap64u (by have := hrg.lo; omega) (by have := hrg.lo; omega)
    have u2 : IntKind.u64.wrap t.hi = t.hi := wrap64u (by have := hrg.hi; omega) (by have := hrg.hi; omega)
    have CL := fun X => rdec_b t.lo hrg.lo.1 (by have := hrg.lo; omega) X
    have CH := fun X => rdec_b t.hi hrg.hi.1 (by have := hrg.hi; omega) X
    obtain ⟨s1, hs1⟩ : ∃ s : ByteArray, ⟨(La.dec t.lo).toArray⟩ = s := ⟨_, rfl⟩
    obtain ⟨s2, hs2⟩ : ∃ s : ByteArray, ⟨(La.dec t.hi).toArray⟩ = s := ⟨_, rfl⟩
    simp only [hs1] at CL
    simp only [hs2] at CH
    have x1 := sz_of hs1 (dec_sz t.lo (by have := hrg.lo; omega))
    have x2 := sz_of hs2 (dec_sz t.hi (by have := hrg.hi; omega))
    have hO2 := sz_le HY.out.1 HLL.out.2.2.1
    obtain ⟨C1, Cd1, Cz1, Cq1⟩ := add_step O2 ⟨#[112, 111, 114, 116, 115, 32]⟩ 90000000 6 hO2 (by decide) (by decide)
    obtain ⟨C2, Cd2, Cz2, Cq2⟩ := add_step C1 s1 90000006 20 Cz1 x1.1 (by decide)
    obtain ⟨C3, Cd3, Cz3, Cq3⟩ := add_step C2 ⟨#[32]⟩ 90000026 1 Cz2 (by decide) (by decide)
    obtain ⟨C4, Cd4, Cz4, Cq4⟩ := add_step C3 s2 90000027 20 Cz3 x2.1 (by decide)
    obtain ⟨C5, Cd5, Cz5, Cq5⟩ := add_step C4 ⟨#[10]⟩ 90000047 1 Cz4 (by decide) (by decide)
    have HC : Hid (C5.data.toList = L3) := by
     show C5.data.toList = L3
     rw [← HTX.out.2.1, Cd5, Cd4, Cd3, Cd2, Cd1, HY.out.1, x1.2, x2.2]
     simp [spc, Lib.join_cons, Lib.joinTail, Lib.join, wGateway, wDrain, wTenant, wVni, wKey, wVtep, wHost, wPool, wPorts, wFilter, wStatic, wTwice, wQuota, wRate, txtG, txtH]
    have HMY : Hid (Mem w _ KK) := HY.out.2
    have KS : Hid (∀ X, Mem w X KK → X.cell? ⟨gt, 24, none⟩ = some (.int .u16 t.lo) ∧ X.cell? ⟨gt, 25, none⟩ = some (.int .u16 t.hi)) := fun X hX => ⟨(KT.out X hX).2.1, (KT.out X hX).2.2.1⟩
    clear HY hrg hs1 hs2 x1 x2 hO2 Cd1 Cz1 Cd2 Cz2 Cd3 Cz3 Cd4 Cz4 Cd5 Cz5
    go_upto_region 14 with fail
    have HB0 : Hid (Mem w (World.drew _) KK) := HMY.out.after ((Below.refl _ _).drew)
    clear HMY
    refine wp_region_held_drew (S := fun X => X.cell? ⟨gt, 24, none⟩ = some (.int .u16 t.lo) ∧ X.cell? ⟨gt, 25, none⟩ = some (.int .u16 t.hi)) (by kernel_rfl) (KS.out _ HB0.out) (fun hHeld => ?_)
    refine wpAnyH_take (i := 0) (v := ?_) rfl (by kernel_rfl) (by kernel_rfl) (by kernel_rfl) (fun _ _ _ h => h) (Or.inl ⟨by rfl, ?py0⟩) (by assumption) ?pr0
    case py0 => intro w hSw; (try dsimp only at hSw); go_simp; all_goals with_reducible rfl
    try simp only [getElem_toArray, getElem_cons_zero, getElem_cons_succ, Act.put, setIfInBounds_toArray, set_cons_zero, set_cons_succ]
    refine wpAnyH_take (i := 1) (v := ?_) rfl (by kernel_rfl) (by kernel_rfl) (by kernel_rfl) (fun _ _ _ h => h) (Or.inl ⟨by rfl, ?py1⟩) (by assumption) ?pr1
    case py1 => intro w hSw; (try dsimp only at hSw); go_simp; all_goals with_reducible rfl
    try simp only [getElem_toArray, getElem_cons_zero, getElem_cons_succ, Act.put, setIfInBounds_toArray, set_cons_zero, set_cons_succ]
    refine wpAnyH_take (i := 2) (v := ?_) rfl (by kernel_rfl) (by kernel_rfl) (by kernel_rfl) (fun _ _ _ h => h) (Or.inl ⟨by rfl, ?py2⟩) (by assumption) ?pr2
    case py2 => intro w hSw; (try dsimp only at hSw); go_simp; all_goals with_reducible rfl
    try simp only [getElem_toArray, getElem_cons_zero, getElem_cons_succ, Act.put, setIfInBounds_toArray, set_cons_zero, set_cons_succ]
    refine wpAnyH_take (i := 3) (v := ?_) rfl (by kernel_rfl) (by kernel_rfl) (by kernel_rfl) (fun _ _ _ h => h) (Or.inl ⟨by rfl, ?py3⟩) (by assumption) ?pr3
    case py3 => intro w hSw; (try dsimp only at hSw); go_simp; all_goals with_reducible rfl
    try simp only [getElem_toArray, getElem_cons_zero, getElem_cons_succ, Act.put, setIfInBounds_toArray, set_cons_zero, set_cons_succ]
    refine wpAnyH_take (i := 4) (v := ?_) rfl (by kernel_rfl) (by kernel_rfl) (by kernel_rfl) (fun _ _ _ h => h) (Or.inl ⟨by rfl, ?py4⟩) (by assumption) ?pr4
    case py4 => intro w hSw; (try dsimp only at hSw); go_simp; all_goals with_reducible rfl
    try simp only [getElem_toArray, getElem_cons_zero, getElem_cons_succ, Act.put, setIfInBounds_toArray, set_cons_zero, set_cons_succ]
    refine wpAnyH_take (i := 8) (v := ?_) rfl (by kernel_rfl) (by kernel_rfl) (by kernel_rfl) (fun _ _ _ h => h) (Or.inl ⟨by rfl, ?py8⟩) (by assumption) ?pr8
    case py8 => intro w hSw; (try dsimp only at hSw); go_simp; all_goals with_reducible rfl
    try simp only [getElem_toArray, getElem_cons_zero, getElem_cons_succ, Act.put, setIfInBounds_toArray, set_cons_zero, set_cons_succ]
    refine wpAnyH_take (i := 9) (v := ?_) rfl (by kernel_rfl) (by kernel_rfl) (by kernel_rfl) (fun _ _ _ h => h) (Or.inl ⟨by rfl, ?py9⟩) (by assumption) ?pr9
    case py9 => intro w hSw; (try dsimp only at hSw); go_simp; all_goals with_reducible rfl
    try simp only [getElem_toArray, getElem_cons_zero, getElem_cons_succ, Act.put, setIfInBounds_toArray, set_cons_zero, set_cons_succ]
    refine wpAnyH_take (i := 10) (v := ?_) rfl (by kernel_rfl) (by kernel_rfl) (by kernel_rfl) (fun _ _ _ h => h) (Or.inl ⟨by rfl, ?py10⟩) (by assumption) ?pr10
    case py10 => intro w hSw; (try dsimp only at hSw); go_simp; all_goals with_reducible rfl
    try simp only [getElem_toArray, getElem_cons_zero, getElem_cons_succ, Act.put, setIfInBounds_toArray, set_cons_zero, set_cons_succ]
    refine wpAnyH_ready (rs := [5]) (by kernel_rfl) (by simp) ?_
    refine AllReadyH.cons rfl (fun K hK => ?_) AllReadyH.nil
    go_simp
    with_reducible refine (CL _).mono ?_
    rintro e W1 ⟨rfl, hb1⟩
    try go_wp2_with fail
    refine hK.out _ _ (KS.out _ (HB0.out.after hb1)) (fun hHeld => ?_)
    clear hK K
    try simp only [getElem_toArray, getElem_cons_zero, getElem_cons_succ, Act.put, setIfInBounds_toArray, set_cons_zero, set_cons_succ]
    refine wpAnyH_take (i := 6) (v := ?_) rfl (by kernel_rfl) (by kernel_rfl) (by kernel_rfl) (fun _ _ _ h => h) (Or.inl ⟨by rfl, ?py6⟩) (by assumption) ?pr6
    case py6 => intro w hSw; (try dsimp only at hSw); go_simp; all_goals with_reducible rfl
    try simp only [getElem_toArray, getElem_cons_zero, getElem_cons_succ, Act.put, setIfInBounds_toArray, set_cons_zero, set_cons_succ]
    refine wpAnyH_take (i := 7) (v := ?_) rfl (by kernel_rfl) (by kernel_rfl) (by kernel_rfl) (fun _ _ _ h => h) (Or.inl ⟨by rfl, ?py7⟩) (by assumption) ?pr7
    case py7 => intro w hSw; (try dsimp only at hSw); go_simp; all_goals with_reducible rfl
    try simp only [getElem_toArray, getElem_cons_zero, getElem_cons_succ, Act.put, setIfInBounds_toArray, set_cons_zero, set_cons_succ]
    refine wpAnyH_ready (rs := [11]) (by kernel_rfl) (by simp) ?_
    refine AllReadyH.cons rfl (fun K hK => ?_) AllReadyH.nil
    go_simp
    with_reducible refine (CH _).mono ?_
    rintro e W2 ⟨rfl, hb2⟩
    try go_wp2_with fail
    refine hK.out _ _ (KS.out _ ((HB0.out.after hb1).after hb2)) (fun hHeld => ?_)
    clear hK K
    try simp only [getElem_toArray, getElem_cons_zero, getElem_cons_succ, Act.put, setIfInBounds_toArray, set_cons_zero, set_cons_succ]
    refine wpAnyH_take (i := 12) (v := ?_) rfl (by kernel_rfl) (by kernel_rfl) (by kernel_rfl) (fun _ _ _ h => h) (Or.inl ⟨by rfl, ?py12⟩) (by assumption) ?pr12
    case py12 => intro w hSw; (try dsimp only at hSw); go_simp; all_goals with_reducible rfl
    try simp only [getElem_toArray, getElem_cons_zero, getElem_cons_succ, Act.put, setIfInBounds_toArray, set_cons_zero, set_cons_succ]
    refine wpAnyH_take (i := 13) (v := ?_) rfl (by kernel_rfl) (by kernel_rfl) (by kernel_rfl) (fun _ _ _ h => h) (Or.inl ⟨by rfl, ?py13⟩) (by assumption) ?pr13
    case py13 => intro w hSw; (try dsimp only at hSw); go_simp; all_goals with_reducible rfl
    try simp only [getElem_toArray, getElem_cons_zero, getElem_cons_succ, Act.put, setIfInBounds_toArray, set_cons_zero, set_cons_succ]
    refine wpAnyH_take (i := 14) (v := ?_) rfl (by kernel_rfl) (by kernel_rfl) (by kernel_rfl) (fun _ _ _ h => h) (Or.inl ⟨by rfl, ?py14⟩) (by assumption) ?pr14
    case py14 => intro w hSw; (try dsimp only at hSw); go_simp; all_goals with_reducible rfl
    try simp only [getElem_toArray, getElem_cons_zero, getElem_cons_succ, Act.put, setIfInBounds_toArray, set_cons_zero, set_cons_succ]
    refine wpAnyH_done (by kernel_rfl) ?_ _
    have hM6 : Mem w W2 KK := ((HB0.out.after hb1).after hb2)
    have HM6 : Hid (Mem w W2 KK) := hM6
    have k26 := (KT.out _ hM6).2.2.2.1
    clear hHeld hb1 hb2 hM6 HB0 KS CL CH k24 k25 u1 u2 Cq1 Cq2 Cq3 Cq4 Cq5
    go_upto_block 4 with fail
    go_cut [7] from 41 to 211 (fun f w' => ∃ f2 : ByteArray, f = .string f2 ∧ Hid (f2.data.toList = fw t.filter ∧ f2.size ≤ 7 ∧ Mem w w' KK))
    case first =>
     by_cases hf1 : t.filter = 1
     ·have q1 : (t.filter == 1) = true := by simp [hf1]
      have HZ : Hid ((⟨#[97, 100, 100, 114, 101, 115, 115]⟩ : ByteArray).data.toList = fw t.filter ∧ (⟨#[97, 100, 100, 114, 101, 115, 115]⟩ : ByteArray).size ≤ 7 ∧ Mem w W2 KK) := ⟨by unfold fw; rw [if_pos hf1]; rfl, by decide, HM6.out⟩
      go_wp2_with fail
      go_meet
      case rel => exact ⟨_, rfl, HZ⟩
     ·have q1 : (t.filter == 1) = false := by simpa using hf1
      by_cases hf2 : t.filter = 2
      ·have q2 : (t.filter == 2) = true := by simp [hf2]
       have HZ : Hid ((⟨#[112, 111, 114, 116]⟩ : ByteArray).data.toList = fw t.filter ∧ (⟨#[112, 111, 114, 116]⟩ : ByteArray).size ≤ 7 ∧ Mem w W2 KK) := ⟨by unfold fw; rw [if_neg hf1, if_pos hf2]; rfl, by decide, HM6.out⟩
       go_wp2_with fail
       go_meet
       case rel => exact ⟨_, rfl, HZ⟩
      ·have q2 : (t.filter == 2) = false := by simpa using hf2
       have HZ : Hid ((⟨#[97, 110, 121]⟩ : ByteArray).data.toList = fw t.filter ∧ (⟨#[97, 110, 121]⟩ : ByteArray).size ≤ 7 ∧ Mem w W2 KK) := ⟨by unfold fw; rw [if_neg hf1, if_neg hf2]; rfl, by decide, HM6.out⟩
       go_wp2_with fail
       go_meet
       case rel => exact ⟨_, rfl, HZ⟩
    case rest => as_aux_lemma =>
     obtain ⟨f2, rfl, HF⟩ := hcut
     clear HM6 k26
     have hC5 := sz_le HC.out HLL.out.2.2.2.1
     have x1 := HF.out.2.1
     obtain ⟨D1, Dd1, Dz1, Dq1⟩ := add_step C5 ⟨#[102, 105, 108, 116, 101, 114, 32]⟩ 90000000 7 hC5 (by decide) (by decide)
     obtain ⟨D2, Dd2, Dz2, Dq2⟩ := add_step D1 f2 90000007 7 Dz1 x1 (by decide)
     obtain ⟨D3, Dd3, Dz3, Dq3⟩ := add_step D2 ⟨#[10]⟩ 90000014 1 Dz2 (by decide) (by decide)
     have HD : Hid (D3.data.toList = L4) := by
      show D3.data.toList = L4
      rw [← HTX.out.2.2.1, Dd3, Dd2, Dd1, HC.out, HF.out.1]
      simp [spc, Lib.join_cons, Lib.joinTail, Lib.join, wGateway, wDrain, wTenant, wVni, wKey, wVtep, wHost, wPool, wPorts, wFilter, wStatic, wTwice, wQuota, wRate, txtG, txtH]
     have HM : Hid (Mem w _ KK) := HF.out.2.2
     clear HF HC hC5 x1 Dd1 Dz1 Dd2 Dz2 Dd3 Dz3
     have k27 := (KT.out _ HM.out).2.2.2.2.1
     have z0 : D3.size ≤ 90000100 + 60 * 0 := Nat.le_trans (sz_le HD.out HLL.out.2.2.2.2.1) (by decide)
     have H0 : Hid (D3.data.toList = L4 ++ (txtS wStatic (t.stat.take 0)).flatMap spc ∧ D3.size ≤ 90000100 + 60 * 0 ∧ Mem w _ KK) := ⟨by rw [HD.out]; simp [txtS], z0, HM.out⟩
     clear z0
     go_wp2_with fail
     go_loopw [3, 8] (fun o kk w' => ∃ (k : Nat) (O2 : ByteArray), k ≤ ns ∧ kk = .int .i64 k ∧ o = .string O2 ∧ Hid (O2.data.toList = L4 ++ (txtS wStatic (t.stat.take k)).flatMap spc ∧ O2.size ≤ 90000100 + 60 * k ∧ Mem w w' KK)) (fun _ kk _ => ns - (intOf kk).toNat)
     case atStart => exact ⟨0, D3, Nat.zero_le _, rfl, rfl, H0⟩
     case round =>
      obtain ⟨k, O2, hk, rfl, rfl, HY⟩ := hrel
      clear H0 k27 HD HM
      have k27 := (KT.out _ HY.out.2.2).2.2.2.2.1
      by_cases hkl : k < ns
      ·have h2 : (k : Int) < ns := by omega
       have e8 : IntKind.i64.wrap ((k : Int) + 1) = (k : Int) + 1 := by have := HIN.out; exact wrap64 (by omega) (by omega)
       obtain ⟨bb, of2, x, y, rfl, exy, cx, cy, rx, ry⟩ := HSt.out k hkl _ _ HY.out.2.2
       have CX := fun X => rip_b x rx X
       have CY := fun X => rip_b y ry X
       obtain ⟨sx, hsx⟩ : ∃ s : ByteArray, ⟨(ipx x).toArray⟩ = s := ⟨_, rfl⟩
       obtain ⟨sy, hsy⟩ : ∃ s : ByteArray, ⟨(ipx y).toArray⟩ = s := ⟨_, rfl⟩
       simp only [hsx] at CX
       simp only [hsy] at CY
       have xx := sz_of hsx (ipx_sz x rx)
       have xy := sz_of hsy (ipx_sz y ry)
       obtain ⟨Y1, Yd1, Yz1, Yq1⟩ := add_step O2 ⟨#[115, 116, 97, 116, 105, 99, 32]⟩ (90000100 + 60 * k) 7 HY.out.2.1 (by decide) (by have := HIN.out; omega)
       obtain ⟨Y2, Yd2, Yz2, Yq2⟩ := add_step Y1 sx (90000107 + 60 * k) 15 (by omega) xx.1 (by have := HIN.out; omega)
       obtain ⟨Y3, Yd3, Yz3, Yq3⟩ := add_step Y2 ⟨#[32]⟩ (90000122 + 60 * k) 1 (by omega) (by decide) (by have := HIN.out; omega)
       obtain ⟨Y4, Yd4, Yz4, Yq4⟩ := add_step Y3 sy (90000123 + 60 * k) 15 (by omega) xy.1 (by have := HIN.out; omega)
       obtain ⟨Y5, Yd5, Yz5, Yq5⟩ := add_step Y4 ⟨#[10]⟩ (90000138 + 60 * k) 1 (by omega) (by decide) (by have := HIN.out; omega)
       have HY2 : Hid (Y5.data.toList = L4 ++ (txtS wStatic (t.stat.take (k + 1))).flatMap spc ∧ Y5.size ≤ 90000100 + 60 * (k + 1)) := ⟨by
        rw [Yd5, Yd4, Yd3, Yd2, Yd1, HY.out.1, txtS_snoc _ _ _ _ _ exy, xx.2, xy.2]; simp [spc, Lib.join_cons, Lib.joinTail, Lib.join, wGateway, wDrain, wTenant, wVni, wKey, wVtep, wHost, wPool, wPorts, wFilter, wStatic, wTwice, wQuota, wRate, txtG, txtH], by omega⟩
       have KP : Hid (∀ X, Mem w X KK → X.cell? ⟨gt, 27, none⟩ = some (.slice (some ⟨bb, of2, none⟩) ns tcc) ∧ X.cell? ⟨bb, of2 + k * 2, none⟩ = some (.int .u32 x) ∧ X.cell? ⟨bb, of2 + k * 2 + 1, none⟩ = some (.int .u32 y)) := fun X hX => by
        obtain ⟨b3, o3, x3, y3, e3, f3, c3, d3, -⟩ := HSt.out k hkl X KK hX
        have z1 := Option.some.inj e3
        injection z1 with z1 z2
        subst z1 z2
        rw [exy] at f3
        have z3 := Option.some.inj f3
        injection z3 with z3 z4
        subst z3 z4
        exact ⟨(KT.out X hX).2.2.2.2.1, c3, d3⟩
       have HR1 : Hid (k + 1 ≤ ns ∧ (Value.int .i64 ((k : Int) + 1) = .int .i64 ((k + 1 : Nat) : Int)) ∧ (ns - (intOf (.int .i64 ((k : Int) + 1))).toNat < ns - (intOf (.int .i64 (k : Int))).toNat)) := ⟨by omega, by simp, by simp [intOf]; omega⟩
       have HMY : Hid (Mem w _ KK) := HY.out.2.2
       have HCX : Hid (∀ X, Calls Tryz.prog 36 #[.int .u32 x] X fun e w' => e = .returned (.string sx) ∧ Below X.heap.size X w') := CX
       have HCY : Hid (∀ X, Calls Tryz.prog 36 #[.int .u32 y] X fun e w' => e = .returned (.string sy) ∧ Below X.heap.size X w') := CY
       clear HY Yd1 Yd2 Yd3 Yd4 Yd5 Yz1 Yz2 Yz3 Yz4 Yz5 xx xy hsx hsy exy rx ry CX CY
       go_upto_region 25 with fail
       have HB0 : Hid (Mem w (World.drew _) KK) := HMY.out.after ((Below.refl _ _).drew)
       clear HMY cx cy k27
       refine wp_region_held_drew (S := fun X => X.cell? ⟨gt, 27, none⟩ = some (.slice (some ⟨bb, of2, none⟩) ns tcc) ∧ X.cell? ⟨bb, of2 + k * 2, none⟩ = some (.int .u32 x) ∧ X.cell? ⟨bb, of2 + k * 2 + 1, none⟩ = some (.int .u32 y)) (by kernel_rfl) (KP.out _ HB0.out) (fun hHeld => ?_)
       refine wpAnyH_take (i := 0) (v := ?_) rfl (by kernel_rfl) (by kernel_rfl) (by kernel_rfl) (fun _ _ _ h => h) (Or.inl ⟨by rfl, ?zsy0⟩) (by assumption) ?zsr0
       case zsy0 => intro w hSw; (try dsimp only at hSw); go_simp; all_goals with_reducible rfl
       try simp only [getElem_toArray, getElem_cons_zero, getElem_cons_succ, Act.put, setIfInBounds_toArray, set_cons_zero, set_cons_succ]
       refine wpAnyH_take (i := 1) (v := ?_) rfl (by kernel_rfl) (by kernel_rfl) (by kernel_rfl) (fun _ _ _ h => h) (Or.inl ⟨by rfl, ?zsy1⟩) (by assumption) ?zsr1
       case zsy1 => intro w hSw; (try dsimp only at hSw); go_simp; all_goals with_reducible rfl
       try simp only [getElem_toArray, getElem_cons_zero, getElem_cons_succ, Act.put, setIfInBounds_toArray, set_cons_zero, set_cons_succ]
       refine wpAnyH_take (i := 2) (v := ?_) rfl (by kernel_rfl) (by kernel_rfl) (by kernel_rfl) (fun _ _ _ h => h) (Or.inl ⟨by rfl, ?zsy2⟩) (by assumption) ?zsr2
       case zsy2 => intro w hSw; (try dsimp only at hSw); go_simp; all_goals with_reducible rfl
       try simp only [getElem_toArray, getElem_cons_zero, getElem_cons_succ, Act.put, setIfInBounds_toArray, set_cons_zero, set_cons_succ]
       refine wpAnyH_take (i := 3) (v := ?_) rfl (by kernel_rfl) (by kernel_rfl) (by kernel_rfl) (fun _ _ _ h => h) (Or.inl ⟨by rfl, ?zsy3⟩) (by assumption) ?zsr3
       case zsy3 => intro w hSw; (try dsimp only at hSw); go_simp; all_goals with_reducible rfl
       try simp only [getElem_toArray, getElem_cons_zero, getElem_cons_succ, Act.put, setIfInBounds_toArray, set_cons_zero, set_cons_succ]
       refine wpAnyH_take (i := 4) (v := ?_) rfl (by kernel_rfl) (by kernel_rfl) (by kernel_rfl) (fun _ _ _ h => h) (Or.inl ⟨by rfl, ?zsy4⟩) (by assumption) ?zsr4
       case zsy4 => intro w hSw; (try dsimp only at hSw); go_simp; all_goals with_reducible rfl
       try simp only [getElem_toArray, getElem_cons_zero, getElem_cons_succ, Act.put, setIfInBounds_toArray, set_cons_zero, set_cons_succ]
       refine wpAnyH_take (i := 5) (v := ?_) rfl (by kernel_rfl) (by kernel_rfl) (by kernel_rfl) (fun _ _ _ h => h) (Or.inl ⟨by rfl, ?zsy5⟩) (by assumption) ?zsr5
       case zsy5 => intro w hSw; (try dsimp only at hSw); go_simp; all_goals with_reducible rfl
       try simp only [getElem_toArray, getElem_cons_zero, getElem_cons_succ, Act.put, setIfInBounds_toArray, set_cons_zero, set_cons_succ]
       refine wpAnyH_take (i := 6) (v := ?_) rfl (by kernel_rfl) (by kernel_rfl) (by kernel_rfl) (fun _ _ _ h => h) (Or.inl ⟨by rfl, ?zsy6⟩) (by assumption) ?zsr6
       case zsy6 => intro w hSw; (try dsimp only at hSw); go_simp; all_goals with_reducible rfl
       try simp only [getElem_toArray, getElem_cons_zero, getElem_cons_succ, Act.put, setIfInBounds_toArray, set_cons_zero, set_cons_succ]
       refine wpAnyH_take (i := 7) (v := ?_) rfl (by kernel_rfl) (by kernel_rfl) (by kernel_rfl) (fun _ _ _ h => h) (Or.inl ⟨by rfl, ?zsy7⟩) (by assumption) ?zsr7
       case zsy7 => intro w hSw; (try dsimp only at hSw); go_simp; all_goals with_reducible rfl
       try simp only [getElem_toArray, getElem_cons_zero, getElem_cons_succ, Act.put, setIfInBounds_toArray, set_cons_zero, set_cons_succ]
       refine wpAnyH_take (i := 11) (v := ?_) rfl (by kernel_rfl) (by kernel_rfl) (by kernel_rfl) (fun _ _ _ h => h) (Or.inl ⟨by rfl, ?zsy11⟩) (by assumption) ?zsr11
       case zsy11 => intro w hSw; (try dsimp only at hSw); go_simp; all_goals with_reducible rfl
       try simp only [getElem_toArray, getElem_cons_zero, getElem_cons_succ, Act.put, setIfInBounds_toArray, set_cons_zero, set_cons_succ]
       refine wpAnyH_take (i := 12) (v := ?_) rfl (by kernel_rfl) (by kernel_rfl) (by kernel_rfl) (fun _ _ _ h => h) (Or.inl ⟨by rfl, ?zsy12⟩) (by assumption) ?zsr12
       case zsy12 => intro w hSw; (try dsimp only at hSw); go_simp; all_goals with_reducible rfl
       try simp only [getElem_toArray, getElem_cons_zero, getElem_cons_succ, Act.put, setIfInBounds_toArray, set_cons_zero, set_cons_succ]
       refine wpAnyH_take (i := 13) (v := ?_) rfl (by kernel_rfl) (by kernel_rfl) (by kernel_rfl) (fun _ _ _ h => h) (Or.inl ⟨by rfl, ?zsy13⟩) (by assumption) ?zsr13
       case zsy13 => intro w hSw; (try dsimp only at hSw); go_simp; all_goals with_reducible rfl
       try simp only [getElem_toArray, getElem_cons_zero, getElem_cons_succ, Act.put, setIfInBounds_toArray, set_cons_zero, set_cons_succ]
       refine wpAnyH_take (i := 14) (v := ?_) rfl (by kernel_rfl) (by kernel_rfl) (by kernel_rfl) (fun _ _ _ h => h) (Or.inl ⟨by rfl, ?zsy14⟩) (by assumption) ?zsr14
       case zsy14 => intro w hSw; (try dsimp only at hSw); go_simp; all_goals with_reducible rfl
       try simp only [getElem_toArray, getElem_cons_zero, getElem_cons_succ, Act.put, setIfInBounds_toArray, set_cons_zero, set_cons_succ]
       refine wpAnyH_take (i := 15) (v := ?_) rfl (by kernel_rfl) (by kernel_rfl) (by kernel_rfl) (fun _ _ _ h => h) (Or.inl ⟨by rfl, ?zsy15⟩) (by assumption) ?zsr15
       case zsy15 => intro w hSw; (try dsimp only at hSw); go_simp; all_goals with_reducible rfl
       try simp only [getElem_toArray, getElem_cons_zero, getElem_cons_succ, Act.put, setIfInBounds_toArray, set_cons_zero, set_cons_succ]
       refine wpAnyH_take (i := 16) (v := ?_) rfl (by kernel_rfl) (by kernel_rfl) (by kernel_rfl) (fun _ _ _ h => h) (Or.inl ⟨by rfl, ?zsy16⟩) (by assumption) ?zsr16
       case zsy16 => intro w hSw; (try dsimp only at hSw); go_simp; all_goals with_reducible rfl
       try simp only [getElem_toArray, getElem_cons_zero, getElem_cons_succ, Act.put, setIfInBounds_toArray, set_cons_zero, set_cons_succ]
       refine wpAnyH_ready (rs := [8]) (by kernel_rfl) (by simp) ?_
       refine AllReadyH.cons rfl (fun K hK => ?_) AllReadyH.nil
       go_simp
       with_reducible refine (HCX.out _).mono ?_
       rintro e W1 ⟨rfl, hb1⟩
       try go_wp2_with fail
       refine hK.out _ _ (KP.out _ (HB0.out.after hb1)) (fun hHeld => ?_)
       clear hK K
       try simp only [getElem_toArray, getElem_cons_zero, getElem_cons_succ, Act.put, setIfInBounds_toArray, set_cons_zero, set_cons_succ]
       refine wpAnyH_take (i := 9) (v := ?_) rfl (by kernel_rfl) (by kernel_rfl) (by kernel_rfl) (fun _ _ _ h => h) (Or.inl ⟨by rfl, ?zsy9⟩) (by assumption) ?zsr9
       case zsy9 => intro w hSw; (try dsimp only at hSw); go_simp; all_goals with_reducible rfl
       try simp only [getElem_toArray, getElem_cons_zero, getElem_cons_succ, Act.put, setIfInBounds_toArray, set_cons_zero, set_cons_succ]
       refine wpAnyH_take (i := 10) (v := ?_) rfl (by kernel_rfl) (by kernel_rfl) (by kernel_rfl) (fun _ _ _ h => h) (Or.inl ⟨by rfl, ?zsy10⟩) (by assumption) ?zsr10
       case zsy10 => intro w hSw; (try dsimp only at hSw); go_simp; all_goals with_reducible rfl
       try simp only [getElem_toArray, getElem_cons_zero, getElem_cons_succ, Act.put, setIfInBounds_toArray, set_cons_zero, set_cons_succ]
       refine wpAnyH_ready (rs := [17]) (by kernel_rfl) (by simp) ?_
       refine AllReadyH.cons rfl (fun K hK => ?_) AllReadyH.nil
       go_simp
       with_reducible refine (HCY.out _).mono ?_
       rintro e W2 ⟨rfl, hb2⟩
       try go_wp2_with fail
       refine hK.out _ _ (KP.out _ ((HB0.out.after hb1).after hb2)) (fun hHeld => ?_)
       clear hK K
       try simp only [getElem_toArray, getElem_cons_zero, getElem_cons_succ, Act.put, setIfInBounds_toArray, set_cons_zero, set_cons_succ]
       refine wpAnyH_take (i := 18) (v := ?_) rfl (by kernel_rfl) (by kernel_rfl) (by kernel_rfl) (fun _ _ _ h => h) (Or.inl ⟨by rfl, ?zsy18⟩) (by assumption) ?zsr18
       case zsy18 => intro w hSw; (try dsimp only at hSw); go_simp; all_goals with_reducible rfl
       try simp only [getElem_toArray, getElem_cons_zero, getElem_cons_succ, Act.put, setIfInBounds_toArray, set_cons_zero, set_cons_succ]
       refine wpAnyH_take (i := 19) (v := ?_) rfl (by kernel_rfl) (by kernel_rfl) (by kernel_rfl) (fun _ _ _ h => h) (Or.inl ⟨by rfl, ?zsy19⟩) (by assumption) ?zsr19
       case zsy19 => intro w hSw; (try dsimp only at hSw); go_simp; all_goals with_reducible rfl
       try simp only [getElem_toArray, getElem_cons_zero, getElem_cons_succ, Act.put, setIfInBounds_toArray, set_cons_zero, set_cons_succ]
       refine wpAnyH_take (i := 20) (v := ?_) rfl (by kernel_rfl) (by kernel_rfl) (by kernel_rfl) (fun _ _ _ h => h) (Or.inl ⟨by rfl, ?zsy20⟩) (by assumption) ?zsr20
       case zsy20 => intro w hSw; (try dsimp only at hSw); go_simp; all_goals with_reducible rfl
       try simp only [getElem_toArray, getElem_cons_zero, getElem_cons_succ, Act.put, setIfInBounds_toArray, set_cons_zero, set_cons_succ]
       refine wpAnyH_done (by kernel_rfl) ?_ _
       have HM7 : Hid (Mem w W2 KK) := ((HB0.out.after hb1).after hb2)
       clear hHeld hb1 hb2 HB0 KP Yq1 Yq2 Yq3 Yq4 Yq5 HCX HCY
       go_wp2_with fail
       go_roundw
       case rel => exact ⟨k + 1, Y5, HR1.out.1, HR1.out.2.1, rfl, HY2.out.1, HY2.out.2, HM7.out⟩
       case measure => exact HR1.out.2.2
      ·obtain rfl : k = ns := by omega
       have h2 : ¬ ((k : Int) < k) := by omega
       have HSq : Hid (O2.data.toList = L5) := by
        show O2.data.toList = L5
        have e := HY.out.1
        rw [show t.stat.take k = t.stat from List.take_of_length_le (by omega)] at e
        rw [e]; exact HTX.out.2.2.2.1
       have HM : Hid (Mem w _ KK) := HY.out.2.2
       clear HY hkl
       have k27 := (KT.out _ HM.out).2.2.2.2.2.1
       have z0 : O2.size ≤ 90000100 + 60 * 0 := Nat.le_trans (sz_le HSq.out HLL.out.2.2.2.2.2.1) (by decide)
       have H0 : Hid (O2.data.toList = L5 ++ (txtS wTwice (t.twi.take 0)).flatMap spc ∧ O2.size ≤ 90000100 + 60 * 0 ∧ Mem w _ KK) := ⟨by rw [HSq.out]; simp [txtS], z0, HM.out⟩
       clear z0
       go_wp2_with fail
       go_loopw [3, 9] (fun o kk w' => ∃ (k : Nat) (O2 : ByteArray), k ≤ nt ∧ kk = .int .i64 k ∧ o = .string O2 ∧ Hid (O2.data.toList = L5 ++ (txtS wTwice (t.twi.take k)).flatMap spc ∧ O2.size ≤ 90000100 + 60 * k ∧ Mem w w' KK)) (fun _ kk _ => nt - (intOf kk).toNat)
       case atStart => exact ⟨0, O2, Nat.zero_le _, rfl, rfl, H0⟩
       case round =>
        obtain ⟨k, O2, hk, rfl, rfl, HY⟩ := hrel
        clear H0 k27 HSq HM
        have k27 := (KT.out _ HY.out.2.2).2.2.2.2.2.1
        by_cases hkl : k < nt
        ·have h2 : (k : Int) < nt := by omega
         have e8 : IntKind.i64.wrap ((k : Int) + 1) = (k : Int) + 1 := by have := HIN.out; exact wrap64 (by omega) (by omega)
         obtain ⟨bb, of2, x, y, rfl, exy, cx, cy, rx, ry⟩ := HTw.out k hkl _ _ HY.out.2.2
         have CX := fun X => rip_b x rx X
         have CY := fun X => rip_b y ry X
         obtain ⟨sx, hsx⟩ : ∃ s : ByteArray, ⟨(ipx x).toArray⟩ = s := ⟨_, rfl⟩
         obtain ⟨sy, hsy⟩ : ∃ s : ByteArray, ⟨(ipx y).toArray⟩ = s := ⟨_, rfl⟩
         simp only [hsx] at CX
         simp only [hsy] at CY
         have xx := sz_of hsx (ipx_sz x rx)
         have xy := sz_of hsy (ipx_sz y ry)
         obtain ⟨Y1, Yd1, Yz1, Yq1⟩ := add_step O2 ⟨#[116, 119, 105, 99, 101, 32]⟩ (90000100 + 60 * k) 7 HY.out.2.1 (by decide) (by have := HIN.out; omega)
         obtain ⟨Y2, Yd2, Yz2, Yq2⟩ := add_step Y1 sx (90000107 + 60 * k) 15 (by omega) xx.1 (by have := HIN.out; omega)
         obtain ⟨Y3, Yd3, Yz3, Yq3⟩ := add_step Y2 ⟨#[32]⟩ (90000122 + 60 * k) 1 (by omega) (by decide) (by have := HIN.out; omega)
         obtain ⟨Y4, Yd4, Yz4, Yq4⟩ := add_step Y3 sy (90000123 + 60 * k) 15 (by omega) xy.1 (by have := HIN.out; omega)
         obtain ⟨Y5, Yd5, Yz5, Yq5⟩ := add_step Y4 ⟨#[10]⟩ (90000138 + 60 * k) 1 (by omega) (by decide) (by have := HIN.out; omega)
         have HY2 : Hid (Y5.data.toList = L5 ++ (txtS wTwice (t.twi.take (k + 1))).flatMap spc ∧ Y5.size ≤ 90000100 + 60 * (k + 1)) := ⟨by
          rw [Yd5, Yd4, Yd3, Yd2, Yd1, HY.out.1, txtS_snoc _ _ _ _ _ exy, xx.2, xy.2]; simp [spc, Lib.join_cons, Lib.joinTail, Lib.join, wGateway, wDrain, wTenant, wVni, wKey, wVtep, wHost, wPool, wPorts, wFilter, wStatic, wTwice, wQuota, wRate, txtG, txtH], by omega⟩
         have KP : Hid (∀ X, Mem w X KK → X.cell? ⟨gt, 28, none⟩ = some (.slice (some ⟨bb, of2, none⟩) nt qc) ∧ X.cell? ⟨bb, of2 + k * 2, none⟩ = some (.int .u32 x) ∧ X.cell? ⟨bb, of2 + k * 2 + 1, none⟩ = some (.int .u32 y)) := fun X hX => by
          obtain ⟨b3, o3, x3, y3, e3, f3, c3, d3, -⟩ := HTw.out k hkl X KK hX
          have z1 := Option.some.inj e3
          injection z1 with z1 z2
          subst z1 z2
          rw [exy] at f3
          have z3 := Option.some.inj f3
          injection z3 with z3 z4
          subst z3 z4
          exact ⟨(KT.out X hX).2.2.2.2.2.1, c3, d3⟩
         have HR1 : Hid (k + 1 ≤ nt ∧ (Value.int .i64 ((k : Int) + 1) = .int .i64 ((k + 1 : Nat) : Int)) ∧ (nt - (intOf (.int .i64 ((k : Int) + 1))).toNat < nt - (intOf (.int .i64 (k : Int))).toNat)) := ⟨by omega, by simp, by simp [intOf]; omega⟩
         have HMY : Hid (Mem w _ KK) := HY.out.2.2
         have HCX : Hid (∀ X, Calls Tryz.prog 36 #[.int .u32 x] X fun e w' => e = .returned (.string sx) ∧ Below X.heap.size X w') := CX
         have HCY : Hid (∀ X, Calls Tryz.prog 36 #[.int .u32 y] X fun e w' => e = .returned (.string sy) ∧ Below X.heap.size X w') := CY
         clear HY Yd1 Yd2 Yd3 Yd4 Yd5 Yz1 Yz2 Yz3 Yz4 Yz5 xx xy hsx hsy exy rx ry CX CY
         go_upto_region 29 with fail
         have HB0 : Hid (Mem w (World.drew _) KK) := HMY.out.after ((Below.refl _ _).drew)
         clear HMY cx cy k27
         refine wp_region_held_drew (S := fun X => X.cell? ⟨gt, 28, none⟩ = some (.slice (some ⟨bb, of2, none⟩) nt qc) ∧ X.cell? ⟨bb, of2 + k * 2, none⟩ = some (.int .u32 x) ∧ X.cell? ⟨bb, of2 + k * 2 + 1, none⟩ = some (.int .u32 y)) (by kernel_rfl) (KP.out _ HB0.out) (fun hHeld => ?_)
         refine wpAnyH_take (i := 0) (v := ?_) rfl (by kernel_rfl) (by kernel_rfl) (by kernel_rfl) (fun _ _ _ h => h) (Or.inl ⟨by rfl, ?zwy0⟩) (by assumption) ?zwr0
         case zwy0 => intro w hSw; (try dsimp only at hSw); go_simp; all_goals with_reducible rfl
         try simp only [getElem_toArray, getElem_cons_zero, getElem_cons_succ, Act.put, setIfInBounds_toArray, set_cons_zero, set_cons_succ]
         refine wpAnyH_take (i := 1) (v := ?_) rfl (by kernel_rfl) (by kernel_rfl) (by kernel_rfl) (fun _ _ _ h => h) (Or.inl ⟨by rfl, ?zwy1⟩) (by assumption) ?zwr1
         case zwy1 => intro w hSw; (try dsimp only at hSw); go_simp; all_goals with_reducible rfl
         try simp only [getElem_toArray, getElem_cons_zero, getElem_cons_succ, Act.put, setIfInBounds_toArray, set_cons_zero, set_cons_succ]
         refine wpAnyH_take (i := 2) (v := ?_) rfl (by kernel_rfl) (by kernel_rfl) (by kernel_rfl) (fun _ _ _ h => h) (Or.inl ⟨by rfl, ?zwy2⟩) (by assumption) ?zwr2
         case zwy2 => intro w hSw; (try dsimp only at hSw); go_simp; all_goals with_reducible rfl
         try simp only [getElem_toArray, getElem_cons_zero, getElem_cons_succ, Act.put, setIfInBounds_toArray, set_cons_zero, set_cons_succ]
         refine wpAnyH_take (i := 3) (v := ?_) rfl (by kernel_rfl) (by kernel_rfl) (by kernel_rfl) (fun _ _ _ h => h) (Or.inl ⟨by rfl, ?zwy3⟩) (by assumption) ?zwr3
         case zwy3 => intro w hSw; (try dsimp only at hSw); go_simp; all_goals with_reducible rfl
         try simp only [getElem_toArray, getElem_cons_zero, getElem_cons_succ, Act.put, setIfInBounds_toArray, set_cons_zero, set_cons_succ]
         refine wpAnyH_take (i := 4) (v := ?_) rfl (by kernel_rfl) (by kernel_rfl) (by kernel_rfl) (fun _ _ _ h => h) (Or.inl ⟨by rfl, ?zwy4⟩) (by assumption) ?zwr4
         case zwy4 => intro w hSw; (try dsimp only at hSw); go_simp; all_goals with_reducible rfl
         try simp only [getElem_toArray, getElem_cons_zero, getElem_cons_succ, Act.put, setIfInBounds_toArray, set_cons_zero, set_cons_succ]
         refine wpAnyH_take (i := 5) (v := ?_) rfl (by kernel_rfl) (by kernel_rfl) (by kernel_rfl) (fun _ _ _ h => h) (Or.inl ⟨by rfl, ?zwy5⟩) (by assumption) ?zwr5
         case zwy5 => intro w hSw; (try dsimp only at hSw); go_simp; all_goals with_reducible rfl
         try simp only [getElem_toArray, getElem_cons_zero, getElem_cons_succ, Act.put, setIfInBounds_toArray, set_cons_zero, set_cons_succ]
         refine wpAnyH_take (i := 6) (v := ?_) rfl (by kernel_rfl) (by kernel_rfl) (by kernel_rfl) (fun _ _ _ h => h) (Or.inl ⟨by rfl, ?zwy6⟩) (by assumption) ?zwr6
         case zwy6 => intro w hSw; (try dsimp only at hSw); go_simp; all_goals with_reducible rfl
         try simp only [getElem_toArray, getElem_cons_zero, getElem_cons_succ, Act.put, setIfInBounds_toArray, set_cons_zero, set_cons_succ]
         refine wpAnyH_take (i := 7) (v := ?_) rfl (by kernel_rfl) (by kernel_rfl) (by kernel_rfl) (fun _ _ _ h => h) (Or.inl ⟨by rfl, ?zwy7⟩) (by assumption) ?zwr7
         case zwy7 => intro w hSw; (try dsimp only at hSw); go_simp; all_goals with_reducible rfl
         try simp only [getElem_toArray, getElem_cons_zero, getElem_cons_succ, Act.put, setIfInBounds_toArray, set_cons_zero, set_cons_succ]
         refine wpAnyH_take (i := 11) (v := ?_) rfl (by kernel_rfl) (by kernel_rfl) (by kernel_rfl) (fun _ _ _ h => h) (Or.inl ⟨by rfl, ?zwy11⟩) (by assumption) ?zwr11
         case zwy11 => intro w hSw; (try dsimp only at hSw); go_simp; all_goals with_reducible rfl
         try simp only [getElem_toArray, getElem_cons_zero, getElem_cons_succ, Act.put, setIfInBounds_toArray, set_cons_zero, set_cons_succ]
         refine wpAnyH_take (i := 12) (v := ?_) rfl (by kernel_rfl) (by kernel_rfl) (by kernel_rfl) (fun _ _ _ h => h) (Or.inl ⟨by rfl, ?zwy12⟩) (by assumption) ?zwr12
         case zwy12 => intro w hSw; (try dsimp only at hSw); go_simp; all_goals with_reducible rfl
         try simp only [getElem_toArray, getElem_cons_zero, getElem_cons_succ, Act.put, setIfInBounds_toArray, set_cons_zero, set_cons_succ]
         refine wpAnyH_take (i := 13) (v := ?_) rfl (by kernel_rfl) (by kernel_rfl) (by kernel_rfl) (fun _ _ _ h => h) (Or.inl ⟨by rfl, ?zwy13⟩) (by assumption) ?zwr13
         case zwy13 => intro w hSw; (try dsimp only at hSw); go_simp; all_goals with_reducible rfl
         try simp only [getElem_toArray, getElem_cons_zero, getElem_cons_succ, Act.put, setIfInBounds_toArray, set_cons_zero, set_cons_succ]
         refine wpAnyH_take (i := 14) (v := ?_) rfl (by kernel_rfl) (by kernel_rfl) (by kernel_rfl) (fun _ _ _ h => h) (Or.inl ⟨by rfl, ?zwy14⟩) (by assumption) ?zwr14
         case zwy14 => intro w hSw; (try dsimp only at hSw); go_simp; all_goals with_reducible rfl
         try simp only [getElem_toArray, getElem_cons_zero, getElem_cons_succ, Act.put, setIfInBounds_toArray, set_cons_zero, set_cons_succ]
         refine wpAnyH_take (i := 15) (v := ?_) rfl (by kernel_rfl) (by kernel_rfl) (by kernel_rfl) (fun _ _ _ h => h) (Or.inl ⟨by rfl, ?zwy15⟩) (by assumption) ?zwr15
         case zwy15 => intro w hSw; (try dsimp only at hSw); go_simp; all_goals with_reducible rfl
         try simp only [getElem_toArray, getElem_cons_zero, getElem_cons_succ, Act.put, setIfInBounds_toArray, set_cons_zero, set_cons_succ]
         refine wpAnyH_take (i := 16) (v := ?_) rfl (by kernel_rfl) (by kernel_rfl) (by kernel_rfl) (fun _ _ _ h => h) (Or.inl ⟨by rfl, ?zwy16⟩) (by assumption) ?zwr16
         case zwy16 => intro w hSw; (try dsimp only at hSw); go_simp; all_goals with_reducible rfl
         try simp only [getElem_toArray, getElem_cons_zero, getElem_cons_succ, Act.put, setIfInBounds_toArray, set_cons_zero, set_cons_succ]
         refine wpAnyH_ready (rs := [8]) (by kernel_rfl) (by simp) ?_
         refine AllReadyH.cons rfl (fun K hK => ?_) AllReadyH.nil
         go_simp
         with_reducible refine (HCX.out _).mono ?_
         rintro e W1 ⟨rfl, hb1⟩
         try go_wp2_with fail
         refine hK.out _ _ (KP.out _ (HB0.out.after hb1)) (fun hHeld => ?_)
         clear hK K
         try simp only [getElem_toArray, getElem_cons_zero, getElem_cons_succ, Act.put, setIfInBounds_toArray, set_cons_zero, set_cons_succ]
         refine wpAnyH_take (i := 9) (v := ?_) rfl (by kernel_rfl) (by kernel_rfl) (by kernel_rfl) (fun _ _ _ h => h) (Or.inl ⟨by rfl, ?zwy9⟩) (by assumption) ?zwr9
         case zwy9 => intro w hSw; (try dsimp only at hSw); go_simp; all_goals with_reducible rfl
         try simp only [getElem_toArray, getElem_cons_zero, getElem_cons_succ, Act.put, setIfInBounds_toArray, set_cons_zero, set_cons_succ]
         refine wpAnyH_take (i := 10) (v := ?_) rfl (by kernel_rfl) (by kernel_rfl) (by kernel_rfl) (fun _ _ _ h => h) (Or.inl ⟨by rfl, ?zwy10⟩) (by assumption) ?zwr10
         case zwy10 => intro w hSw; (try dsimp only at hSw); go_simp; all_goals with_reducible rfl
         try simp only [getElem_toArray, getElem_cons_zero, getElem_cons_succ, Act.put, setIfInBounds_toArray, set_cons_zero, set_cons_succ]
         refine wpAnyH_ready (rs := [17]) (by kernel_rfl) (by simp) ?_
         refine AllReadyH.cons rfl (fun K hK => ?_) AllReadyH.nil
         go_simp
         with_reducible refine (HCY.out _).mono ?_
         rintro e W2 ⟨rfl, hb2⟩
         try go_wp2_with fail
         refine hK.out _ _ (KP.out _ ((HB0.out.after hb1).after hb2)) (fun hHeld => ?_)
         clear hK K
         try simp only [getElem_toArray, getElem_cons_zero, getElem_cons_succ, Act.put, setIfInBounds_toArray, set_cons_zero, set_cons_succ]
         refine wpAnyH_take (i := 18) (v := ?_) rfl (by kernel_rfl) (by kernel_rfl) (by kernel_rfl) (fun _ _ _ h => h) (Or.inl ⟨by rfl, ?zwy18⟩) (by assumption) ?zwr18
         case zwy18 => intro w hSw; (try dsimp only at hSw); go_simp; all_goals with_reducible rfl
         try simp only [getElem_toArray, getElem_cons_zero, getElem_cons_succ, Act.put, setIfInBounds_toArray, set_cons_zero, set_cons_succ]
         refine wpAnyH_take (i := 19) (v := ?_) rfl (by kernel_rfl) (by kernel_rfl) (by kernel_rfl) (fun _ _ _ h => h) (Or.inl ⟨by rfl, ?zwy19⟩) (by assumption) ?zwr19
         case zwy19 => intro w hSw; (try dsimp only at hSw); go_simp; all_goals with_reducible rfl
         try simp only [getElem_toArray, getElem_cons_zero, getElem_cons_succ, Act.put, setIfInBounds_toArray, set_cons_zero, set_cons_succ]
         refine wpAnyH_take (i := 20) (v := ?_) rfl (by kernel_rfl) (by kernel_rfl) (by kernel_rfl) (fun _ _ _ h => h) (Or.inl ⟨by rfl, ?zwy20⟩) (by assumption) ?zwr20
         case zwy20 => intro w hSw; (try dsimp only at hSw); go_simp; all_goals with_reducible rfl
         try simp only [getElem_toArray, getElem_cons_zero, getElem_cons_succ, Act.put, setIfInBounds_toArray, set_cons_zero, set_cons_succ]
         refine wpAnyH_done (by kernel_rfl) ?_ _
         have HM7 : Hid (Mem w W2 KK) := ((HB0.out.after hb1).after hb2)
         clear hHeld hb1 hb2 HB0 KP Yq1 Yq2 Yq3 Yq4 Yq5 HCX HCY
         go_wp2_with fail
         go_roundw
         case rel => exact ⟨k + 1, Y5, HR1.out.1, HR1.out.2.1, rfl, HY2.out.1, HY2.out.2, HM7.out⟩
         case measure => exact HR1.out.2.2
        ·obtain rfl : k = nt := by omega
         have h2 : ¬ ((k : Int) < k) := by omega
         have HWq : Hid (O2.data.toList = L6) := by
          show O2.data.toList = L6
          have e := HY.out.1
          rw [show t.twi.take k = t.twi from List.take_of_length_le (by omega)] at e
          rw [e]; exact HTX.out.2.2.2.2.1
         have HM : Hid (Mem w _ KK) := HY.out.2.2
         clear HY hkl
         have hrg := HTG.out.1
         have hsq := HTG.out.2
         have kk := KT.out _ HM.out
         obtain ⟨-, -, -, -, -, -, k29, k30, k31, k32⟩ := kk
         have u3 : IntKind.u64.wrap t.rate = t.rate := wrap64u (by have := hrg.rate; omega) (by have := hrg.rate; omega)
         have u4 : IntKind.u64.wrap t.burst = t.burst := wrap64u (by have := hrg.burst; omega) (by have := hrg.burst; omega)
         have C1 := fun X => rdecS_b t.sess hsq.1 (by have := hrg.sess; omega) X
         have C2 := fun X => rdecS_b t.queue hsq.2 (by have := hrg.queue; omega) X
         have C3 := fun X => rdec_b t.rate hrg.rate.1 (by have := hrg.rate; omega) X
         have C4 := fun X => rdec_b t.burst hrg.burst.1 (by have := hrg.burst; omega) X
         obtain ⟨s1, hs1⟩ : ∃ s : ByteArray, ⟨(La.dec t.sess).toArray⟩ = s := ⟨_, rfl⟩
         obtain ⟨s2, hs2⟩ : ∃ s : ByteArray, ⟨(La.dec t.queue).toArray⟩ = s := ⟨_, rfl⟩
         obtain ⟨s3, hs3⟩ : ∃ s : ByteArray, ⟨(La.dec t.rate).toArray⟩ = s := ⟨_, rfl⟩
         obtain ⟨s4, hs4⟩ : ∃ s : ByteArray, ⟨(La.dec t.burst).toArray⟩ = s := ⟨_, rfl⟩
         simp only [hs1] at C1
         simp only [hs2] at C2
         simp only [hs3] at C3
         simp only [hs4] at C4
         have x1 := sz_of hs1 (dec_sz t.sess (by have := hrg.sess; omega))
         have x2 := sz_of hs2 (dec_sz t.queue (by have := hrg.queue; omega))
         have x3 := sz_of hs3 (dec_sz t.rate (by have := hrg.rate; omega))
         have x4 := sz_of hs4 (dec_sz t.burst (by have := hrg.burst; omega))
         have hO2 := sz_le HWq.out HLL.out.2.2.2.2.2.2
         obtain ⟨G1, Gd1, Gz1, Gq1⟩ := add_step O2 ⟨#[113, 117, 111, 116, 97, 32]⟩ 90000000 6 hO2 (by decide) (by decide)
         obtain ⟨G2, Gd2, Gz2, Gq2⟩ := add_step G1 s1 90000006 20 Gz1 x1.1 (by decide)
         obtain ⟨G3, Gd3, Gz3, Gq3⟩ := add_step G2 ⟨#[32]⟩ 90000026 1 Gz2 (by decide) (by decide)
         obtain ⟨G4, Gd4, Gz4, Gq4⟩ := add_step G3 s2 90000027 20 Gz3 x2.1 (by decide)
         obtain ⟨G5, Gd5, Gz5, Gq5⟩ := add_step G4 ⟨#[10, 114, 97, 116, 101, 32]⟩ 90000047 6 Gz4 (by decide) (by decide)
         obtain ⟨G6, Gd6, Gz6, Gq6⟩ := add_step G5 s3 90000053 20 Gz5 x3.1 (by decide)
         obtain ⟨G7, Gd7, Gz7, Gq7⟩ := add_step G6 ⟨#[32]⟩ 90000073 1 Gz6 (by decide) (by decide)
         obtain ⟨G8, Gd8, Gz8, Gq8⟩ := add_step G7 s4 90000074 20 Gz7 x4.1 (by decide)
         obtain ⟨G9, Gd9, Gz9, Gq9⟩ := add_step G8 ⟨#[10]⟩ 90000094 1 Gz8 (by decide) (by decide)
         have HG : Hid (G9.data.toList = F (i + 1)) := by
          show G9.data.toList = F (i + 1)
          rw [← HTX.out.2.2.2.2.2, Gd9, Gd8, Gd7, Gd6, Gd5, Gd4, Gd3, Gd2, Gd1, HWq.out, x1.2, x2.2, x3.2, x4.2]
          simp [spc, Lib.join_cons, Lib.joinTail, Lib.join, wGateway, wDrain, wTenant, wVni, wKey, wVtep, wHost, wPool, wPorts, wFilter, wStatic, wTwice, wQuota, wRate, txtG, txtH]
         have KQ : Hid (∀ X, Mem w X KK → X.cell? ⟨gt, 29, none⟩ = some (.int .i64 t.sess) ∧ X.cell? ⟨gt, 30, none⟩ = some (.int .i64 t.queue) ∧ X.cell? ⟨gt, 31, none⟩ = some (.int .u32 t.rate) ∧ X.cell? ⟨gt, 32, none⟩ = some (.int .u32 t.burst)) := fun X hX => (KT.out X hX).2.2.2.2.2.2
         clear hrg hsq hs1 hs2 hs3 hs4 x1 x2 x3 x4 hO2 HWq k29 k30 k31 k32 Gd1 Gz1 Gd2 Gz2 Gd3 Gz3 Gd4 Gz4 Gd5 Gz5 Gd6 Gz6 Gd7 Gz7 Gd8 Gz8 Gd9 Gz9
         go_upto_region 30 with fail
         clear k27
         have HB0 : Hid (Mem w (World.drew _) KK) := HM.out.after ((Below.refl _ _).drew)
         refine wp_region_held_drew (S := fun X => X.cell? ⟨gt, 29, none⟩ = some (.int .i64 t.sess) ∧ X.cell? ⟨gt, 30, none⟩ = some (.int .i64 t.queue) ∧ X.cell? ⟨gt, 31, none⟩ = some (.int .u32 t.rate) ∧ X.cell? ⟨gt, 32, none⟩ = some (.int .u32 t.burst)) (by kernel_rfl) (KQ.out _ HB0.out) (fun hHeld => ?_)
         refine wpAnyH_take (i := 0) (v := ?_) rfl (by kernel_rfl) (by kernel_rfl) (by kernel_rfl) (fun _ _ _ h => h) (Or.inl ⟨by rfl, ?fiy0⟩) (by assumption) ?fir0
         case fiy0 => intro w hSw; (try dsimp only at hSw); go_simp; all_goals with_reducible rfl
         try simp only [getElem_toArray, getElem_cons_zero, getElem_cons_succ, Act.put, setIfInBounds_toArray, set_cons_zero, set_cons_succ]
         refine wpAnyH_take (i := 1) (v := ?_) rfl (by kernel_rfl) (by kernel_rfl) (by kernel_rfl) (fun _ _ _ h => h) (Or.inl ⟨by rfl, ?fiy1⟩) (by assumption) ?fir1
         case fiy1 => intro w hSw; (try dsimp only at hSw); go_simp; all_goals with_reducible rfl
         try simp only [getElem_toArray, getElem_cons_zero, getElem_cons_succ, Act.put, setIfInBounds_toArray, set_cons_zero, set_cons_succ]
         refine wpAnyH_take (i := 2) (v := ?_) rfl (by kernel_rfl) (by kernel_rfl) (by kernel_rfl) (fun _ _ _ h => h) (Or.inl ⟨by rfl, ?fiy2⟩) (by assumption) ?fir2
         case fiy2 => intro w hSw; (try dsimp only at hSw); go_simp; all_goals with_reducible rfl
         try simp only [getElem_toArray, getElem_cons_zero, getElem_cons_succ, Act.put, setIfInBounds_toArray, set_cons_zero, set_cons_succ]
         refine wpAnyH_take (i := 3) (v := ?_) rfl (by kernel_rfl) (by kernel_rfl) (by kernel_rfl) (fun _ _ _ h => h) (Or.inl ⟨by rfl, ?fiy3⟩) (by assumption) ?fir3
         case fiy3 => intro w hSw; (try dsimp only at hSw); go_simp; all_goals with_reducible rfl
         try simp only [getElem_toArray, getElem_cons_zero, getElem_cons_succ, Act.put, setIfInBounds_toArray, set_cons_zero, set_cons_succ]
         refine wpAnyH_take (i := 7) (v := ?_) rfl (by kernel_rfl) (by kernel_rfl) (by kernel_rfl) (fun _ _ _ h => h) (Or.inl ⟨by rfl, ?fiy7⟩) (by assumption) ?fir7
         case fiy7 => intro w hSw; (try dsimp only at hSw); go_simp; all_goals with_reducible rfl
         try simp only [getElem_toArray, getElem_cons_zero, getElem_cons_succ, Act.put, setIfInBounds_toArray, set_cons_zero, set_cons_succ]
         refine wpAnyH_take (i := 8) (v := ?_) rfl (by kernel_rfl) (by kernel_rfl) (by kernel_rfl) (fun _ _ _ h => h) (Or.inl ⟨by rfl, ?fiy8⟩) (by assumption) ?fir8
         case fiy8 => intro w hSw; (try dsimp only at hSw); go_simp; all_goals with_reducible rfl
         try simp only [getElem_toArray, getElem_cons_zero, getElem_cons_succ, Act.put, setIfInBounds_toArray, set_cons_zero, set_cons_succ]
         refine wpAnyH_take (i := 12) (v := ?_) rfl (by kernel_rfl) (by kernel_rfl) (by kernel_rfl) (fun _ _ _ h => h) (Or.inl ⟨by rfl, ?fiy12⟩) (by assumption) ?fir12
         case fiy12 => intro w hSw; (try dsimp only at hSw); go_simp; all_goals with_reducible rfl
         try simp only [getElem_toArray, getElem_cons_zero, getElem_cons_succ, Act.put, setIfInBounds_toArray, set_cons_zero, set_cons_succ]
         refine wpAnyH_take (i := 13) (v := ?_) rfl (by kernel_rfl) (by kernel_rfl) (by kernel_rfl) (fun _ _ _ h => h) (Or.inl ⟨by rfl, ?fiy13⟩) (by assumption) ?fir13
         case fiy13 => intro w hSw; (try dsimp only at hSw); go_simp; all_goals with_reducible rfl
         try simp only [getElem_toArray, getElem_cons_zero, getElem_cons_succ, Act.put, setIfInBounds_toArray, set_cons_zero, set_cons_succ]
         refine wpAnyH_take (i := 14) (v := ?_) rfl (by kernel_rfl) (by kernel_rfl) (by kernel_rfl) (fun _ _ _ h => h) (Or.inl ⟨by rfl, ?fiy14⟩) (by assumption) ?fir14
         case fiy14 => intro w hSw; (try dsimp only at hSw); go_simp; all_goals with_reducible rfl
         try simp only [getElem_toArray, getElem_cons_zero, getElem_cons_succ, Act.put, setIfInBounds_toArray, set_cons_zero, set_cons_succ]
         refine wpAnyH_take (i := 18) (v := ?_) rfl (by kernel_rfl) (by kernel_rfl) (by kernel_rfl) (fun _ _ _ h => h) (Or.inl ⟨by rfl, ?fiy18⟩) (by assumption) ?fir18
         case fiy18 => intro w hSw; (try dsimp only at hSw); go_simp; all_goals with_reducible rfl
         try simp only [getElem_toArray, getElem_cons_zero, getElem_cons_succ, Act.put, setIfInBounds_toArray, set_cons_zero, set_cons_succ]
         refine wpAnyH_take (i := 19) (v := ?_) rfl (by kernel_rfl) (by kernel_rfl) (by kernel_rfl) (fun _ _ _ h => h) (Or.inl ⟨by rfl, ?fiy19⟩) (by assumption) ?fir19
         case fiy19 => intro w hSw; (try dsimp only at hSw); go_simp; all_goals with_reducible rfl
         try simp only [getElem_toArray, getElem_cons_zero, getElem_cons_succ, Act.put, setIfInBounds_toArray, set_cons_zero, set_cons_succ]
         refine wpAnyH_take (i := 20) (v := ?_) rfl (by kernel_rfl) (by kernel_rfl) (by kernel_rfl) (fun _ _ _ h => h) (Or.inl ⟨by rfl, ?fiy20⟩) (by assumption) ?fir20
         case fiy20 => intro w hSw; (try dsimp only at hSw); go_simp; all_goals with_reducible rfl
         try simp only [getElem_toArray, getElem_cons_zero, getElem_cons_succ, Act.put, setIfInBounds_toArray, set_cons_zero, set_cons_succ]
         refine wpAnyH_ready (rs := [4]) (by kernel_rfl) (by simp) ?_
         refine AllReadyH.cons rfl (fun K hK => ?_) AllReadyH.nil
         go_simp
         with_reducible refine (C1 _).mono ?_
         rintro e W1 ⟨rfl, hb1⟩
         try go_wp2_with fail
         refine hK.out _ _ (KQ.out _ (HB0.out.after hb1)) (fun hHeld => ?_)
         clear hK K
         try simp only [getElem_toArray, getElem_cons_zero, getElem_cons_succ, Act.put, setIfInBounds_toArray, set_cons_zero, set_cons_succ]
         refine wpAnyH_take (i := 5) (v := ?_) rfl (by kernel_rfl) (by kernel_rfl) (by kernel_rfl) (fun _ _ _ h => h) (Or.inl ⟨by rfl, ?fiy5⟩) (by assumption) ?fir5
         case fiy5 => intro w hSw; (try dsimp only at hSw); go_simp; all_goals with_reducible rfl
         try simp only [getElem_toArray, getElem_cons_zero, getElem_cons_succ, Act.put, setIfInBounds_toArray, set_cons_zero, set_cons_succ]
         refine wpAnyH_take (i := 6) (v := ?_) rfl (by kernel_rfl) (by kernel_rfl) (by kernel_rfl) (fun _ _ _ h => h) (Or.inl ⟨by rfl, ?fiy6⟩) (by assumption) ?fir6
         case fiy6 => intro w hSw; (try dsimp only at hSw); go_simp; all_goals with_reducible rfl
         try simp only [getElem_toArray, getElem_cons_zero, getElem_cons_succ, Act.put, setIfInBounds_toArray, set_cons_zero, set_cons_succ]
         refine wpAnyH_ready (rs := [9]) (by kernel_rfl) (by simp) ?_
         refine AllReadyH.cons rfl (fun K hK => ?_) AllReadyH.nil
         go_simp
         with_reducible refine (C2 _).mono ?_
         rintro e W2 ⟨rfl, hb2⟩
         try go_wp2_with fail
         refine hK.out _ _ (KQ.out _ ((HB0.out.after hb1).after hb2)) (fun hHeld => ?_)
         clear hK K
         try simp only [getElem_toArray, getElem_cons_zero, getElem_cons_succ, Act.put, setIfInBounds_toArray, set_cons_zero, set_cons_succ]
         refine wpAnyH_take (i := 10) (v := ?_) rfl (by kernel_rfl) (by kernel_rfl) (by kernel_rfl) (fun _ _ _ h => h) (Or.inl ⟨by rfl, ?fiy10⟩) (by assumption) ?fir10
         case fiy10 => intro w hSw; (try dsimp only at hSw); go_simp; all_goals with_reducible rfl
         try simp only [getElem_toArray, getElem_cons_zero, getElem_cons_succ, Act.put, setIfInBounds_toArray, set_cons_zero, set_cons_succ]
         refine wpAnyH_take (i := 11) (v := ?_) rfl (by kernel_rfl) (by kernel_rfl) (by kernel_rfl) (fun _ _ _ h => h) (Or.inl ⟨by rfl, ?fiy11⟩) (by assumption) ?fir11
         case fiy11 => intro w hSw; (try dsimp only at hSw); go_simp; all_goals with_reducible rfl
         try simp only [getElem_toArray, getElem_cons_zero, getElem_cons_succ, Act.put, setIfInBounds_toArray, set_cons_zero, set_cons_succ]
         refine wpAnyH_ready (rs := [15]) (by kernel_rfl) (by simp) ?_
         refine AllReadyH.cons rfl (fun K hK => ?_) AllReadyH.nil
         go_simp
         with_reducible refine (C3 _).mono ?_
         rintro e W3 ⟨rfl, hb3⟩
         try go_wp2_with fail
         refine hK.out _ _ (KQ.out _ (((HB0.out.after hb1).after hb2).after hb3)) (fun hHeld => ?_)
         clear hK K
         try simp only [getElem_toArray, getElem_cons_zero, getElem_cons_succ, Act.put, setIfInBounds_toArray, set_cons_zero, set_cons_succ]
         refine wpAnyH_take (i := 16) (v := ?_) rfl (by kernel_rfl) (by kernel_rfl) (by kernel_rfl) (fun _ _ _ h => h) (Or.inl ⟨by rfl, ?fiy16⟩) (by assumption) ?fir16
         case fiy16 => intro w hSw; (try dsimp only at hSw); go_simp; all_goals with_reducible rfl
         try simp only [getElem_toArray, getElem_cons_zero, getElem_cons_succ, Act.put, setIfInBounds_toArray, set_cons_zero, set_cons_succ]
         refine wpAnyH_take (i := 17) (v := ?_) rfl (by kernel_rfl) (by kernel_rfl) (by kernel_rfl) (fun _ _ _ h => h) (Or.inl ⟨by rfl, ?fiy17⟩) (by assumption) ?fir17
         case fiy17 => intro w hSw; (try dsimp only at hSw); go_simp; all_goals with_reducible rfl
         try simp only [getElem_toArray, getElem_cons_zero, getElem_cons_succ, Act.put, setIfInBounds_toArray, set_cons_zero, set_cons_succ]
         refine wpAnyH_ready (rs := [21]) (by kernel_rfl) (by simp) ?_
         refine AllReadyH.cons rfl (fun K hK => ?_) AllReadyH.nil
         go_simp
         with_reducible refine (C4 _).mono ?_
         rintro e W4 ⟨rfl, hb4⟩
         try go_wp2_with fail
         refine hK.out _ _ (KQ.out _ ((((HB0.out.after hb1).after hb2).after hb3).after hb4)) (fun hHeld => ?_)
         clear hK K
         try simp only [getElem_toArray, getElem_cons_zero, getElem_cons_succ, Act.put, setIfInBounds_toArray, set_cons_zero, set_cons_succ]
         refine wpAnyH_take (i := 22) (v := ?_) rfl (by kernel_rfl) (by kernel_rfl) (by kernel_rfl) (fun _ _ _ h => h) (Or.inl ⟨by rfl, ?fiy22⟩) (by assumption) ?fir22
         case fiy22 => intro w hSw; (try dsimp only at hSw); go_simp; all_goals with_reducible rfl
         try simp only [getElem_toArray, getElem_cons_zero, getElem_cons_succ, Act.put, setIfInBounds_toArray, set_cons_zero, set_cons_succ]
         refine wpAnyH_take (i := 23) (v := ?_) rfl (by kernel_rfl) (by kernel_rfl) (by kernel_rfl) (fun _ _ _ h => h) (Or.inl ⟨by rfl, ?fiy23⟩) (by assumption) ?fir23
         case fiy23 => intro w hSw; (try dsimp only at hSw); go_simp; all_goals with_reducible rfl
         try simp only [getElem_toArray, getElem_cons_zero, getElem_cons_succ, Act.put, setIfInBounds_toArray, set_cons_zero, set_cons_succ]
         refine wpAnyH_take (i := 24) (v := ?_) rfl (by kernel_rfl) (by kernel_rfl) (by kernel_rfl) (fun _ _ _ h => h) (Or.inl ⟨by rfl, ?fiy24⟩) (by assumption) ?fir24
         case fiy24 => intro w hSw; (try dsimp only at hSw); go_simp; all_goals with_reducible rfl
         try simp only [getElem_toArray, getElem_cons_zero, getElem_cons_succ, Act.put, setIfInBounds_toArray, set_cons_zero, set_cons_succ]
         refine wpAnyH_done (by kernel_rfl) ?_ _
         have HM8 : Hid (Mem w W4 K1) := HDr.out _ ((((HB0.out.after hb1).after hb2).after hb3).after hb4)
         clear hHeld hb1 hb2 hb3 hb4 HM HB0 KQ C1 C2 C3 C4 u3 u4 Gq1 Gq2 Gq3 Gq4 Gq5 Gq6 Gq7 Gq8 Gq9
         go_wp2_with fail
         go_roundw
         case rel => exact ⟨i + 1, G9, HR0.out.1, HR0.out.2.1, rfl, HG.out, HM8.out⟩
         case measure => exact HR0.out.2.2
  ·obtain rfl : i = N := by omega
   have h1 : ¬ ((i : Int) < i) := by omega
   have HE : Hid (Value.string O = .string ⟨T.toArray⟩ ∧ Below w.heap.size w wr) := ⟨str_is (HX.out.1.trans HW.out), HX.out.2.below⟩
   clear HX HR HS HLe HW
   go_wp2_with fail
   go_ret
   exact ⟨congrArg _ HE.out.1, HE.out.2⟩
end Go.Proofs.YtneciccdiledfaaGreatDoor
namespace Go.Proofs.YtneciccdiledfaaGreatDoor
open Go.RowKit
open List (getElem_toArray getElem_cons_zero getElem_cons_succ setIfInBounds_toArray set_cons_zero set_cons_succ)
open La
open Ad
open Sm (IsBytes)
def Cu (w V : World) (gc g4 : Nat) (c : Cgf) (u : Value) : Prop := ∃ (zs : List Tv) (B C : List (Nat × Obj)), zs.map Prod.fst = c.ten ∧ OwB 45 33 u zs.length (zs.map zc).flatten B ∧ (∀ z ∈ zs, ZB z C) ∧ CLen c ∧ Mem w V ((gc, .cells (cc c u).toArray 29) :: (g4, .cells cz 29) :: (B ++ C))
theorem Cu.after {w V V' : World} {gc g4 : Nat} {c : Cgf} {u : Value} (h : Cu w V gc g4 c u) (hb : Below V.heap.size V V') : Cu w V' gc g4 c u := by
 obtain ⟨zs, B, C, h1, h2, h3, h4, h5⟩ := h; exact ⟨zs, B, C, h1, h2, h3, h4, h5.after hb⟩
theorem Cu.below {w V : World} {gc g4 : Nat} {c : Cgf} {u : Value} (h : Cu w V gc g4 c u) : Below w.heap.size w V := by
 obtain ⟨zs, B, C, h1, h2, h3, h4, h5⟩ := h; exact h5.below
theorem Cu.cell {w V : World} {gc g4 : Nat} {c : Cgf} {u : Value} (h : Cu w V gc g4 c u) : V.cell? ⟨gc, 28, none⟩ = some u := by
 obtain ⟨zs, B, C, h1, h2, h3, h4, h5⟩ := h; exact (h5.cell 0 rfl 28).trans (cc_at28 h4 u)
theorem Cu.sl {w V : World} {gc g4 : Nat} {c : Cgf} {u : Value} (h : Cu w V gc g4 c u) : ∃ a m c', u = .slice a m c' := by
 obtain ⟨zs, B, C, h1, h2, h3, h4, h5⟩ := h; exact owb_slice h2
theorem cu_more {w X X' : World} {gc g4 : Nat} {c : Cgf} {u : Value} {t : Ten} {p s q : Value} {C' : List (Nat × Obj)} (h : Cu w X gc g4 c u) (hn : c.ten.length ≤ 900000) (hl : TLen t) (hz : ZB (t, p, s, q) C') (hM' : Mem X X' C') {A : Array Value} (hA : (tc t p s q).toArray = A) (hon : A.all (·.oneCell') = true) :
  ∃ v4 V4, (Builtin.append_ #[27, 27] 27 #[u, .slice (some ⟨X'.heap.size, 0, none⟩) 1 1]).run Tryz.prog (X'.alloc (.cells A 45)) = .ok v4 V4 ∧ (∃ a m c, v4 = .slice a m c) ∧ (∃ v0, V4.cell? ⟨gc, 28, none⟩ = some v0) ∧ (∀ j, V4.frozen? ⟨gc, j, none⟩ = false) ∧ Below w.heap.size w V4 ∧ Below w.heap.size w (V4.setCell ⟨gc, 28, none⟩ v4) ∧
   Cu w (V4.setCell ⟨gc, 28, none⟩ v4) gc g4 { c with ten := c.ten ++ [t] } v4 := by
 obtain ⟨zs, B, C, ez, hB, hzs, hcl, hM⟩ := h
 have hzl : zs.length = c.ten.length := by rw [← ez, List.length_map]
 have hM2 := (hM.join hM').after ((Below.refl X'.heap.size X').alloc (Nat.le_refl _) (.cells A 45))
 have hon2 : ∀ v ∈ tc t p s q, v.oneCell' = true := by
  rw [← hA, Array.all_eq_true_iff_forall_mem] at hon
  intro v hv
  exact hon v (by simpa using hv)
 obtain ⟨v4, V4, B4, hrun, hM4, hB4⟩ := mem_append (t := 27) (ty := 27) Tryz.underlying27 infoT (by kernel_rfl) (by omega) (K := (gc, .cells (cc c u).toArray 29) :: (g4, .cells cz 29) :: (C ++ C')) (hM2.perm (by
  classical
  rw [List.perm_iff_count]
  intro z
  simp only [List.count_append, List.count_cons, List.count_nil]
  omega)) hB ⟨X'.heap.size, 0, none⟩ (tc t p s q) (tc_len hl _ _ _) (fun j u hj => by
   rw [addr_mid, Nat.zero_add, World.cell?_alloc_new, ← hA]
   simpa using hj) hon2 (by omega) (by omega)
 have hM5 : Mem w V4 ((gc, .cells (cc c u).toArray 29) :: (g4, .cells cz 29) :: (B4 ++ (C ++ C'))) := hM4.perm (by
  classical
  rw [List.perm_iff_count]
  intro z
  simp only [List.count_append, List.count_cons, List.count_nil]
  omega)
 have h6 := hM5.set 0 rfl 28 v4
 rw [List.set_cons_zero, cc_ten c _ v4 hcl] at h6
 refine ⟨v4, V4, hrun, owb_slice hB4, ⟨_, (hM5.cell 0 rfl 28).trans (cc_at28 hcl _)⟩, hM5.free 0 rfl, hM5.below, h6.below, zs ++ [(t, p, s, q)], B4, C ++ C', ?_, ?_, ?_, ⟨hcl.mac, hcl.omac, hcl.nmac, hcl.key⟩, h6⟩
 ·rw [List.map_append, ez]; rfl
 ·rw [List.length_append, List.map_append, List.flatten_append]
  simpa [zc] using hB4
 ·intro z hz'
  rcases List.mem_append.1 hz' with hz' | hz'
  ·exact (hzs z hz').more (fun x hx => List.mem_append_left _ hx)
  ·rw [List.mem_singleton] at hz'; subst hz'
   exact hz.more (fun x hx => List.mem_append_right _ hx)
def ScP (n : Nat) (w : World) (e : Ending) (V : World) : Prop := ∃ c v, e = .returned v ∧ SeatC n c ∧ CVs w.heap.size V v c ∧ Below w.heap.size w V
set_option maxHeartbeats 16000000 in
theorem sconf_any (w : World) (a : Option Addr) (n cap : Nat) (ks : Nat → Int) (hks : ∀ i, i < n → ∃ b off, a = some ⟨b, off, none⟩ ∧ w.cell? ⟨b, off + i, none⟩ = some (.int .u16 (ks i)) ∧ 0 ≤ ks i ∧ ks i ≤ 65535) (d : Int) (hd0 : 0 ≤ d) (hd1 : d ≤ 255) :
  Calls Tryz.prog 17 #[.slice a n cap, .int .u8 d] w (ScP (min n 4) w) := by
 obtain ⟨g4, hg4⟩ : ∃ g4, w.heap.size = g4 := ⟨_, rfl⟩
 obtain ⟨f, hf⟩ : ∃ x : Int, Int.tmod d 8 = x := ⟨_, rfl⟩
 have hf2 : 0 ≤ f ∧ f ≤ 7 := by rw [← hf, Int.tmod_eq_emod_of_nonneg hd0]; omega
 obtain ⟨a0, ha0⟩ : ∃ x : Int, adr 10 9 0 200 = x := ⟨_, rfl⟩
 have A1 : ∀ X, Calls Tryz.prog 41 #[.int .u8 10, .int .u8 9, .int .u8 0, .int .u8 200] X fun e w' => e = .returned (.int .u32 a0) ∧ X = w' := fun X => by rw [← ha0]; exact addr_any X 10 9 0 200 (by omega) (by omega) (by omega) (by omega)
 have e5 : IntKind.u32.wrap f = f := wrap32_small _ (by omega) (by omega)
 have HB0 : Hid ((cc ⟨a0, [2, 1, 0, 0, 0, 0], [2, 2, 0, 0, 0, 0], [2, 3, 0, 0, 0, 0], [200, 0, 0, 0, 0, 0, 0, 0], f, []⟩ nilV).toArray = (cc ⟨a0, [2, 1, 0, 0, 0, 0], [2, 2, 0, 0, 0, 0], [2, 3, 0, 0, 0, 0], [200, 0, 0, 0, 0, 0, 0, 0], f, []⟩ nilV).toArray) := rfl
 obtain ⟨B0, hB0⟩ : ∃ B0, (cc ⟨a0, [2, 1, 0, 0, 0, 0], [2, 2, 0, 0, 0, 0], [2, 3, 0, 0, 0, 0], [200, 0, 0, 0, 0, 0, 0, 0], f, []⟩ nilV).toArray = B0 := ⟨_, rfl⟩
 have HB1 : Hid ((cc ⟨a0, [2, 1, 0, 0, 0, 0], [2, 2, 0, 0, 0, 0], [2, 3, 0, 0, 0, 0], [200, 0, 0, 0, 0, 0, 0, 0], f, []⟩ nilV).toArray = B0) := hB0
 have hsz : B0.size = 29 := by rw [← hB0]; rfl
 have hone : B0.all (·.oneCell') = true := by rw [← hB0]; exact cc_one _ rfl
 have i29 : (Tryz.prog.info? 29).map (·.size) = some B0.size := by rw [hsz]; kernel_rfl
 have hM0 : Mem w (w.alloc (.cells cz 29)) [(g4, .cells cz 29)] := (Mem.nil w).push1 hg4.symm
 obtain ⟨N, hN⟩ : ∃ N, min n 4 = N := ⟨_, rfl⟩
 rw [hN]
 have HN : Hid (N ≤ n ∧ N ≤ 4 ∧ (N = n ∨ N = 4)) := by rw [← hN]; exact ⟨by omega, by omega, by omega⟩
 have HK : Hid (∀ i, i < n → ∃ b off, a = some ⟨b, off, none⟩ ∧ 0 ≤ ks i ∧ ks i ≤ 65535 ∧ ∀ X, Below w.heap.size w X → X.cell? ⟨b, off + i, none⟩ = some (.int .u16 (ks i))) := by
  intro i hi
  obtain ⟨b, off, e, hc, h0, h1⟩ := hks i hi
  exact ⟨b, off, e, h0, h1, fun X hb => (hb.cell (cell_in hc)).trans hc⟩
 have HV : Hid (adr 10 9 0 200 = a0 ∧ 0 ≤ f ∧ f ≤ 7) := ⟨ha0, hf2⟩
 clear hB0 HB0 hf2 ha0 hks hN
 go_enter Tryz.func17, Tryz.ntmps17
 go_upto_region 1 with fail
 refine wp_letter (fun X => Mem w X [(g4, Obj.cells cz 29)]) (by exact hM0) ?_
 intro V0 hM
 try simp only [hg4]
 clear hM0 hg4
 obtain ⟨gc, hgc⟩ : ∃ gc, V0.heap.size = gc := ⟨_, rfl⟩
 have hk1 : (V0.alloc (.cells cz 29)).heap[gc]? = some (.cells cz 29) := by rw [← hgc]; exact heap_alloc_new _ _
 have e9 : (V0.alloc (.cells cz 29)).setRow gc B0 = V0.alloc (.cells B0 29) := by
  rw [← hgc]; exact World.setRow_alloc_new V0 cz B0 29
 have HP : Hid (Cu w ((V0.alloc (.cells cz 29)).setRow gc B0) gc g4 ⟨a0, [2, 1, 0, 0, 0, 0], [2, 2, 0, 0, 0, 0], [2, 3, 0, 0, 0, 0], [200, 0, 0, 0, 0, 0, 0, 0], f, []⟩ nilV) := by
  rw [e9]
  refine ⟨[], [], [], rfl, OwB.nil _ _, by simp, ⟨rfl, rfl, rfl, rfl⟩, ?_⟩
  rw [HB1.out]
  exact hM.front _ hgc.symm
 clear e9 hM
 go_wp2_with fail
 refine (A1 _).mono ?_
 rintro e _ ⟨rfl, rfl⟩
 clear A1
 go_upto_region 2 with (refine wpList_store_row rfl 29 (.tmp 5) (.tmp 15) (by with_reducible rfl) gc B0 (by simp [Act.eval]; try exact hgc) (by rw [← HB1.out]; rfl) 29 cz hk1 i29 (by rw [hsz]; rfl) hone ?_)
 refine wp_letter (fun X => Cu w X gc g4 ⟨a0, [2, 1, 0, 0, 0, 0], [2, 2, 0, 0, 0, 0], [2, 3, 0, 0, 0, 0], [200, 0, 0, 0, 0, 0, 0, 0], f, []⟩ nilV) (by exact HP.out) ?_
 intro V1 hR
 try simp only [hgc]
 have H0 : Hid (∃ ts u, ts.length = 0 ∧ (∀ j t, ts[j]? = some t → SeatT j t) ∧ Cu w V1 gc g4 ⟨a0, [2, 1, 0, 0, 0, 0], [2, 2, 0, 0, 0, 0], [2, 3, 0, 0, 0, 0], [200, 0, 0, 0, 0, 0, 0, 0], f, ts⟩ u) := ⟨[], nilV, rfl, by simp, hR⟩
 clear HP hgc hk1 hsz hone i29 HB1 hR
 go_wp2_with fail
 go_loopw [6] (fun v w' => ∃ i : Nat, i ≤ N ∧ v = .int .i64 i ∧ Hid (∃ ts u, ts.length = i ∧ (∀ j t, ts[j]? = some t → SeatT j t) ∧ Cu w w' gc g4 ⟨a0, [2, 1, 0, 0, 0, 0], [2, 2, 0, 0, 0, 0], [2, 3, 0, 0, 0, 0], [200, 0, 0, 0, 0, 0, 0, 0], f, ts⟩ u)) (fun v w' => N - (intOf v).toNat)
 case atStart => exact ⟨0, Nat.zero_le _, rfl, H0⟩
 case round =>
  obtain ⟨i, hi, rfl, HR⟩ := hrel
  clear H0
  obtain ⟨ts, u, hts, hSt, hC⟩ := HR.out
  obtain ⟨pa, pm, pc, rfl⟩ := hC.sl
  have hNN := HN.out
  by_cases hlt : i < N
  ·have h1 : (i : Int) < n := by omega
   have h2 : (i : Int) < 4 := by omega
   have e7 : IntKind.i64.wrap ((i : Int) + 1) = (i : Int) + 1 := wrap64 (by omega) (by omega)
   obtain ⟨b, off, rfl, hk0, hk1, hkc⟩ := HK.out i (by omega)
   obtain ⟨kk, hkk⟩ : ∃ kk, ks i = kk := ⟨_, rfl⟩
   rw [hkk] at hk0 hk1 hkc
   have CT : ∀ X, Calls Tryz.prog 42 #[.int .i64 (i : Int), .int .u16 kk] X (StP i X) := fun X => sten_any X i (by omega) kk hk0 hk1
   have HKC : Hid (∀ X, Below w.heap.size w X → X.cell? ⟨b, off + i, none⟩ = some (.int .u16 kk)) := hkc
   have HC : Hid (Cu w wr.drew gc g4 ⟨a0, [2, 1, 0, 0, 0, 0], [2, 2, 0, 0, 0, 0], [2, 3, 0, 0, 0, 0], [200, 0, 0, 0, 0, 0, 0, 0], f, ts⟩ (.slice pa pm pc)) := hC.after ((Below.refl _ _).drew)
   have HTS : Hid (ts.length = i ∧ i < N ∧ N ≤ 4 ∧ ∀ j t, ts[j]? = some t → SeatT j t) := ⟨hts, hlt, hNN.2.1, hSt⟩
   have p0 := HC.out.cell
   have pk0 := HKC.out _ HC.out.below
   have pk9 := HKC.out _ hC.below
   have hii : (0 : Int) ≤ i := by omega
   clear hkc hC HR hts hSt hNN hkk hk0 hk1
   go_upto_region 5 with fail
   refine wp_region_held_drew (S := fun X => X.cell? ⟨b, off + i, none⟩ = some (.int .u16 kk)) (by kernel_rfl) pk0 (fun hHeld => ?_)
   refine wpAnyH_take (i := 0) (v := ?_) rfl (by kernel_rfl) (by kernel_rfl) (by kernel_rfl) (fun _ _ _ h => h) (Or.inl ⟨by rfl, ?qay0⟩) (by assumption) ?qar0
   case qay0 => intro w hSw; (try dsimp only at hSw); go_simp; all_goals with_reducible rfl
   try simp only [getElem_toArray, getElem_cons_zero, getElem_cons_succ, Act.put, setIfInBounds_toArray, set_cons_zero, set_cons_succ]
   refine wpAnyH_take (i := 2) (v := ?_) rfl (by kernel_rfl) (by kernel_rfl) (by kernel_rfl) (fun _ _ _ h => h) (Or.inl ⟨by rfl, ?qay2⟩) (by assumption) ?qar2
   case qay2 => intro w hSw; (try dsimp only at hSw); go_simp; all_goals with_reducible rfl
   try simp only [getElem_toArray, getElem_cons_zero, getElem_cons_succ, Act.put, setIfInBounds_toArray, set_cons_zero, set_cons_succ]
   refine wpAnyH_take (i := 3) (v := ?_) rfl (by kernel_rfl) (by kernel_rfl) (by kernel_rfl) (fun _ _ _ h => h) (Or.inl ⟨by rfl, ?qay3⟩) (by assumption) ?qar3
   case qay3 => intro w hSw; (try dsimp only at hSw); go_simp; all_goals with_reducible rfl
   try simp only [getElem_toArray, getElem_cons_zero, getElem_cons_succ, Act.put, setIfInBounds_toArray, set_cons_zero, set_cons_succ]
   refine wpAnyH_take (i := 4) (v := ?_) rfl (by kernel_rfl) (by kernel_rfl) (by kernel_rfl) (fun _ _ _ h => h) (Or.inl ⟨by rfl, ?qay4⟩) (by assumption) ?qar4
   case qay4 => intro w hSw; (try dsimp only at hSw); go_simp; all_goals with_reducible rfl
   try simp only [getElem_toArray, getElem_cons_zero, getElem_cons_succ, Act.put, setIfInBounds_toArray, set_cons_zero, set_cons_succ]
   refine wpAnyH_take (i := 5) (v := ?_) rfl (by kernel_rfl) (by kernel_rfl) (by kernel_rfl) (fun _ _ _ h => h) (Or.inl ⟨by rfl, ?qay5⟩) (by assumption) ?qar5
   case qay5 => intro w hSw; (try dsimp only at hSw); go_simp; all_goals with_reducible rfl
   try simp only [getElem_toArray, getElem_cons_zero, getElem_cons_succ, Act.put, setIfInBounds_toArray, set_cons_zero, set_cons_succ]
   refine wpAnyH_take (i := 6) (v := ?_) rfl (by kernel_rfl) (by kernel_rfl) (by kernel_rfl) (fun _ _ _ h => h) (Or.inl ⟨by rfl, ?qay6⟩) (by assumption) ?qar6
   case qay6 => intro w hSw; (try dsimp only at hSw); go_simp; all_goals with_reducible rfl
   try simp only [getElem_toArray, getElem_cons_zero, getElem_cons_succ, Act.put, setIfInBounds_toArray, set_cons_zero, set_cons_succ]
   refine wpAnyH_ready (rs := [1, 7]) (by kernel_rfl) (by simp) ?_
   refine AllReadyH.cons rfl (fun KK hK => ?_) (AllReadyH.cons rfl (fun KK hK => ?_) AllReadyH.nil)
   ·go_simp
    refine hK.out _ _ (by assumption) (fun hHeld => ?_)
    clear hK KK
    try simp only [getElem_toArray, getElem_cons_zero, getElem_cons_succ, Act.put, setIfInBounds_toArray, set_cons_zero, set_cons_succ]
    refine wpAnyH_ready (rs := [7]) (by kernel_rfl) (by simp) ?_
    refine AllReadyH.cons rfl (fun KK hK => ?_) AllReadyH.nil
    go_simp
    with_reducible refine (CT _).mono ?_
    rintro e V2 ⟨t, p, s, q, C', rfl, hS, hl, hz, hM'⟩
    obtain ⟨A, hA⟩ : ∃ A, (tc t p s q).toArray = A := ⟨_, rfl⟩
    rw [hA]
    have hbs := bsliceT (t, p, s, q) hl
    rw [show (zc (t, p, s, q)).toArray = A from hA] at hbs
    have hbs1 := hbs V2
    have hon : A.all (·.oneCell') = true := by rw [← hA]; exact all_oneCell_toArray (zb_one hz)
    have hB2 := HC.out.below.trans (hM'.below.mono (Below.size HC.out.below))
    have hC2 := HC.out.after hM'.below
    have p1 := hC2.cell
    have p2 := (hC2.after ((Below.refl V2.heap.size V2).alloc (Nat.le_refl _) (.cells A 45))).cell
    have pk1 := HKC.out _ hC2.below
    have pk2 := HKC.out _ (hC2.after ((Below.refl V2.heap.size V2).alloc (Nat.le_refl _) (.cells A 45))).below
    obtain ⟨v4, V4, hrun, ⟨qa, qm, qc, rfl⟩, ⟨v0, cv0⟩, fr4, hb4, hb5, hH⟩ := cu_more HC.out (by show ts.length ≤ _; have := HTS.out; omega) hl hz hM' hA hon
    have pk4 := HKC.out _ hb4
    have pk5 := HKC.out _ hb5
    have HH : Hid (∃ ts u, ts.length = i + 1 ∧ (∀ j t, ts[j]? = some t → SeatT j t) ∧ Cu w (V4.setCell ⟨gc, 28, none⟩ (.slice qa qm qc)) gc g4 ⟨a0, [2, 1, 0, 0, 0, 0], [2, 2, 0, 0, 0, 0], [2, 3, 0, 0, 0, 0], [200, 0, 0, 0, 0, 0, 0, 0], f, ts⟩ u) := by
     refine ⟨ts ++ [t], _, by rw [List.length_append, HTS.out.1]; rfl, fun j t' hj => ?_, hH⟩
     rcases Nat.lt_or_ge j ts.length with hjl | hjl
     ·rw [List.getElem?_append_left hjl] at hj; exact HTS.out.2.2.2 j t' hj
     ·rw [List.getElem?_append_right hjl] at hj
      have hj0 : j - ts.length = 0 := by
       rcases Nat.eq_zero_or_pos (j - ts.length) with h0 | h0
       ·exact h0
       ·rw [List.getElem?_eq_none (by simp; omega)] at hj; cases hj
      rw [hj0] at hj
      have ej : j = i := by have := HTS.out.1; omega
      simp at hj; subst hj; rw [ej]; exact hS
    clear hH hM' hz hS hon hA hl hbs hB2 hC2
    try go_wp2_with fail
    refine hK.out _ _ (by assumption) (fun hHeld => ?_)
    clear hK KK
    try simp only [getElem_toArray, getElem_cons_zero, getElem_cons_succ, Act.put, setIfInBounds_toArray, set_cons_zero, set_cons_succ]
    refine wpAnyH_ready (rs := [8]) (by kernel_rfl) (by simp) ?_
    refine AllReadyH.cons rfl (fun KK hK => ?_) AllReadyH.nil
    refine step_bsl rfl 27 1 _ rfl hbs1 (by simp [Act.eval]) ?_
    refine hK.out _ _ (by assumption) (fun hHeld => ?_)
    clear hK KK
    try simp only [getElem_toArray, getElem_cons_zero, getElem_cons_succ, Act.put, setIfInBounds_toArray, set_cons_zero, set_cons_succ]
    refine wpAnyH_ready (rs := [9]) (by kernel_rfl) (by simp) ?_
    refine AllReadyH.cons rfl (fun KK hK => ?_) AllReadyH.nil
    refine step_append_run rfl (.tmp 27) (.tmp 34) 27 27 rfl (by simp [Act.eval]) (by simp [Act.eval]) hrun ?_
    refine hK.out _ _ (by assumption) (fun hHeld => ?_)
    clear hK KK
    try simp only [getElem_toArray, getElem_cons_zero, getElem_cons_succ, Act.put, setIfInBounds_toArray, set_cons_zero, set_cons_succ]
    refine wpAnyH_take (i := 10) (v := ?_) rfl (by kernel_rfl) (by kernel_rfl) (by kernel_rfl) (fun _ _ _ h => h) (Or.inl ⟨by rfl, ?qbzy10⟩) (by assumption) ?qbzr10
    case qbzy10 => intro w hSw; (try dsimp only at hSw); go_simp; all_goals with_reducible rfl
    try simp only [getElem_toArray, getElem_cons_zero, getElem_cons_succ, Act.put, setIfInBounds_toArray, set_cons_zero, set_cons_succ]
    refine wpAnyH_ready (rs := [11]) (by kernel_rfl) (by simp) ?_
    refine AllReadyH.cons rfl (fun KK hK => ?_) AllReadyH.nil
    go_simp
    refine hK.out _ _ (by assumption) (fun hHeld => ?_)
    clear hK KK
    try simp only [getElem_toArray, getElem_cons_zero, getElem_cons_succ, Act.put, setIfInBounds_toArray, set_cons_zero, set_cons_succ]
    refine wpAnyH_done (by kernel_rfl) ?_ _
    go_wp2_with fail
    go_roundw
    case rel => exact ⟨i + 1, by omega, by go_num, HH⟩
    case measure => simp [intOf]; omega
   ·go_simp
    with_reducible refine (CT _).mono ?_
    rintro e V2 ⟨t, p, s, q, C', rfl, hS, hl, hz, hM'⟩
    obtain ⟨A, hA⟩ : ∃ A, (tc t p s q).toArray = A := ⟨_, rfl⟩
    rw [hA]
    have hbs := bsliceT (t, p, s, q) hl
    rw [show (zc (t, p, s, q)).toArray = A from hA] at hbs
    have hbs1 := hbs V2
    have hon : A.all (·.oneCell') = true := by rw [← hA]; exact all_oneCell_toArray (zb_one hz)
    have hB2 := HC.out.below.trans (hM'.below.mono (Below.size HC.out.below))
    have hC2 := HC.out.after hM'.below
    have p1 := hC2.cell
    have p2 := (hC2.after ((Below.refl V2.heap.size V2).alloc (Nat.le_refl _) (.cells A 45))).cell
    have pk1 := HKC.out _ hC2.below
    have pk2 := HKC.out _ (hC2.after ((Below.refl V2.heap.size V2).alloc (Nat.le_refl _) (.cells A 45))).below
    obtain ⟨v4, V4, hrun, ⟨qa, qm, qc, rfl⟩, ⟨v0, cv0⟩, fr4, hb4, hb5, hH⟩ := cu_more HC.out (by show ts.length ≤ _; have := HTS.out; omega) hl hz hM' hA hon
    have pk4 := HKC.out _ hb4
    have pk5 := HKC.out _ hb5
    have HH : Hid (∃ ts u, ts.length = i + 1 ∧ (∀ j t, ts[j]? = some t → SeatT j t) ∧ Cu w (V4.setCell ⟨gc, 28, none⟩ (.slice qa qm qc)) gc g4 ⟨a0, [2, 1, 0, 0, 0, 0], [2, 2, 0, 0, 0, 0], [2, 3, 0, 0, 0, 0], [200, 0, 0, 0, 0, 0, 0, 0], f, ts⟩ u) := by
     refine ⟨ts ++ [t], _, by rw [List.length_append, HTS.out.1]; rfl, fun j t' hj => ?_, hH⟩
     rcases Nat.lt_or_ge j ts.length with hjl | hjl
     ·rw [List.getElem?_append_left hjl] at hj; exact HTS.out.2.2.2 j t' hj
     ·rw [List.getElem?_append_right hjl] at hj
      have hj0 : j - ts.length = 0 := by
       rcases Nat.eq_zero_or_pos (j - ts.length) with h0 | h0
       ·exact h0
       ·rw [List.getElem?_eq_none (by simp; omega)] at hj; cases hj
      rw [hj0] at hj
      have ej : j = i := by have := HTS.out.1; omega
      simp at hj; subst hj; rw [ej]; exact hS
    clear hH hM' hz hS hon hA hl hbs hB2 hC2
    try go_wp2_with fail
    refine hK.out _ _ (by assumption) (fun hHeld => ?_)
    clear hK KK
    try simp only [getElem_toArray, getElem_cons_zero, getElem_cons_succ, Act.put, setIfInBounds_toArray, set_cons_zero, set_cons_succ]
    refine wpAnyH_ready (rs := [1, 8]) (by kernel_rfl) (by simp) ?_
    refine AllReadyH.cons rfl (fun KK hK => ?_) (AllReadyH.cons rfl (fun KK hK => ?_) AllReadyH.nil)
    ·go_simp
     refine hK.out _ _ (by assumption) (fun hHeld => ?_)
     clear hK KK
     try simp only [getElem_toArray, getElem_cons_zero, getElem_cons_succ, Act.put, setIfInBounds_toArray, set_cons_zero, set_cons_succ]
     refine wpAnyH_ready (rs := [8]) (by kernel_rfl) (by simp) ?_
     refine AllReadyH.cons rfl (fun KK hK => ?_) AllReadyH.nil
     refine step_bsl rfl 27 1 _ rfl hbs1 (by simp [Act.eval]) ?_
     refine hK.out _ _ (by assumption) (fun hHeld => ?_)
     clear hK KK
     try simp only [getElem_toArray, getElem_cons_zero, getElem_cons_succ, Act.put, setIfInBounds_toArray, set_cons_zero, set_cons_succ]
     refine wpAnyH_ready (rs := [9]) (by kernel_rfl) (by simp) ?_
     refine AllReadyH.cons rfl (fun KK hK => ?_) AllReadyH.nil
     refine step_append_run rfl (.tmp 27) (.tmp 34) 27 27 rfl (by simp [Act.eval]) (by simp [Act.eval]) hrun ?_
     refine hK.out _ _ (by assumption) (fun hHeld => ?_)
     clear hK KK
     try simp only [getElem_toArray, getElem_cons_zero, getElem_cons_succ, Act.put, setIfInBounds_toArray, set_cons_zero, set_cons_succ]
     refine wpAnyH_take (i := 10) (v := ?_) rfl (by kernel_rfl) (by kernel_rfl) (by kernel_rfl) (fun _ _ _ h => h) (Or.inl ⟨by rfl, ?qczy10⟩) (by assumption) ?qczr10
     case qczy10 => intro w hSw; (try dsimp only at hSw); go_simp; all_goals with_reducible rfl
     try simp only [getElem_toArray, getElem_cons_zero, getElem_cons_succ, Act.put, setIfInBounds_toArray, set_cons_zero, set_cons_succ]
     refine wpAnyH_ready (rs := [11]) (by kernel_rfl) (by simp) ?_
     refine AllReadyH.cons rfl (fun KK hK => ?_) AllReadyH.nil
     go_simp
     refine hK.out _ _ (by assumption) (fun hHeld => ?_)
     clear hK KK
     try simp only [getElem_toArray, getElem_cons_zero, getElem_cons_succ, Act.put, setIfInBounds_toArray, set_cons_zero, set_cons_succ]
     refine wpAnyH_done (by kernel_rfl) ?_ _
     go_wp2_with fail
     go_roundw
     case rel => exact ⟨i + 1, by omega, by go_num, HH⟩
     case measure => simp [intOf]; omega
    ·refine step_bsl rfl 27 1 _ rfl hbs1 (by simp [Act.eval]) ?_
     refine hK.out _ _ (by assumption) (fun hHeld => ?_)
     clear hK KK
     try simp only [getElem_toArray, getElem_cons_zero, getElem_cons_succ, Act.put, setIfInBounds_toArray, set_cons_zero, set_cons_succ]
     refine wpAnyH_ready (rs := [1]) (by kernel_rfl) (by simp) ?_
     refine AllReadyH.cons rfl (fun KK hK => ?_) AllReadyH.nil
     go_simp
     refine hK.out _ _ (by assumption) (fun hHeld => ?_)
     clear hK KK
     try simp only [getElem_toArray, getElem_cons_zero, getElem_cons_succ, Act.put, setIfInBounds_toArray, set_cons_zero, set_cons_succ]
     refine wpAnyH_ready (rs := [9]) (by kernel_rfl) (by simp) ?_
     refine AllReadyH.cons rfl (fun KK hK => ?_) AllReadyH.nil
     refine step_append_run rfl (.tmp 27) (.tmp 34) 27 27 rfl (by simp [Act.eval]) (by simp [Act.eval]) hrun ?_
     refine hK.out _ _ (by assumption) (fun hHeld => ?_)
     clear hK KK
     try simp only [getElem_toArray, getElem_cons_zero, getElem_cons_succ, Act.put, setIfInBounds_toArray, set_cons_zero, set_cons_succ]
     refine wpAnyH_take (i := 10) (v := ?_) rfl (by kernel_rfl) (by kernel_rfl) (by kernel_rfl) (fun _ _ _ h => h) (Or.inl ⟨by rfl, ?qdzy10⟩) (by assumption) ?qdzr10
     case qdzy10 => intro w hSw; (try dsimp only at hSw); go_simp; all_goals with_reducible rfl
     try simp only [getElem_toArray, getElem_cons_zero, getElem_cons_succ, Act.put, setIfInBounds_toArray, set_cons_zero, set_cons_succ]
     refine wpAnyH_ready (rs := [11]) (by kernel_rfl) (by simp) ?_
     refine AllReadyH.cons rfl (fun KK hK => ?_) AllReadyH.nil
     go_simp
     refine hK.out _ _ (by assumption) (fun hHeld => ?_)
     clear hK KK
     try simp only [getElem_toArray, getElem_cons_zero, getElem_cons_succ, Act.put, setIfInBounds_toArray, set_cons_zero, set_cons_succ]
     refine wpAnyH_done (by kernel_rfl) ?_ _
     go_wp2_with fail
     go_roundw
     case rel => exact ⟨i + 1, by omega, by go_num, HH⟩
     case measure => simp [intOf]; omega
  ·obtain rfl : i = N := by omega
   have hend : SeatC i ⟨a0, [2, 1, 0, 0, 0, 0], [2, 2, 0, 0, 0, 0], [2, 3, 0, 0, 0, 0], [200, 0, 0, 0, 0, 0, 0, 0], f, ts⟩ := ⟨f, ts, HV.out.2.1, HV.out.2.2, by rw [HV.out.1], hts, hNN.2.1, hSt⟩
   obtain ⟨zs, B, C, ez, hB, hz, hcl, hM⟩ := hC
   obtain ⟨A, hA⟩ : ∃ A, (cc ⟨a0, [2, 1, 0, 0, 0, 0], [2, 2, 0, 0, 0, 0], [2, 3, 0, 0, 0, 0], [200, 0, 0, 0, 0, 0, 0, 0], f, ts⟩ (.slice pa pm pc)).toArray = A := ⟨_, rfl⟩
   rw [hA] at hM
   have hsz : A.size = 29 := by rw [← hA, List.size_toArray]; exact cc_len hcl _
   have hone : A.all (·.oneCell') = true := by rw [← hA]; exact cc_one _ rfl
   have i29 : (Tryz.prog.info? 29).map (·.size) = some A.size := by rw [hsz]; kernel_rfl
   have k4 := hM.get 0 rfl
   have k5 := hM.get 1 rfl
   have hM3 := hM.wrote 1 rfl (wrote_setRow wr g4 _ A _ k5)
   have HQ : Hid ((wr.setRow g4 A).heap[g4]? = some (.cells A 29) ∧ ScP i w (.returned (.agg A)) (wr.setRow g4 A)) := by
    refine ⟨hM3.get 1 rfl, _, _, rfl, hend, ?_, hM3.below⟩
    rw [← hA]
    exact cvs_tsb hcl ⟨zs, ez, hB, hz⟩ (by rw [hA]; exact hM3.sub.sub)
   have d1 : (((i : Int) < n) ∧ ¬ ((i : Int) < 4)) ∨ ¬ ((i : Int) < n) := by omega
   clear HR hM hM3 hB hz ez hend hSt hts hcl hA HK hNN HN
   rcases d1 with ⟨h1, h2⟩ | h1
   all_goals
    go_wp2_with (first | (refine wpList_load_row rfl 29 (.tmp 5) (by with_reducible rfl) gc (by first | rfl | simp [Act.eval]) 29 A (0, 0) _ k4 Tryz.underlying29 rfl i29 ?_) | (refine wpList_store_row rfl 29 (.tmp 4) (.tmp 37) (by with_reducible rfl) g4 A (by first | rfl | simp [Act.eval]) (by first | rfl | simp [Act.eval]) 29 cz k5 i29 (by rw [hsz]; rfl) hone ?_))
    refine bodyPost_ret (v := .agg A) ?_ rfl HQ.out.2
    exact results_cell_row (p := 4) (ty := 29) rfl _ _ g4 29 _ (0, 0) _ rfl HQ.out.1 Tryz.underlying29 rfl i29
end Go.Proofs.YtneciccdiledfaaGreatDoor
namespace Go.Proofs.YtneciccdiledfaaGreatDoor
open Go.RowKit
open List (getElem_toArray getElem_cons_zero getElem_cons_succ setIfInBounds_toArray set_cons_zero set_cons_succ)
open La
open Ad
set_option maxHeartbeats 16000000 in
theorem into_none {w V : World} {g : Nat} {lp : List Value} {lt : TypeId} {σ : Sg} {W K L : List (Nat × Obj)} {gc : Nat} {c : Cgf} (hV : Vs w) (hF : FW w) (h : LnS w V g lp lt σ W (L ++ K)) (hC : CfI gc c L) (ht : c.ten = []) {x : Wd} {r : List Wd} (hws : σ.ws = x :: r) (hx : x.1.data.toList ≠ wTenant) :
  Calls Tryz.prog 46 #[.pointer (some ⟨g, 0, none⟩), .pointer (some ⟨gc, 0, none⟩)] V (VP w (done (ln c σ).2) fun e V' => e = .returned (.tuple #[]) ∧ ∃ L', CfI gc (ln c σ).1 L' ∧ LnS w V' g lp lt (done (ln c σ).2) W (L' ++ K)) := by
 have hwd : La.wd σ = x := by unfold La.wd; rw [hws]
 have hnx : nxt σ = ⟨r, σ.fin, none⟩ := by unfold nxt; rw [hws, h.1]
 have hwt : wt σ ≠ wTenant := by unfold wt; rw [hwd]; exact hx
 obtain ⟨fin, hfin⟩ : ∃ f, σ.fin = f := ⟨_, rfl⟩
 have C := take_yes h hws
 rw [hfin] at C hnx
 obtain ⟨x1, x2⟩ := x
 have hln : ln c σ = (c, (⟨r, fin, none⟩ : Sg).fail x2) := by rw [ln_none hwt ht, hnx, hwd]
 rw [hln]
 have HB : Hid ((done ((⟨r, fin, none⟩ : Sg).fail x2)).bad = some x2) := done_bad rfl
 simp only at hx
 have n0 : (x1.toList == [116, 101, 110, 97, 110, 116]) = false := str_ne hx
 obtain ⟨hcl, hh⟩ := hC
 have hLe : L = [(gc, .cells (cc c nilV).toArray 29)] := by
  rcases hh with ⟨-, e⟩ | ⟨zs, t, gt, cap, post, C0, L1, e, -⟩
  ·exact e
  ·rw [ht] at e; simp at e
 subst hLe
 have HCL : Hid (CLen c) := hcl
 clear h hws hx hwd hnx hwt hln hfin hh hcl ht
 go_enter Tryz.func46, Tryz.ntmps46
 go_wp2_with fail
 refine C.mono ?_
 rintro e V1 ⟨rfl, hL⟩
 have HL : Hid (LnS w (V1.alloc (.cells #[.string x1, .int .i64 x2] 149)) g lp lt ⟨r, fin, none⟩ W ((V1.heap.size, .cells #[.string x1, .int .i64 x2] 149) :: ([(gc, .cells (cc c nilV).toArray 29)] ++ K))) := hL.push _ rfl
 clear C hL
 go_upto_region 4 with fail
 refine wp_letter (fun X => LnS w X g lp lt ⟨r, fin, none⟩ W ((V1.heap.size, .cells #[.string x1, .int .i64 x2] 149) :: ([(gc, .cells (cc c nilV).toArray 29)] ++ K))) (by exact HL.out) ?_
 intro V2 hR
 have d28 : V2.cell? ⟨gc, 28, none⟩ = some nilV := (hR.cellK (i := 1) rfl 28).trans (cc_at28 HCL.out _)
 have dw : V2.cell? ⟨V1.heap.size, 1, none⟩ = some (.int .i64 x2) := hR.cellK (i := 0) rfl 1
 have CF := fail_any hR.mem x2
 clear hR HL
 go_wp2_with fail
 refine CF.mono ?_
 rintro e V3 ⟨g', rfl, hM⟩
 exact ⟨rfl, Or.inr ⟨_, HB.out, g', rfl, hM⟩⟩
set_option maxHeartbeats 16000000 in
theorem into_part {w V : World} {g : Nat} {lp : List Value} {lt : TypeId} {σ : Sg} {W K L : List (Nat × Obj)} {gc : Nat} {c : Cgf} (hV : Vs w) (hF : FW w) (h : LnS w V g lp lt σ W (L ++ K)) (hC : CfI gc c L) (hn : ∀ t ∈ c.ten, t.pool.length + σ.ws.length ≤ 900000 ∧ t.stat.length ≤ 900000 ∧ t.twi.length ≤ 900000) (hne : c.ten ≠ []) {x : Wd} {r : List Wd} (hws : σ.ws = x :: r) (hx : x.1.data.toList ≠ wTenant) :
  Calls Tryz.prog 46 #[.pointer (some ⟨g, 0, none⟩), .pointer (some ⟨gc, 0, none⟩)] V (VP w (done (ln c σ).2) fun e V' => e = .returned (.tuple #[]) ∧ ∃ L', CfI gc (ln c σ).1 L' ∧ LnS w V' g lp lt (done (ln c σ).2) W (L' ++ K)) := by
 have hwd : La.wd σ = x := by unfold La.wd; rw [hws]
 have hnx : nxt σ = ⟨r, σ.fin, none⟩ := by unfold nxt; rw [hws, h.1]
 have hwt : wt σ ≠ wTenant := by unfold wt; rw [hwd]; exact hx
 obtain ⟨fin, hfin⟩ : ∃ f, σ.fin = f := ⟨_, rfl⟩
 have C := take_yes h hws
 rw [hfin] at C hnx
 obtain ⟨x1, x2⟩ := x
 obtain ⟨hcl, hh⟩ := hC
 rcases hh with ⟨e, -⟩ | ⟨zs, t, gt, cap, post, C0, L1, e, hz, hT, hc1, hc2, hc3, rfl⟩
 ·exact absurd e hne
 have hln : ln c σ = ({ c with ten := zs.map Prod.fst ++ [(La.part (x1, x2) t ⟨r, fin, none⟩).1] }, (La.part (x1, x2) t ⟨r, fin, none⟩).2) := by rw [ln_some hwt e, hnx, hwd]
 rw [hln]
 simp only at hx
 have n0 : (x1.toList == [116, 101, 110, 97, 110, 116]) = false := str_ne hx
 have hlen : t.pool.length + r.length ≤ 900000 ∧ t.stat.length ≤ 900000 ∧ t.twi.length ≤ 900000 := by
  have := hn t (by rw [e]; simp)
  rw [hws, List.length_cons] at this
  omega
 have hpl : (zs.map zc).flatten.length = zs.length * 33 := zcs_len hz
 obtain ⟨N, hN⟩ : ∃ N, zs.length = N := ⟨_, rfl⟩
 rw [hN] at hpl hc1 hc3
 have HT : Hid (TAt gt (zs.map zc).flatten post 45 t L1) := hT
 have HZ : Hid (zs.length = N ∧ (zs.map zc).flatten.length = N * 33 ∧ CLen c ∧ (∀ z ∈ zs, ZB z C0) ∧ N + 1 ≤ cap ∧ cap ≤ maxLen ∧ (N + 1) * 33 + post.length = cap * 33) := ⟨hN, hpl, hcl, hz, hc1, hc2, hc3⟩
 rw [hN] at h C
 obtain ⟨R, hRR⟩ : ∃ R, La.part (x1, x2) t ⟨r, fin, none⟩ = R := ⟨_, rfl⟩
 have HRR : Hid (La.part (x1, x2) t ⟨r, fin, none⟩ = R) := hRR
 rw [hRR]
 have HLn : Hid (t.pool.length + r.length ≤ 900000 ∧ t.stat.length ≤ 900000 ∧ t.twi.length ≤ 900000) := hlen
 have lz : (0 : Int) < ((N + 1 : Nat) : Int) := by omega
 have wz : IntKind.i64.wrap (((N + 1 : Nat) : Int) - 1) = (N : Int) := by rw [wrap64 (by unfold maxLen at hc2; omega) (by unfold maxLen at hc2; omega)]; omega
 have lz2 : (N : Int) < ((N + 1 : Nat) : Int) := by omega
 clear h hws hx hwd hnx hwt hln hfin hcl hz hT hc1 hc2 hc3 hn hne e hlen hpl hRR
 obtain ⟨M, hM1⟩ : ∃ M, N + 1 = M := ⟨_, rfl⟩
 rw [hM1] at C lz wz lz2
 have HM1 : Hid (N + 1 = M) := hM1
 clear hM1
 go_enter Tryz.func46, Tryz.ntmps46
 go_wp2_with fail
 refine C.mono ?_
 rintro e V1 ⟨rfl, hL⟩
 have HL : Hid (LnS w (V1.alloc (.cells #[.string x1, .int .i64 x2] 149)) g lp lt ⟨r, fin, none⟩ W (L1 ++ ((V1.heap.size, .cells #[.string x1, .int .i64 x2] 149) :: (gc, .cells (cc c (.slice (some ⟨gt, 0, none⟩) M cap)).toArray 29) :: (C0 ++ K)))) := (hL.push _ rfl).perm (by classical rw [List.perm_iff_count]; intro z; simp only [List.count_append, List.count_cons]; omega)
 clear C hL
 go_upto_region 4 with fail
 obtain ⟨gw, hgw⟩ : ∃ gw, V1.heap.size = gw := ⟨_, rfl⟩
 rw [hgw] at HL
 refine wp_letter (fun X => LnS w X g lp lt ⟨r, fin, none⟩ W (L1 ++ ((gw, .cells #[.string x1, .int .i64 x2] 149) :: (gc, .cells (cc c (.slice (some ⟨gt, 0, none⟩) M cap)).toArray 29) :: (C0 ++ K)))) (by exact HL.out) ?_
 intro V2 hR
 try simp only [hgw]
 clear hgw
 have HG : Hid (∀ X σ' L', LnS w X g lp lt σ' W (L' ++ ((gw, .cells #[.string x1, .int .i64 x2] 149) :: (gc, .cells (cc c (.slice (some ⟨gt, 0, none⟩) M cap)).toArray 29) :: (C0 ++ K))) → X.cell? ⟨gw, 0, none⟩ = some (.string x1) ∧ X.cell? ⟨gw, 1, none⟩ = some (.int .i64 x2) ∧ X.cell? ⟨gc, 28, none⟩ = some (.slice (some ⟨gt, 0, none⟩) M cap)) := by
  intro X σ' L' hX
  have h2 := hX.perm (K' := (gw, .cells #[.string x1, .int .i64 x2] 149) :: (gc, .cells (cc c (.slice (some ⟨gt, 0, none⟩) M cap)).toArray 29) :: (L' ++ (C0 ++ K))) (by classical rw [List.perm_iff_count]; intro z; simp only [List.count_append, List.count_cons]; omega)
  exact ⟨h2.cellK (i := 0) rfl 0, h2.cellK (i := 0) rfl 1, (h2.cellK (i := 1) rfl 28).trans (cc_at28 HZ.out.2.2.1 _)⟩
 obtain ⟨c0, c1, c2⟩ := HG.out _ _ _ hR
 have CP := part_any hV hF (hR.after ((Below.refl _ _).drew)) HT.out HLn.out (x1, x2)
 rw [HRR.out, HZ.out.2.1] at CP
 simp only at CP
 clear hR HL
 go_upto_region 5 with fail
 cases hbz : R.2.bad with
 | some a =>
  have hdb : (done R.2).bad = some a := done_bad hbz
  have C2 : Calls Tryz.prog 83 #[.pointer (some ⟨g, 0, none⟩), .agg #[.string x1, .int .i64 x2], .pointer (some ⟨gt, N * 33, none⟩)] V2.drew (Pan w a) := CP.mono (by
   rintro e V3 (⟨h1, -⟩ | ⟨a', h1, hP⟩)
   ·rw [hbz] at h1; cases h1
   ·rw [hbz] at h1; cases h1; exact hP)
  clear CP hbz
  refine wp_region_held_drew (S := fun X => X.cell? ⟨gw, 0, none⟩ = some (.string x1) ∧ X.cell? ⟨gw, 1, none⟩ = some (.int .i64 x2) ∧ X.cell? ⟨gc, 28, none⟩ = some (.slice (some ⟨gt, 0, none⟩) M cap)) (by kernel_rfl) ⟨c0, c1, c2⟩ (fun hHeld => ?_)
  refine wpAnyH_take (i := 0) (v := ?_) rfl (by kernel_rfl) (by kernel_rfl) (by kernel_rfl) (fun _ _ _ h => h) (Or.inl ⟨by rfl, ?py0⟩) (by assumption) ?pr0
  case py0 => intro w hSw; (try dsimp only at hSw); go_simp; all_goals with_reducible rfl
  try simp only [getElem_toArray, getElem_cons_zero, getElem_cons_succ, Act.put, setIfInBounds_toArray, set_cons_zero, set_cons_succ]
  refine wpAnyH_take (i := 1) (v := ?_) rfl (by kernel_rfl) (by kernel_rfl) (by kernel_rfl) (fun _ _ _ h => h) (Or.inl ⟨by rfl, ?py1⟩) (by assumption) ?pr1
  case py1 => intro w hSw; (try dsimp only at hSw); go_simp; all_goals with_reducible rfl
  try simp only [getElem_toArray, getElem_cons_zero, getElem_cons_succ, Act.put, setIfInBounds_toArray, set_cons_zero, set_cons_succ]
  refine wpAnyH_take (i := 2) (v := ?_) rfl (by kernel_rfl) (by kernel_rfl) (by kernel_rfl) (fun _ _ _ h => h) (Or.inl ⟨by rfl, ?py2⟩) (by assumption) ?pr2
  case py2 => intro w hSw; (try dsimp only at hSw); go_simp; all_goals with_reducible rfl
  try simp only [getElem_toArray, getElem_cons_zero, getElem_cons_succ, Act.put, setIfInBounds_toArray, set_cons_zero, set_cons_succ]
  refine wpAnyH_take (i := 3) (v := ?_) rfl (by kernel_rfl) (by kernel_rfl) (by kernel_rfl) (fun _ _ _ h => h) (Or.inl ⟨by rfl, ?py3⟩) (by assumption) ?pr3
  case py3 => intro w hSw; (try dsimp only at hSw); go_simp; all_goals with_reducible rfl
  try simp only [getElem_toArray, getElem_cons_zero, getElem_cons_succ, Act.put, setIfInBounds_toArray, set_cons_zero, set_cons_succ]
  refine wpAnyH_take (i := 4) (v := ?_) rfl (by kernel_rfl) (by kernel_rfl) (by kernel_rfl) (fun _ _ _ h => h) (Or.inl ⟨by rfl, ?py4⟩) (by assumption) ?pr4
  case py4 => intro w hSw; (try dsimp only at hSw); go_simp; all_goals with_reducible rfl
  try simp only [getElem_toArray, getElem_cons_zero, getElem_cons_succ, Act.put, setIfInBounds_toArray, set_cons_zero, set_cons_succ]
  refine wpAnyH_take (i := 5) (v := ?_) rfl (by kernel_rfl) (by kernel_rfl) (by kernel_rfl) (fun _ _ _ h => h) (Or.inl ⟨by rfl, ?py5⟩) (by assumption) ?pr5
  case py5 => intro w hSw; (try dsimp only at hSw); go_simp; all_goals with_reducible rfl
  try simp only [getElem_toArray, getElem_cons_zero, getElem_cons_succ, Act.put, setIfInBounds_toArray, set_cons_zero, set_cons_succ]
  refine wpAnyH_take (i := 6) (v := ?_) rfl (by kernel_rfl) (by kernel_rfl) (by kernel_rfl) (fun _ _ _ h => h) (Or.inl ⟨by rfl, ?py6⟩) (by assumption) ?pr6
  case py6 => intro w hSw; (try dsimp only at hSw); go_simp; all_goals with_reducible rfl
  try simp only [getElem_toArray, getElem_cons_zero, getElem_cons_succ, Act.put, setIfInBounds_toArray, set_cons_zero, set_cons_succ]
  refine wpAnyH_take (i := 7) (v := ?_) rfl (by kernel_rfl) (by kernel_rfl) (by kernel_rfl) (fun _ _ _ h => h) (Or.inl ⟨by rfl, ?py7⟩) (by assumption) ?pr7
  case py7 => intro w hSw; (try dsimp only at hSw); go_simp; all_goals with_reducible rfl
  try simp only [getElem_toArray, getElem_cons_zero, getElem_cons_succ, Act.put, setIfInBounds_toArray, set_cons_zero, set_cons_succ]
  refine wpAnyH_take (i := 8) (v := ?_) rfl (by kernel_rfl) (by kernel_rfl) (by kernel_rfl) (fun _ _ _ h => h) (Or.inl ⟨by rfl, ?py8⟩) (by assumption) ?pr8
  case py8 => intro w hSw; (try dsimp only at hSw); go_simp; all_goals with_reducible rfl
  try simp only [getElem_toArray, getElem_cons_zero, getElem_cons_succ, Act.put, setIfInBounds_toArray, set_cons_zero, set_cons_succ]
  refine wpAnyH_take (i := 9) (v := ?_) rfl (by kernel_rfl) (by kernel_rfl) (by kernel_rfl) (fun _ _ _ h => h) (Or.inl ⟨by rfl, ?py9⟩) (by assumption) ?pr9
  case py9 => intro w hSw; (try dsimp only at hSw); go_simp; all_goals with_reducible rfl
  try simp only [getElem_toArray, getElem_cons_zero, getElem_cons_succ, Act.put, setIfInBounds_toArray, set_cons_zero, set_cons_succ]
  refine wpAnyH_take (i := 10) (v := ?_) rfl (by kernel_rfl) (by kernel_rfl) (by kernel_rfl) (fun _ _ _ h => h) (Or.inl ⟨by rfl, ?py10⟩) (by assumption) ?pr10
  case py10 => intro w hSw; (try dsimp only at hSw); go_simp; all_goals with_reducible rfl
  try simp only [getElem_toArray, getElem_cons_zero, getElem_cons_succ, Act.put, setIfInBounds_toArray, set_cons_zero, set_cons_succ]
  refine wpAnyH_take (i := 11) (v := ?_) rfl (by kernel_rfl) (by kernel_rfl) (by kernel_rfl) (fun _ _ _ h => h) (Or.inl ⟨by rfl, ?py11⟩) (by assumption) ?pr11
  case py11 => intro w hSw; (try dsimp only at hSw); go_simp; all_goals with_reducible rfl
  try simp only [getElem_toArray, getElem_cons_zero, getElem_cons_succ, Act.put, setIfInBounds_toArray, set_cons_zero, set_cons_succ]
  refine wpAnyH_take (i := 12) (v := ?_) rfl (by kernel_rfl) (by kernel_rfl) (by kernel_rfl) (fun _ _ _ h => h) (Or.inl ⟨by rfl, ?py12⟩) (by assumption) ?pr12
  case py12 => intro w hSw; (try dsimp only at hSw); go_simp; all_goals with_reducible rfl
  try simp only [getElem_toArray, getElem_cons_zero, getElem_cons_succ, Act.put, setIfInBounds_toArray, set_cons_zero, set_cons_succ]
  refine wpAnyH_ready (rs := [13]) (by kernel_rfl) (by simp) ?_
  refine AllReadyH.cons rfl (fun KK hK => ?_) AllReadyH.nil
  go_simp
  with_reducible refine C2.mono ?_
  rintro e V3 ⟨g', rfl, hM⟩
  exact ⟨rfl, Or.inr ⟨_, hdb, g', rfl, hM⟩⟩
 | none =>
  have C2 : Calls Tryz.prog 83 #[.pointer (some ⟨g, 0, none⟩), .agg #[.string x1, .int .i64 x2], .pointer (some ⟨gt, N * 33, none⟩)] V2.drew fun e V' => e = .returned (.tuple #[]) ∧ ∃ L', TAt gt (zs.map zc).flatten post 45 R.1 L' ∧ LnS w V' g lp lt R.2 W (L' ++ ((gw, .cells #[.string x1, .int .i64 x2] 149) :: (gc, .cells (cc c (.slice (some ⟨gt, 0, none⟩) M cap)).toArray 29) :: (C0 ++ K))) := CP.mono (by
   rintro e V3 (⟨h1, hP⟩ | ⟨a', h1, hP⟩)
   ·exact hP
   ·rw [hbz] at h1; cases h1)
  clear CP hbz
  refine wp_region_held_drew (S := fun X => X.cell? ⟨gw, 0, none⟩ = some (.string x1) ∧ X.cell? ⟨gw, 1, none⟩ = some (.int .i64 x2) ∧ X.cell? ⟨gc, 28, none⟩ = some (.slice (some ⟨gt, 0, none⟩) M cap)) (by kernel_rfl) ⟨c0, c1, c2⟩ (fun hHeld => ?_)
  refine wpAnyH_take (i := 0) (v := ?_) rfl (by kernel_rfl) (by kernel_rfl) (by kernel_rfl) (fun _ _ _ h => h) (Or.inl ⟨by rfl, ?qy0⟩) (by assumption) ?qr0
  case qy0 => intro w hSw; (try dsimp only at hSw); go_simp; all_goals with_reducible rfl
  try simp only [getElem_toArray, getElem_cons_zero, getElem_cons_succ, Act.put, setIfInBounds_toArray, set_cons_zero, set_cons_succ]
  refine wpAnyH_take (i := 1) (v := ?_) rfl (by kernel_rfl) (by kernel_rfl) (by kernel_rfl) (fun _ _ _ h => h) (Or.inl ⟨by rfl, ?qy1⟩) (by assumption) ?qr1
  case qy1 => intro w hSw; (try dsimp only at hSw); go_simp; all_goals with_reducible rfl
  try simp only [getElem_toArray, getElem_cons_zero, getElem_cons_succ, Act.put, setIfInBounds_toArray, set_cons_zero, set_cons_succ]
  refine wpAnyH_take (i := 2) (v := ?_) rfl (by kernel_rfl) (by kernel_rfl) (by kernel_rfl) (fun _ _ _ h => h) (Or.inl ⟨by rfl, ?qy2⟩) (by assumption) ?qr2
  case qy2 => intro w hSw; (try dsimp only at hSw); go_simp; all_goals with_reducible rfl
  try simp only [getElem_toArray, getElem_cons_zero, getElem_cons_succ, Act.put, setIfInBounds_toArray, set_cons_zero, set_cons_succ]
  refine wpAnyH_take (i := 3) (v := ?_) rfl (by kernel_rfl) (by kernel_rfl) (by kernel_rfl) (fun _ _ _ h => h) (Or.inl ⟨by rfl, ?qy3⟩) (by assumption) ?qr3
  case qy3 => intro w hSw; (try dsimp only at hSw); go_simp; all_goals with_reducible rfl
  try simp only [getElem_toArray, getElem_cons_zero, getElem_cons_succ, Act.put, setIfInBounds_toArray, set_cons_zero, set_cons_succ]
  refine wpAnyH_take (i := 4) (v := ?_) rfl (by kernel_rfl) (by kernel_rfl) (by kernel_rfl) (fun _ _ _ h => h) (Or.inl ⟨by rfl, ?qy4⟩) (by assumption) ?qr4
  case qy4 => intro w hSw; (try dsimp only at hSw); go_simp; all_goals with_reducible rfl
  try simp only [getElem_toArray, getElem_cons_zero, getElem_cons_succ, Act.put, setIfInBounds_toArray, set_cons_zero, set_cons_succ]
  refine wpAnyH_take (i := 5) (v := ?_) rfl (by kernel_rfl) (by kernel_rfl) (by kernel_rfl) (fun _ _ _ h => h) (Or.inl ⟨by rfl, ?qy5⟩) (by assumption) ?qr5
  case qy5 => intro w hSw; (try dsimp only at hSw); go_simp; all_goals with_reducible rfl
  try simp only [getElem_toArray, getElem_cons_zero, getElem_cons_succ, Act.put, setIfInBounds_toArray, set_cons_zero, set_cons_succ]
  refine wpAnyH_take (i := 6) (v := ?_) rfl (by kernel_rfl) (by kernel_rfl) (by kernel_rfl) (fun _ _ _ h => h) (Or.inl ⟨by rfl, ?qy6⟩) (by assumption) ?qr6
  case qy6 => intro w hSw; (try dsimp only at hSw); go_simp; all_goals with_reducible rfl
  try simp only [getElem_toArray, getElem_cons_zero, getElem_cons_succ, Act.put, setIfInBounds_toArray, set_cons_zero, set_cons_succ]
  refine wpAnyH_take (i := 7) (v := ?_) rfl (by kernel_rfl) (by kernel_rfl) (by kernel_rfl) (fun _ _ _ h => h) (Or.inl ⟨by rfl, ?qy7⟩) (by assumption) ?qr7
  case qy7 => intro w hSw; (try dsimp only at hSw); go_simp; all_goals with_reducible rfl
  try simp only [getElem_toArray, getElem_cons_zero, getElem_cons_succ, Act.put, setIfInBounds_toArray, set_cons_zero, set_cons_succ]
  refine wpAnyH_take (i := 8) (v := ?_) rfl (by kernel_rfl) (by kernel_rfl) (by kernel_rfl) (fun _ _ _ h => h) (Or.inl ⟨by rfl, ?qy8⟩) (by assumption) ?qr8
  case qy8 => intro w hSw; (try dsimp only at hSw); go_simp; all_goals with_reducible rfl
  try simp only [getElem_toArray, getElem_cons_zero, getElem_cons_succ, Act.put, setIfInBounds_toArray, set_cons_zero, set_cons_succ]
  refine wpAnyH_take (i := 9) (v := ?_) rfl (by kernel_rfl) (by kernel_rfl) (by kernel_rfl) (fun _ _ _ h => h) (Or.inl ⟨by rfl, ?qy9⟩) (by assumption) ?qr9
  case qy9 => intro w hSw; (try dsimp only at hSw); go_simp; all_goals with_reducible rfl
  try simp only [getElem_toArray, getElem_cons_zero, getElem_cons_succ, Act.put, setIfInBounds_toArray, set_cons_zero, set_cons_succ]
  refine wpAnyH_take (i := 10) (v := ?_) rfl (by kernel_rfl) (by kernel_rfl) (by kernel_rfl) (fun _ _ _ h => h) (Or.inl ⟨by rfl, ?qy10⟩) (by assumption) ?qr10
  case qy10 => intro w hSw; (try dsimp only at hSw); go_simp; all_goals with_reducible rfl
  try simp only [getElem_toArray, getElem_cons_zero, getElem_cons_succ, Act.put, setIfInBounds_toArray, set_cons_zero, set_cons_succ]
  refine wpAnyH_take (i := 11) (v := ?_) rfl (by kernel_rfl) (by kernel_rfl) (by kernel_rfl) (fun _ _ _ h => h) (Or.inl ⟨by rfl, ?qy11⟩) (by assumption) ?qr11
  case qy11 => intro w hSw; (try dsimp only at hSw); go_simp; all_goals with_reducible rfl
  try simp only [getElem_toArray, getElem_cons_zero, getElem_cons_succ, Act.put, setIfInBounds_toArray, set_cons_zero, set_cons_succ]
  refine wpAnyH_take (i := 12) (v := ?_) rfl (by kernel_rfl) (by kernel_rfl) (by kernel_rfl) (fun _ _ _ h => h) (Or.inl ⟨by rfl, ?qy12⟩) (by assumption) ?qr12
  case qy12 => intro w hSw; (try dsimp only at hSw); go_simp; all_goals with_reducible rfl
  try simp only [getElem_toArray, getElem_cons_zero, getElem_cons_succ, Act.put, setIfInBounds_toArray, set_cons_zero, set_cons_succ]
  refine wpAnyH_ready (rs := [13]) (by kernel_rfl) (by simp) ?_
  refine AllReadyH.cons rfl (fun KK hK => ?_) AllReadyH.nil
  go_simp
  with_reducible refine C2.mono ?_
  rintro e V3 ⟨rfl, L', hTP, hLP⟩
  try go_wp2_with fail
  refine hK.out _ _ (HG.out _ _ _ hLP) (fun hHeld => ?_)
  clear hK KK C2
  refine wpAnyH_done (by kernel_rfl) ?_ _
  have h5 := hLP.perm (K' := (gw, .cells #[.string x1, .int .i64 x2] 149) :: (((gc, .cells (cc c (.slice (some ⟨gt, 0, none⟩) M cap)).toArray 29) :: (L' ++ C0)) ++ K)) (by classical rw [List.perm_iff_count]; intro z; simp only [List.count_append, List.count_cons]; omega)
  have CE := mustEnd_any h5.drop1
  have HCF : Hid (CfI gc { c with ten := zs.map Prod.fst ++ [R.1] } ((gc, .cells (cc c (.slice (some ⟨gt, 0, none⟩) M cap)).toArray 29) :: (L' ++ C0))) := by
   obtain ⟨z1, z2, z3, z4, z5, z6, z7⟩ := HZ.out
   refine ⟨⟨z3.mac, z3.omac, z3.nmac, z3.key⟩, Or.inr ⟨zs, R.1, gt, cap, post, C0, L', rfl, z4, hTP, by rw [z1]; exact z5, z6, by rw [z1]; exact z7, by rw [z1, HM1.out]; rfl⟩⟩
  clear hLP hTP h5
  go_wp2_with fail
  refine CE.mono ?_
  rintro e V5 (⟨hb5, rfl, hR5⟩ | ⟨a, hb, g', rfl, hM⟩)
  rotate_left
  ·exact ⟨rfl, Or.inr ⟨a, hb, g', rfl, hM⟩⟩
  go_wp2_with fail
  go_end0
  exact Or.inl ⟨hb5, rfl, _, HCF.out, hR5⟩
end Go.Proofs.YtneciccdiledfaaGreatDoor
namespace Go.Proofs.YtneciccdiledfaaGreatDoor
open Go.RowKit
open La
open Ad
theorem Lg.frame {w V : World} {g : Nat} {σ : Sg} {W K : List (Nat × Obj)} (h : Lg w V g σ W K) : ∃ o, Mem w V ((g, o) :: (K ++ W)) ∧ ∀ V' K', Mem w V' ((g, o) :: (K' ++ W)) → Lg w V' g σ W K' := by
 obtain ⟨h1, v, all, i, at_, h2, h3, h4, h5, h6, hM⟩ := h
 exact ⟨_, hM, fun V' K' h => ⟨h1, v, all, i, at_, h2, h3, h4, h5, h6, h⟩⟩
theorem fail_same {σ : Sg} {a b : Nat} (h : σ.bad = some a) : σ.fail b = σ := by
 obtain ⟨x, y, z⟩ := σ; simp only at h; subst h; rfl
def RL (w : World) (g : Nat) (W K : List (Nat × Obj)) (gc : Nat) (r : Cgf × Sg) (e : Ending) (V' : World) : Prop := e = .returned (.tuple #[]) ∧ ∃ L', CfI gc r.1 L' ∧ Lg w V' g r.2 W (L' ++ K)
theorem rl_of {w V : World} {g : Nat} {σ : Sg} {W K C0 L2 : List (Nat × Obj)} {gc gt gw N M cap : Nat} {c : Cgf} {zs : List Tv} {post : List Value} {t : Ten} {o : Obj} (hz : zs.length = N ∧ (zs.map zc).flatten.length = N * 33 ∧ CLen c ∧ (∀ z ∈ zs, ZB z C0) ∧ N + 1 ≤ cap ∧ cap ≤ maxLen ∧ (N + 1) * 33 + post.length = cap * 33) (hM : N + 1 = M)
  (hT : TAt gt (zs.map zc).flatten post 45 t L2) (h : Lg w V g σ W (L2 ++ ((gw, o) :: (gc, .cells (cc c (.slice (some ⟨gt, 0, none⟩) M cap)).toArray 29) :: (C0 ++ K)))) : ∃ L', CfI gc { c with ten := zs.map Prod.fst ++ [t] } L' ∧ Lg w V g σ W (L' ++ K) := by
 have h5 := h.perm (K' := (gw, o) :: (((gc, .cells (cc c (.slice (some ⟨gt, 0, none⟩) M cap)).toArray 29) :: (L2 ++ C0)) ++ K)) (by classical rw [List.perm_iff_count]; intro z; simp only [List.count_append, List.count_cons]; omega)
 obtain ⟨z1, z2, z3, z4, z5, z6, z7⟩ := hz
 exact ⟨_, ⟨⟨z3.mac, z3.omac, z3.nmac, z3.key⟩, Or.inr ⟨zs, t, gt, cap, post, C0, L2, rfl, z4, hT, by rw [z1]; exact z5, z6, by rw [z1]; exact z7, by rw [z1, hM]; rfl⟩⟩, h5.drop1⟩
theorem rl_cells {w V : World} {g : Nat} {σ : Sg} {W K C0 L2 : List (Nat × Obj)} {gc gt gw M cap : Nat} {c : Cgf} {x1 : ByteArray} {x2 : Nat} (hc : CLen c) (h : Lg w V g σ W (L2 ++ ((gw, .cells #[.string x1, .int .i64 x2] 79) :: (gc, .cells (cc c (.slice (some ⟨gt, 0, none⟩) M cap)).toArray 29) :: (C0 ++ K)))) : V.cell? ⟨gw, 0, none⟩ = some (.string x1) ∧ V.cell? ⟨gw, 1, none⟩ = some (.int .i64 x2) ∧ V.cell? ⟨gc, 28, none⟩ = some (.slice (some ⟨gt, 0, none⟩) M cap) := by
 have h2 := h.perm (K' := (gw, .cells #[.string x1, .int .i64 x2] 79) :: (gc, .cells (cc c (.slice (some ⟨gt, 0, none⟩) M cap)).toArray 29) :: (L2 ++ (C0 ++ K))) (by classical rw [List.perm_iff_count]; intro z; simp only [List.count_append, List.count_cons]; omega)
 exact ⟨h2.cellK (i := 0) rfl 0, h2.cellK (i := 0) rfl 1, (h2.cellK (i := 1) rfl 28).trans (cc_at28 hc _)⟩
set_option maxHeartbeats 16000000 in
theorem dl_none {w V : World} {g : Nat} {σ : Sg} {W K L : List (Nat × Obj)} {gc : Nat} {c : Cgf} (h : Lg w V g σ W (L ++ K)) (hC : CfI gc c L) (ht : c.ten = []) (hx : wt σ ≠ wTenant) :
  Calls Tryz.prog 28 #[.pointer (some ⟨g, 0, none⟩), .pointer (some ⟨gc, 0, none⟩)] V (RL w g W K gc (ln c σ)) := by
 have C := rword_any h
 have hln := ln_none hx ht
 rw [hln]
 have n0 : ((La.wd σ).1.toList == [116, 101, 110, 97, 110, 116]) = false := str_ne hx
 obtain ⟨hcl, hh⟩ := hC
 have hLe : L = [(gc, .cells (cc c nilV).toArray 29)] := by
  rcases hh with ⟨-, e⟩ | ⟨zs, t, gt, cap, post, C0, L1, e, -⟩
  ·exact e
  ·rw [ht] at e; simp at e
 subst hLe
 have HCL : Hid (CLen c ∧ CfI gc c [(gc, .cells (cc c nilV).toArray 29)]) := ⟨hcl, hcl, hh⟩
 clear h hx hln hh hcl ht
 generalize (La.wd σ).2 = x2 at C ⊢
 generalize (La.wd σ).1 = x1 at C n0
 generalize nxt σ = τ at C ⊢
 go_enter Tryz.func28, Tryz.ntmps28
 go_wp2_with fail
 refine C.mono ?_
 rintro e V1 ⟨rfl, hL⟩
 obtain ⟨gw, hgw⟩ : ∃ gw, V1.heap.size = gw := ⟨_, rfl⟩
 have HL : Hid (Lg w (V1.alloc (.cells #[.string x1, .int .i64 x2] 79)) g τ W ((gw, .cells #[.string x1, .int .i64 x2] 79) :: ([(gc, .cells (cc c nilV).toArray 29)] ++ K))) := hL.push _ hgw.symm
 clear C hL
 go_upto_region 17 with fail
 refine wp_letter (fun X => Lg w X g τ W ((gw, .cells #[.string x1, .int .i64 x2] 79) :: ([(gc, .cells (cc c nilV).toArray 29)] ++ K))) (by exact HL.out) ?_
 intro V2 hR
 try simp only [hgw]
 have d28 : V2.cell? ⟨gc, 28, none⟩ = some nilV := (hR.cellK (i := 1) rfl 28).trans (cc_at28 HCL.out.1 _)
 have dw : V2.cell? ⟨gw, 1, none⟩ = some (.int .i64 x2) := hR.cellK (i := 0) rfl 1
 have CF := rfail_any hR x2
 clear hR HL hgw
 go_wp2_with fail
 refine CF.mono ?_
 rintro e V3 ⟨rfl, hM⟩
 have HM : Hid (Lg w V3 g (τ.fail x2) W ([(gc, .cells (cc c nilV).toArray 29)] ++ K)) := hM.drop1
 clear hM CF
 go_wp2_with fail
 go_end0
 exact ⟨rfl, _, HCL.out.2, HM.out⟩
set_option maxHeartbeats 16000000 in
theorem dl_other {w V : World} {g : Nat} {σ : Sg} {W K L : List (Nat × Obj)} {gc : Nat} {c : Cgf} (h : Lg w V g σ W (L ++ K)) (hC : CfI gc c L) (hne : c.ten ≠ []) (hx : wt σ ≠ wTenant) (h0 : wt σ ≠ wPool) (h1 : wt σ ≠ wPorts) (h2 : wt σ ≠ wFilter) (h3 : wt σ ≠ wStatic) (h4 : wt σ ≠ wTwice) (h5 : wt σ ≠ wQuota) (h6 : wt σ ≠ wRate) :
  Calls Tryz.prog 28 #[.pointer (some ⟨g, 0, none⟩), .pointer (some ⟨gc, 0, none⟩)] V (RL w g W K gc (ln c σ)) := by
 have hwt : wt σ ≠ wTenant := hx
 have C := rword_any h
 obtain ⟨hcl, hh⟩ := hC
 rcases hh with ⟨e, -⟩ | ⟨zs, t, gt, cap, post, C0, L1, e, hz, hT, hc1, hc2, hc3, rfl⟩
 ·exact absurd e hne
 have hp : La.part (La.wd σ) t (nxt σ) = (t, (nxt σ).fail (La.wd σ).2) := by
  unfold La.part; rw [if_neg h0, if_neg h1, if_neg h2, if_neg h3, if_neg h4, if_neg h5, if_neg h6]
 have hln : ln c σ = ({ c with ten := zs.map Prod.fst ++ [(La.part (La.wd σ) t (nxt σ)).1] }, (La.part (La.wd σ) t (nxt σ)).2) := ln_some hwt e
 rw [hp] at hln
 rw [hln]
 have n0 : ((La.wd σ).1.toList == [116, 101, 110, 97, 110, 116]) = false := str_ne hx
 have m0 : ((La.wd σ).1.toList == [112, 111, 111, 108]) = false := str_ne h0
 have m1 : ((La.wd σ).1.toList == [112, 111, 114, 116, 115]) = false := str_ne h1
 have m2 : ((La.wd σ).1.toList == [102, 105, 108, 116, 101, 114]) = false := str_ne h2
 have m3 : ((La.wd σ).1.toList == [115, 116, 97, 116, 105, 99]) = false := str_ne h3
 have m4 : ((La.wd σ).1.toList == [116, 119, 105, 99, 101]) = false := str_ne h4
 have m5 : ((La.wd σ).1.toList == [113, 117, 111, 116, 97]) = false := str_ne h5
 have m6 : ((La.wd σ).1.toList == [114, 97, 116, 101]) = false := str_ne h6
 have hpl : (zs.map zc).flatten.length = zs.length * 33 := zcs_len hz
 obtain ⟨N, hN⟩ : ∃ N, zs.length = N := ⟨_, rfl⟩
 rw [hN] at hpl hc1 hc3
 have HT : Hid (TAt gt (zs.map zc).flatten post 45 t L1) := hT
 have HZ : Hid (zs.length = N ∧ (zs.map zc).flatten.length = N * 33 ∧ CLen c ∧ (∀ z ∈ zs, ZB z C0) ∧ N + 1 ≤ cap ∧ cap ≤ maxLen ∧ (N + 1) * 33 + post.length = cap * 33) := ⟨hN, hpl, hcl, hz, hc1, hc2, hc3⟩
 rw [hN] at h C
 have wz : IntKind.i64.wrap (((N + 1 : Nat) : Int) - 1) = (N : Int) := by rw [wrap64 (by unfold maxLen at hc2; omega) (by unfold maxLen at hc2; omega)]; omega
 have lz0 : (0 : Int) ≤ (N : Int) := by omega
 have lz2 : (N : Int) < ((N + 1 : Nat) : Int) := by omega
 have lz3 : (((N + 1 : Nat) : Int) == 0) = false := by rw [beq_eq_false_iff_ne]; omega
 clear h hx hwt hln hcl hz hT hc1 hc2 hc3 hne e hpl hp h0 h1 h2 h3 h4 h5 h6
 obtain ⟨M, hM1⟩ : ∃ M, N + 1 = M := ⟨_, rfl⟩
 rw [hM1] at C wz lz2 lz3
 have HM1 : Hid (N + 1 = M) := hM1
 clear hM1
 generalize (La.wd σ).2 = x2 at C ⊢
 generalize (La.wd σ).1 = x1 at *
 generalize nxt σ = τ at *
 obtain ⟨n, hn⟩ : ∃ n, N * 33 = n := ⟨_, rfl⟩
 have HN : Hid ((zs.map zc).flatten.length = n) := by rw [← hn]; exact HZ.out.2.1
 go_enter Tryz.func28, Tryz.ntmps28
 go_wp2_with fail
 refine C.mono ?_
 rintro e V1 ⟨rfl, hL⟩
 obtain ⟨gw, hgw⟩ : ∃ gw, V1.heap.size = gw := ⟨_, rfl⟩
 have HL : Hid (Lg w (V1.alloc (.cells #[.string x1, .int .i64 x2] 79)) g τ W (L1 ++ ((gw, .cells #[.string x1, .int .i64 x2] 79) :: (gc, .cells (cc c (.slice (some ⟨gt, 0, none⟩) M cap)).toArray 29) :: (C0 ++ K)))) := (hL.push _ hgw.symm).perm (by classical rw [List.perm_iff_count]; intro z; simp only [List.count_append, List.count_cons]; omega)
 clear C hL
 go_upto_region 17 with fail
 refine wp_letter (fun X => Lg w X g τ W (L1 ++ ((gw, .cells #[.string x1, .int .i64 x2] 79) :: (gc, .cells (cc c (.slice (some ⟨gt, 0, none⟩) M cap)).toArray 29) :: (C0 ++ K)))) (by exact HL.out) ?_
 intro V2 hR
 try simp only [hgw]
 clear hgw HL
 have c2 := (rl_cells HZ.out.2.2.1 hR).2.2
 have HL : Hid (Lg w V2 g τ W (L1 ++ ((gw, .cells #[.string x1, .int .i64 x2] 79) :: (gc, .cells (cc c (.slice (some ⟨gt, 0, none⟩) M cap)).toArray 29) :: (C0 ++ K)))) := hR
 clear hR
 go_upto_region 19 with fail
 go_quiet (fail)
 go_upto_region 20 with fail
 refine wp_letter (fun X => Lg w X g τ W (L1 ++ ((gw, .cells #[.string x1, .int .i64 x2] 79) :: (gc, .cells (cc c (.slice (some ⟨gt, 0, none⟩) M cap)).toArray 29) :: (C0 ++ K)))) (by first | exact HL.out.drewN _ | exact HL.out) ?_
 intro V0 hR
 try simp only [hn]
 obtain ⟨c0, c1, -⟩ := rl_cells HZ.out.2.2.1 hR
 have HR : Hid (Lg w V0 g τ W (L1 ++ ((gw, .cells #[.string x1, .int .i64 x2] 79) :: (gc, .cells (cc c (.slice (some ⟨gt, 0, none⟩) M cap)).toArray 29) :: (C0 ++ K)))) := hR
 clear hR HL c2 hn
 have CF := rfail_any HR.out x2
 clear HR
 go_wp2_with fail
 refine CF.mono ?_
 rintro e V3 ⟨rfl, hM⟩
 have HM : Hid (Lg w V3 g (τ.fail x2) W (L1 ++ ((gw, .cells #[.string x1, .int .i64 x2] 79) :: (gc, .cells (cc c (.slice (some ⟨gt, 0, none⟩) M cap)).toArray 29) :: (C0 ++ K)))) := hM
 clear hM CF
 go_wp2_with fail
 go_end0
 exact ⟨rfl, rl_of HZ.out HM1.out HT.out HM.out⟩
end Go.Proofs.YtneciccdiledfaaGreatDoor
