/-
  What package log's write leaves.
-/
import Derived.Test.YtbmpjlgfbiakoaaDoorLgSplit
import Derived.Test.YtbmpjlgfbiakoaaDoorLgFramed
import Derived.Test.YtbmpjlgfbiakoaaDoorLgOpen
namespace Go.Proofs.YtbmpjlgfbiakoaaDoor
open Go.RowKit
open Sm
set_option linter.unusedVariables false

/-- A row that lies beside the store, whatever is done to it. -/
def Beside (w : World) (p h m : Nat) (L : List (Nat × Obj)) (a : Option Addr) (r : List Int) : Prop :=
  ∀ W' D' hc' ks' L', DkAt w W' p h m D' hc' ks' L' → (∀ x ∈ L, x ∈ L') → Row W' a r
/-- What a write that goes well, or one that fails, leaves of power and cut. -/
def Goes (D : Dk) : Prop := D.set = false ∨ D.left ≠ 0
def gone : Dk := ⟨true, false, 0, 0⟩
def went (D : Dk) : Dk := if D.set then ⟨false, true, D.left - 1, D.pre⟩ else ⟨false, false, D.left, D.pre⟩
theorem went_dead (D : Dk) : (went D).dead = false := by unfold went; split <;> rfl
theorem went_set {D : Dk} (hd : D.dead = false) (h : D.set = false) : went D = D := by
  obtain ⟨d, s, l, q⟩ := D
  simp only at h hd
  subst h; subst hd
  rfl
theorem went_off {D : Dk} (h : D.set = false) : (went D).set = false := by unfold went; rw [h]; rfl

section
variable {w W : World} {p h m : Nat} {D : Dk} {hc : Array Value} {ks : List Bk} {L : List (Nat × Obj)}
theorem DkAt.has (H : DkAt w W p h m D hc ks L) {x : Nat × Obj} (hx : x ∈ L) : W.heap[x.1]? = some x.2 := H.st.mem.at_ x (List.mem_cons_of_mem _ (List.mem_cons_of_mem _ (List.mem_append_right _ hx)))
/-- What write has done so far: so many pieces are laid. -/
structure WrAt (w W : World) (p h m : Nat) (D0 : Dk) (hc : Array Value) (bl : List (List Int)) (L : List (Nat × Obj)) (e : En) (k : Nat) (D : Dk) (ks : List Bk) (K : List (Nat × Obj)) : Prop where
  at_ : DkAt w W p h m D hc ks (K ++ L)
  live : D.dead = false
  off : D0.set = false → D = D0
  rows : ks.map Bk.b = part m e bl k
/-- What it leaves in the end. -/
structure WrEnd (w W : World) (p h m : Nat) (D0 : Dk) (hc : Array Value) (bl : List (List Int)) (L : List (Nat × Obj)) (e : En) (err : Int) (D : Dk) (ks : List Bk) (K : List (Nat × Obj)) : Prop where
  at_ : DkAt w W p h m D hc ks (K ++ L)
  ok : (err = 0 ∧ D.dead = false ∧ (D0.set = false → D = D0) ∧ ks.map Bk.b = part m e bl (npc (m - 64) e.r.length)) ∨ (err = 42 ∧ D = gone ∧ D0.set = true ∧ Left m e bl (ks.map Bk.b))

set_option maxRecDepth 20000 in
set_option maxHeartbeats 4000000 in
theorem write_any (H : DkAt w W p h m D hc ks L) (hd : D.dead = false) (e : En) (he : EnOk ks.length m e) {a : Option Addr} {k cap : Nat} (hk : e.r.length = k) (hcap : k ≤ cap) (hsh : (a = none ∧ cap = 0) ∨ ∃ b off, a = some ⟨b, off, none⟩) (hB : Beside w p h m L a e.r) :
    Calls Tryd.prog 34 #[.pointer (some ⟨p, 0, none⟩), .agg (enA e.s e.t e.c (.slice a k cap))] W fun ev W' => ∃ err, ev = .returned (.int .i64 err) ∧ ∃ D' ks' K, WrEnd w W' p h m D hc (ks.map Bk.b) L e err D' ks' K := by
  have hA : Mem W (W.alloc (.cells (enA e.s e.t e.c (.slice a k cap)) enT)) [(W.heap.size, .cells (enA e.s e.t e.c (.slice a k cap)) enT (0, 0))] := (Mem.nil W).push1 rfl
  have H1 := H.join hA
  have hn := npc_le he
  have hm0 := he.m0
  have hm1 := he.m1
  have hs1 := he.s
  have kE : ∀ j, (W.alloc (.cells (enA e.s e.t e.c (.slice a k cap)) enT)).cell? ⟨W.heap.size, j, none⟩ = (enA e.s e.t e.c (.slice a k cap))[j]? := hA.cell 0 rfl
  have k0 := kE 0
  have k1 := kE 1
  have k2 := kE 2
  have k3 := kE 3
  generalize hw1 : W.alloc (.cells (enA e.s e.t e.c (.slice a k cap)) enT) = w1 at *
  simp at k0 k1 k2 k3
  obtain ⟨M, hM⟩ : ∃ M, M = m - 64 := ⟨_, rfl⟩
  have hMi : (m : Int) - 64 = (M : Int) := by omega
  have hMw : IntKind.i64.wrap (M : Int) = M := by rw [IntKind.wrap_i64]; omega
  have hre : e.r.length ≤ 31 * 65536 := Nat.le_trans he.len (Nat.mul_le_mul hn.2.2.1 (by omega))
  have hsp := split_any (W := w1.drew) e hk hcap hsh (most := M) (by omega) (by omega) (by omega) (by rw [hM, ← hk]; omega)
  have hsb := lsb_any (H1.on H1.st.drew)
  have hsz := dsize_any (H1.on H1.st.drew)
  have hy : (e.s : Int) * (sbk ks.length : Int) = ((e.s * sbk ks.length : Nat) : Int) := by rw [Int.natCast_mul]
  have hyl : e.s * sbk ks.length < ks.length := by have := slot_in he.s he.n0 (show 0 < sbk ks.length by omega); simpa using this
  have htop := H.top
  obtain ⟨n, hN⟩ : ∃ n, n = npc M k := ⟨_, rfl⟩
  rw [← hN] at hsp
  rw [hM, ← hk] at hN
  have HSP : Hid (Calls Tryd.prog 41 #[.agg (enA e.s e.t e.c (.slice a k cap)), .int .i64 M] w1.drew _) := hsp
  have HSB : Hid (Calls Tryd.prog 32 #[.pointer (some ⟨p, 0, none⟩)] w1.drew _) := hsb
  have HSZ : Hid (Calls Tryd.prog 17 #[.pointer (some ⟨p, 0, none⟩)] w1.drew _) := hsz
  generalize hyy : e.s * sbk ks.length = y at *
  generalize hxx : sbk ks.length = x at *
  have HH : Hid (DkAt w w1 p h m D hc ks ([(W.heap.size, .cells (enA e.s e.t e.c (.slice a k cap)) enT (0, 0))] ++ L)) := H1
  have HY : Hid (e.s * sbk ks.length = y) := by rw [hxx]; exact hyy
  have k0d : w1.drew.cell? ⟨W.heap.size, 0, none⟩ = some (.int .i64 e.s) := k0
  have k1d : w1.drew.cell? ⟨W.heap.size, 1, none⟩ = some (.int .u64 e.t) := k1
  have k2d : w1.drew.cell? ⟨W.heap.size, 2, none⟩ = some (.int .i64 e.c) := k2
  have k3d : w1.drew.cell? ⟨W.heap.size, 3, none⟩ = some (.slice a k cap) := k3
  have hrl : W.heap.size < w1.drew.heap.size := cell_lt k0d
  have HMM : Hid (M = m - 64) := hM
  have HNN : Hid (n = npc (m - 64) e.r.length) := hN
  have hyw : IntKind.i64.wrap (y : Int) = y := by rw [IntKind.wrap_i64]; omega
  clear hsp hsb hsz H1 hA kE hyy hxx hM hN
  go_enter Tryd.func34, Tryd.ntmps34
  go_upto_region 1 with fail
  go_region_held3 (fun w' => w'.cell? ⟨W.heap.size, 0, none⟩ = some (.int .i64 e.s) ∧ w'.cell? ⟨W.heap.size, 1, none⟩ = some (.int .u64 e.t) ∧ w'.cell? ⟨W.heap.size, 2, none⟩ = some (.int .i64 e.c) ∧ w'.cell? ⟨W.heap.size, 3, none⟩ = some (.slice a k cap))
    (first | go_keep | assumption | exact ⟨(q5.old hrl).trans k0d, (q5.old hrl).trans k1d, (q5.old hrl).trans k2d, (q5.old hrl).trans k3d⟩)
    (first
      | (go_at_call 32; with_reducible refine HSB.out.mono ?_; rintro e3 w3 ⟨rfl, rfl⟩)
      | (go_at_call 17; with_reducible refine HSZ.out.mono ?_; rintro e3 w3 ⟨rfl, rfl⟩)
      | (go_at_call 41; with_reducible refine HSP.out.mono ?_; rintro e3 w5 ⟨gp, rfl, xs, hxl, hxs, cur, hcur, K5, q5⟩))
  have H5 : DkAt w w5 p h m D hc ks (((gp, .cells cur pcT (0, 0)) :: K5) ++ ([(W.heap.size, .cells (enA e.s e.t e.c (.slice a k cap)) enT (0, 0))] ++ L)) := (HH.out.on HH.out.st.drew).join q5
  have hsz5 := dsize_any H5
  have hmk := make_bytes m (by omega) w5
  have hA6 : Mem w5 (w5.alloc (.cells (madeCells #[.int .u8 0] m) 5)) [(w5.heap.size, .cells (bs (List.replicate m 0)) 5 (0, 0))] := by rw [← bs_made]; exact (Mem.nil w5).push1 rfl
  have H6 := H5.join hA6
  have hr6 : Row (w5.alloc (.cells (madeCells #[.int .u8 0] m) 5)) (some ⟨w5.heap.size, 0, none⟩) (List.replicate m 0) := hA6.own 0 rfl (bytes_rep m 0 (by omega)) (by simp; omega)
  obtain ⟨kk, hkk⟩ : ∃ kk, ks[y]? = some kk := ⟨_, List.getElem?_eq_getElem hyl⟩
  have hkb : (ks.map Bk.b).getD y [] = kk.b := by simp [List.getD, hkk]
  have HXS : Hid (xs.length = n ∧ (∀ j x, xs[j]? = some x → Part a e.r x.1 (spc e M j).b ∧ (spc e M j).b.length ≤ x.2) ∧ cur.toList = pcL e M 0 xs) := ⟨hxl, hxs, hcur⟩
  have HPRE : Hid (0 ≤ D.pre ∧ D.pre ≤ m) := H.pre
  have HE : Hid (EnOk ks.length m e) := he
  clear hxl hxs hcur H5 HH q5 HSP HSB HSZ k0d k1d k2d k3d hrl k0 k1 k2 k3
  by_cases hcut : D.set = true ∧ D.left = 0
  · have hW := dwrite_cut H6 hr6 (Nat.le_refl m) (by simp) y hkk hd hcut.1 hcut.2
    have HSET : Hid (D.set = true) := hcut.1
    have HKB : Hid ((ks.map Bk.b).getD y [] = kk.b) := hkb
    clear hkb
    clear H6 hr6 hA6 hkk hcut hd hB he H
    generalize w5.alloc (.cells (madeCells #[.int .u8 0] m) 5) = w6 at hmk hW
    go_wp2_with fail
    refine hsz5.mono ?_
    rintro e3 w3 ⟨rfl, rfl⟩
    go_wp2_with fail
    refine hW.mono ?_
    rintro e3 w7 ⟨rfl, ks', H7, hb7⟩
    have HEND : Hid (∃ D' ks' K, WrEnd w w7 p h m D hc (ks.map Bk.b) L e 42 D' ks' K) := by
      refine ⟨gone, ks', [(w5.heap.size, .cells (bs (List.replicate m 0)) 5 (0, 0))] ++ (((gp, .cells cur pcT (0, 0)) :: K5) ++ [(W.heap.size, .cells (enA e.s e.t e.c (.slice a k cap)) enT (0, 0))]), ⟨?_, Or.inr ⟨rfl, rfl, HSET.out, ?_⟩⟩⟩
      · have e9 : ([(w5.heap.size, Obj.cells (bs (List.replicate m 0)) 5 (0, 0))] ++ (((gp, .cells cur pcT (0, 0)) :: K5) ++ ([(W.heap.size, .cells (enA e.s e.t e.c (.slice a k cap)) enT (0, 0))] ++ L))) = ([(w5.heap.size, .cells (bs (List.replicate m 0)) 5 (0, 0))] ++ (((gp, .cells cur pcT (0, 0)) :: K5) ++ [(W.heap.size, .cells (enA e.s e.t e.c (.slice a k cap)) enT (0, 0))])) ++ L := by simp
        rw [← e9]; exact H7
      · rw [hb7, ← HKB.out, ← HY.out]
        have h9 := Left.blank (m := m) (e := e) (bl := ks.map Bk.b) D.pre.toNat (by have := HPRE.out; omega)
        rw [List.length_map] at h9
        exact h9
    clear H7 hb7 hW
    go_wp2
    go_ret
    exact ⟨42, rfl, HEND.out⟩
  · have hgo : D.set = false ∨ D.left ≠ 0 := by
      cases hD : D.set
      · exact Or.inl rfl
      · exact Or.inr fun e0 => hcut ⟨hD, e0⟩
    have hW := dwrite_ok (cap := m) H6 hr6 (by simp) y hkk hd hgo
    clear H6 hr6 hA6 hkk hcut hgo hkb
    generalize w5.alloc (.cells (madeCells #[.int .u8 0] m) 5) = w6 at hmk hW
    go_wp2_with fail
    refine hsz5.mono ?_
    rintro e3 w3 ⟨rfl, rfl⟩
    go_wp2_with fail
    refine hW.mono ?_
    rintro e3 w7 ⟨rfl, ks7, H7, hb7⟩
    have H0 : ∃ D' ks' K, WrAt w w7 p h m D hc (ks.map Bk.b) ((gp, .cells cur pcT (0, 0)) :: L) e 0 D' ks' K := by
      refine ⟨went D, ks7, [(w5.heap.size, .cells (bs (List.replicate m 0)) 5 (0, 0))] ++ (K5 ++ [(W.heap.size, .cells (enA e.s e.t e.c (.slice a k cap)) enT (0, 0))]), ⟨?_, went_dead D, fun h0 => went_set hd h0, ?_⟩⟩
      · refine H7.on (H7.st.perm ?_)
        have e9 : ∀ (A K5 R L : List (Nat × Obj)) (P : Nat × Obj), (A ++ ((P :: K5) ++ (R ++ L))).Perm ((A ++ (K5 ++ R)) ++ (P :: L)) := by
          intro A K5 R L P
          rw [List.append_assoc]
          refine List.Perm.append_left A ?_
          rw [List.cons_append]
          have : (K5 ++ R) ++ P :: L = (K5 ++ R) ++ P :: L := rfl
          refine List.Perm.trans ?_ List.perm_middle.symm
          rw [List.append_assoc]
        exact e9 _ _ _ _ _
      · rw [hb7, part, List.length_map, HY.out]
    have HW0 : Hid (∃ D' ks' K, WrAt w w7 p h m D hc (ks.map Bk.b) ((gp, .cells cur pcT (0, 0)) :: L) e 0 D' ks' K) := H0
    have HBE : Hid (Beside w p h m L a e.r) := hB
    have HTOP : Hid (ks.length ≤ 64) := htop
    have hnpos : 0 < n := by rw [HNN.out]; exact hn.1
    have hn31 : n ≤ 31 := by rw [HNN.out]; omega
    have HSI : Hid (∀ j, j < n → y + j < ks.length) := fun j hj => by
      have := slot_in HE.out.s HE.out.n0 (show j < sbk ks.length by have := HNN.out; have := (npc_le HE.out).2.1; omega)
      rw [HY.out] at this; exact this
    clear H7 hb7 hW H0 hB hsz5 hmk H he hd
    go_wp2_with fail
    go_loopw [8] (fun u wr => ∃ j : Nat, u = .int .i64 ((j : Int) - 1) ∧ j ≤ n ∧ ∃ D' ks' K, WrAt w wr p h m D hc (ks.map Bk.b) ((gp, .cells cur pcT (0, 0)) :: L) e (n - j) D' ks' K) (fun u _ => (intOf u + 1).toNat)
    case atStart => exact ⟨n, rfl, Nat.le_refl _, by rw [Nat.sub_self]; exact HW0.out⟩
    case round =>
      obtain ⟨j, rfl, hj, D', ks', K, hR⟩ := hrel
      clear HW0
      by_cases hj0 : j = 0
      · subst hj0
        have HEND : Hid (∃ D' ks' K, WrEnd w wr p h m D hc (ks.map Bk.b) L e 0 D' ks' K) := by
          refine ⟨D', ks', K ++ [(gp, .cells cur pcT (0, 0))], ⟨?_, Or.inl ⟨rfl, hR.live, hR.off, ?_⟩⟩⟩
          · rw [List.append_assoc]; exact hR.at_
          · have := hR.rows; rw [Nat.sub_zero, HNN.out] at this; exact this
        clear hR
        go_wp2
        go_ret
        exact ⟨0, rfl, HEND.out⟩
      · obtain ⟨i, rfl⟩ : ∃ i, j = i + 1 := ⟨j - 1, by omega⟩
        rw [show (((i + 1 : Nat) : Int) - 1) = (i : Int) by omega]
        have hin : i < n := by omega
        obtain ⟨⟨xa, xc⟩, hx⟩ : ∃ x, xs[i]? = some x := ⟨_, List.getElem?_eq_getElem (by rw [HXS.out.1]; exact hin)⟩
        obtain ⟨hpart, hxc⟩ := HXS.out.2.1 i _ hx
        have hkn : npc M e.r.length = n := by rw [HMM.out, HNN.out]
        obtain ⟨kb, hkb⟩ : ∃ kb, (spc e M i).b.length = kb := ⟨_, rfl⟩
        have HS : Hid (∀ V : World, V.heap[gp]? = some (.cells cur pcT (0, 0)) → V.cell? ⟨gp, i * 5, none⟩ = some (.int .u64 e.t) ∧ V.cell? ⟨gp, i * 5 + 1, none⟩ = some (.int .i64 e.c) ∧ V.cell? ⟨gp, i * 5 + 2, none⟩ = some (.int .i64 i) ∧ V.cell? ⟨gp, i * 5 + 3, none⟩ = some (.int .i64 n) ∧ V.cell? ⟨gp, i * 5 + 4, none⟩ = some (.slice xa kb xc)) := by
          intro V hV
          have hq : ∀ f, f < 5 → V.cell? ⟨gp, i * 5 + f, none⟩ = (pcQ e M i (xa, xc))[f]? := by
            intro f hf
            rw [cell_of hV, ← Array.getElem?_toList, HXS.out.2.2, pcL_get e M xs i f _ hx hf 0, Nat.zero_add]
          refine ⟨?_, ?_, ?_, ?_, ?_⟩
          · have := hq 0 (by omega); simpa [pcQ] using this
          · have := hq 1 (by omega); simpa [pcQ] using this
          · have := hq 2 (by omega); simpa [pcQ] using this
          · have := hq 3 (by omega); rw [this]; simp [pcQ, hkn]
          · have := hq 4 (by omega); rw [this]; simp [pcQ, hkb]
        have hgr : wr.heap[gp]? = some (.cells cur pcT (0, 0)) := hR.at_.has (x := (gp, .cells cur pcT (0, 0))) (by simp)
        have hgd : wr.drew.heap[gp]? = some (.cells cur pcT (0, 0)) := hgr
        have hglt : gp < wr.drew.heap.size := (Array.getElem?_eq_some_iff.mp hgd).1
        have HS6 : Hid (∀ V K, Mem wr.drew V K → V.cell? ⟨gp, i * 5, none⟩ = some (.int .u64 e.t) ∧ V.cell? ⟨gp, i * 5 + 1, none⟩ = some (.int .i64 e.c) ∧ V.cell? ⟨gp, i * 5 + 2, none⟩ = some (.int .i64 i) ∧ V.cell? ⟨gp, i * 5 + 3, none⟩ = some (.int .i64 n) ∧ V.cell? ⟨gp, i * 5 + 4, none⟩ = some (.slice xa kb xc)) := fun V K hV => HS.out V (by rw [hV.below.block gp hglt]; exact hgd)
        obtain ⟨j0, j1, j2, j3, j4⟩ := HS.out wr hgr
        have HRD : DkAt w wr.drew p h m D' hc ks' (K ++ ((gp, .cells cur pcT (0, 0)) :: L)) := hR.at_.on hR.at_.st.drew
        have HSZ : Hid (Calls Tryd.prog 17 #[.pointer (some ⟨p, 0, none⟩)] wr.drew fun e W' => e = .returned (.int .i64 m) ∧ wr.drew = W') := dsize_any HRD
        have hpok : PcOk m (spc e M i) := by rw [HMM.out]; exact spc_ok HE.out i (by rw [← HNN.out]; exact hin)
        have HFR : Hid (Calls Tryd.prog 43 #[.agg (pcA e.t e.c i n (.slice xa kb xc)), .int .i64 m] wr.drew fun e3 W' => ∃ g, e3 = .returned (.slice (some ⟨g, 0, none⟩) m m) ∧ ∃ K, Mem wr.drew W' ((g, .cells (bs (frm m (spc e M i))) 5 (0, 0)) :: K)) := by
          have h9 := framed_any hpok hm0 (a := xa) (cap := xc) hkb (by rw [← hkb]; exact hxc) (hpart _ (HBE.out _ _ _ _ _ HRD (fun q hq => by simp [hq])))
          have e9 : pcA (spc e M i).t (spc e M i).c (spc e M i).i (spc e M i).n (.slice xa kb xc) = pcA e.t e.c i n (.slice xa kb xc) := by simp only [spc, hkn]
          rw [e9] at h9; exact h9
        obtain ⟨z, hz⟩ : ∃ z, z = y + i := ⟨_, rfl⟩
        have hzl : z < ks'.length := by
          have h9 := HSI.out i hin
          have h8 : ks'.length = ks.length := by have := congrArg List.length hR.rows; rw [part_length, List.length_map, List.length_map] at this; exact this
          omega
        have hzi : (y : Int) + i = (z : Int) := by omega
        have hzw : IntKind.i64.wrap (z : Int) = z := by have := hR.at_.top; rw [IntKind.wrap_i64]; omega
        obtain ⟨kk, hkk⟩ : ∃ kk, ks'[z]? = some kk := ⟨_, List.getElem?_eq_getElem hzl⟩
        have hfl : (frm m (spc e M i)).length = m := frm_length hpok.len
        have HPT : Hid (part m e (ks.map Bk.b) (n - i) = (ks'.map Bk.b).set z (frm m (spc e M i))) := by
          show _ = _
          rw [show n - i = (n - (i + 1)) + 1 by omega, part, ← hR.rows, List.length_map, HY.out, ← HNN.out, show n - 1 - (n - (i + 1)) = i by omega, ← HMM.out, hz]
        have q0 : (0 : Int) ≤ (i : Int) := by omega
        have qn : (i : Int) < (n : Int) := by omega
        by_cases hcut : D'.set = true ∧ D'.left = 0
        · have HWR : Hid (∀ w6 K6 g6, Mem wr.drew w6 ((g6, .cells (bs (frm m (spc e M i))) 5 (0, 0)) :: K6) → Calls Tryd.prog 42 #[.pointer (some ⟨p, 0, none⟩), .int .i64 z, .slice (some ⟨g6, 0, none⟩) m m] w6 fun e3 W' => e3 = .returned (.int .i64 42) ∧ W'.heap[gp]? = some (.cells cur pcT (0, 0)) ∧ ∃ D' ks' K, WrEnd w W' p h m D hc (ks.map Bk.b) L e 42 D' ks' K) := by
            intro w6 K6 g6 h6
            have H6 := HRD.join h6
            refine (dwrite_cut H6 (h6.own 0 rfl (frm_bytes hpok.bytes) (by rw [hfl]; omega)) (Nat.le_refl m) hfl z hkk hR.live hcut.1 hcut.2).mono ?_
            rintro e3 W' ⟨rfl, ks2, H7, hb7⟩
            refine ⟨rfl, H7.has (x := (gp, .cells cur pcT (0, 0))) (by simp), gone, ks2, ((g6, .cells (bs (frm m (spc e M i))) 5 (0, 0)) :: K6) ++ (K ++ [(gp, .cells cur pcT (0, 0))]), ⟨?_, Or.inr ⟨rfl, rfl, ?_, ?_⟩⟩⟩
            · have e9 : ((g6, Obj.cells (bs (frm m (spc e M i))) 5 (0, 0)) :: K6) ++ (K ++ ((gp, .cells cur pcT (0, 0)) :: L)) = (((g6, .cells (bs (frm m (spc e M i))) 5 (0, 0)) :: K6) ++ (K ++ [(gp, .cells cur pcT (0, 0))])) ++ L := by simp
              rw [← e9]; exact H7
            · cases hD : D.set
              · have := hR.off hD; rw [this, hD] at hcut; simp at hcut
              · rfl
            · have h9 := Left.mid (m := m) (e := e) (bl := ks.map Bk.b) (n - (i + 1)) D'.pre.toNat (by rw [← HNN.out]; omega) (by have := hR.at_.pre; omega)
              rw [List.length_map, HY.out, ← HNN.out, show n - 1 - (n - (i + 1)) = i by omega, ← HMM.out, ← hz, ← hR.rows] at h9
              rw [hb7]
              have e8 : (ks'.map Bk.b).getD z [] = kk.b := by simp [List.getD, hkk]
              rw [e8] at h9
              exact h9
          clear hR HRD hpart hxc hx hpok hgr hgd hcut hkk hzl hz hfl hkn hkb HBE
          go_upto_region 8 with fail
          go_region_held3 (fun w' => w'.cell? ⟨gp, i * 5, none⟩ = some (.int .u64 e.t) ∧ w'.cell? ⟨gp, i * 5 + 1, none⟩ = some (.int .i64 e.c) ∧ w'.cell? ⟨gp, i * 5 + 2, none⟩ = some (.int .i64 i) ∧ w'.cell? ⟨gp, i * 5 + 3, none⟩ = some (.int .i64 n) ∧ w'.cell? ⟨gp, i * 5 + 4, none⟩ = some (.slice xa kb xc))
            (first | go_keep | assumption | exact HS6.out _ _ q6 | exact HS.out _ hg7)
            (first
              | (go_at_call 17; with_reducible refine HSZ.out.mono ?_; rintro e3 w3 ⟨rfl, rfl⟩)
              | (go_at_call 43; with_reducible refine HFR.out.mono ?_; rintro e3 w6 ⟨g6, rfl, K6, q6⟩)
              | (go_at_call 42; with_reducible refine (HWR.out _ _ _ q6).mono ?_; rintro e3 w7 ⟨rfl, hg7, hpost⟩))
          go_wp2
          go_ret
          exact ⟨42, rfl, hpost⟩
        · have hgo : D'.set = false ∨ D'.left ≠ 0 := by
            cases hD : D'.set
            · exact Or.inl rfl
            · exact Or.inr fun e0 => hcut ⟨hD, e0⟩
          have HWR : Hid (∀ w6 K6 g6, Mem wr.drew w6 ((g6, .cells (bs (frm m (spc e M i))) 5 (0, 0)) :: K6) → Calls Tryd.prog 42 #[.pointer (some ⟨p, 0, none⟩), .int .i64 z, .slice (some ⟨g6, 0, none⟩) m m] w6 fun e3 W' => e3 = .returned (.int .i64 0) ∧ W'.heap[gp]? = some (.cells cur pcT (0, 0)) ∧ ∃ D' ks' K, WrAt w W' p h m D hc (ks.map Bk.b) ((gp, .cells cur pcT (0, 0)) :: L) e (n - i) D' ks' K) := by
            intro w6 K6 g6 h6
            have H6 := HRD.join h6
            refine (dwrite_ok (cap := m) H6 (h6.own 0 rfl (frm_bytes hpok.bytes) (by rw [hfl]; omega)) hfl z hkk hR.live hgo).mono ?_
            rintro e3 W' ⟨rfl, ks2, H7, hb7⟩
            refine ⟨rfl, H7.has (x := (gp, .cells cur pcT (0, 0))) (by simp), went D', ks2, ((g6, .cells (bs (frm m (spc e M i))) 5 (0, 0)) :: K6) ++ K, ⟨?_, went_dead D', fun h0 => ?_, ?_⟩⟩
            · rw [List.append_assoc]; exact H7
            · have := hR.off h0; rw [this] at hR ⊢; exact went_set hR.live h0
            · rw [hb7, HPT.out]
          clear hR HRD hpart hxc hx hpok hgr hgd hcut hkk hzl hz hfl hkn hkb hgo
          go_upto_region 8 with fail
          go_region_held3 (fun w' => w'.cell? ⟨gp, i * 5, none⟩ = some (.int .u64 e.t) ∧ w'.cell? ⟨gp, i * 5 + 1, none⟩ = some (.int .i64 e.c) ∧ w'.cell? ⟨gp, i * 5 + 2, none⟩ = some (.int .i64 i) ∧ w'.cell? ⟨gp, i * 5 + 3, none⟩ = some (.int .i64 n) ∧ w'.cell? ⟨gp, i * 5 + 4, none⟩ = some (.slice xa kb xc))
            (first | go_keep | assumption | exact HS6.out _ _ q6 | exact HS.out _ hg7)
            (first
              | (go_at_call 17; with_reducible refine HSZ.out.mono ?_; rintro e3 w3 ⟨rfl, rfl⟩)
              | (go_at_call 43; with_reducible refine HFR.out.mono ?_; rintro e3 w6 ⟨g6, rfl, K6, q6⟩)
              | (go_at_call 42; with_reducible refine (HWR.out _ _ _ q6).mono ?_; rintro e3 w7 ⟨rfl, hg7, hpost⟩))
          go_wp2_with fail
          go_roundw
          case rel => exact ⟨i, rfl, by omega, hpost⟩
          case measure => simp [intOf]
end
end Go.Proofs.YtbmpjlgfbiakoaaDoor
