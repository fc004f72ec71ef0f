/-
  What package disk's Read, fail, Write and Spoil answer.
-/
import Derived.Test.YtbmpjlgfbiakoaaDoorDkOne
namespace Go.Proofs.YtbmpjlgfbiakoaaDoor
open Go.RowKit
open Sm
set_option linter.unusedVariables false

section
variable {w W : World} {p h m : Nat} {D : Dk} {hc : Array Value} {ks : List Bk} {L : List (Nat × Obj)}

def rdErr (D : Dk) (n : Nat) (i : Int) : Int := if D.dead then 42 else if dIn n i then 0 else 40

theorem dread_no (H : DkAt w W p h m D hc ks L) (i : Int) (hno : D.dead = true ∨ dIn ks.length i = false) :
    Calls Tryd.prog 54 #[.pointer (some ⟨p, 0, none⟩), .int .i64 i] W fun e W' => e = .returned (.tuple #[.slice none 0 0, .int .i64 (rdErr D ks.length i)]) ∧ W = W' := by
  have c1 := H.st.box 1
  simp at c1
  have hh := dhas_any H i
  clear H
  unfold rdErr
  rcases Bool.eq_false_or_eq_true D.dead with hd | hd
  · rw [hd] at c1 ⊢
    clear hno
    go_enter Tryd.func54, Tryd.ntmps54
    go_wp2
    exact bodyPost_ret (v := .tuple #[.slice none 0 0, .int .i64 42]) (by simp [results, Tryd.results54, go_sem]) rfl ⟨rfl, rfl⟩
  · rw [hd] at c1 hno ⊢
    have hi : dIn ks.length i = false := by simpa using hno
    rw [hi] at hh ⊢
    clear hno
    go_enter Tryd.func54, Tryd.ntmps54
    go_wp2_with fail
    refine hh.mono ?_
    rintro e w' ⟨rfl, rfl⟩
    go_wp2
    exact bodyPost_ret (v := .tuple #[.slice none 0 0, .int .i64 40]) (by simp [results, Tryd.results54, go_sem]) rfl ⟨rfl, rfl⟩

theorem dread_yes (H : DkAt w W p h m D hc ks L) (i : Nat) {k : Bk} (hi : ks[i]? = some k) (hd : D.dead = false) :
    Calls Tryd.prog 54 #[.pointer (some ⟨p, 0, none⟩), .int .i64 i] W fun e W' => ∃ g, e = .returned (.tuple #[.slice (some ⟨g, 0, none⟩) m m, .int .i64 0]) ∧ Mem W W' [(g, .cells (bs k.b) 5 (0, 0))] := by
  have c0 := H.st.box 0
  have c1 := H.st.box 1
  simp at c0 c1
  have hh := dhas_any H i
  have hil := (List.getElem?_eq_some_iff.mp hi).1
  rw [show dIn ks.length i = true by simp [dIn, hil]] at hh
  rw [hd] at c1
  have c2 := H.st.head hi
  have o := H.st.okAt hi
  have hs := dsame_any o.len (H.st.row hi (by have := H.mhi; omega)) k.cap
  have hil2 : (i : Int) < (ks.length : Int) := by omega
  generalize ks.length = n at *
  clear H hi hd o
  go_enter Tryd.func54, Tryd.ntmps54
  go_wp2_with fail
  refine hh.mono ?_
  rintro e w' ⟨rfl, rfl⟩
  go_wp2_with fail
  refine hs.mono ?_
  rintro e w' ⟨g, rfl, hm⟩
  go_wp2
  exact bodyPost_ret (v := .tuple #[.slice (some ⟨g, 0, none⟩) m m, .int .i64 0]) (by simp [results, Tryd.results54, go_sem]) rfl ⟨g, rfl, hm⟩

/-! ### A write. -/
def wErr (D : Dk) (n m : Nat) (i : Int) (k : Nat) : Int := if D.dead then 42 else if !dIn n i then 40 else if k ≠ m then 41 else if D.set && D.left == 0 then 42 else 0
def wD (D : Dk) (n m : Nat) (i : Int) (k : Nat) : Dk := if D.dead || !dIn n i || k != m then D else if D.set && D.left == 0 then ⟨true, false, 0, 0⟩ else if D.set then ⟨D.dead, D.set, D.left - 1, D.pre⟩ else D
def wB (D : Dk) (m : Nat) (i : Int) (l : List Int) (bl : List (List Int)) : List (List Int) :=
  if D.dead || !dIn bl.length i || l.length != m then bl else if D.set && D.left == 0 then bl.set i.toNat (l.take D.pre.toNat ++ (bl.getD i.toNat []).drop D.pre.toNat) else bl.set i.toNat l

theorem fill_new (cur : Array Value) (l : List Int) : ∃ new : Array Value, new.toList = cur.toList.take 0 ++ (l.map (Value.int .u8) ++ cur.toList.drop (0 + l.length)) := ⟨_, List.toList_toArray⟩

set_option maxHeartbeats 1000000 in
theorem dfail_any (H : DkAt w W p h m D hc ks L) {a : Option Addr} {l : List Int} (hr : Row W a l) {cap : Nat} (hcap : m ≤ cap) (hl : l.length = m) (i : Nat) {k : Bk} (hi : ks[i]? = some k) :
    Calls Tryd.prog 52 #[.pointer (some ⟨p, 0, none⟩), .int .i64 i, .slice a m cap] W fun e W' => e = .returned (.tuple #[]) ∧ ∃ ks', DkAt w W' p h m ⟨true, false, 0, 0⟩ hc ks' L ∧
      ks'.map Bk.b = (ks.map Bk.b).set i (l.take D.pre.toNat ++ k.b.drop D.pre.toNat) := by
  have c0 := H.st.box 0
  have c4 := H.st.box 4
  simp at c0 c4
  have hil := (List.getElem?_eq_some_iff.mp hi).1
  have hil2 : (i : Int) < (ks.length : Int) := by omega
  have c2 := H.st.head hi
  obtain ⟨P, eP, hP⟩ : ∃ P : Nat, D.pre = P ∧ P ≤ m := ⟨D.pre.toNat, by have := H.pre; omega, by have := H.pre; omega⟩
  have hmlo := H.mlo
  obtain ⟨b, off, rfl⟩ : ∃ b off, a = some ⟨b, off, none⟩ := by
    rcases hr.cells with e | ⟨b, off, e, _⟩
    · subst e; simp at hl; omega
    · exact ⟨b, off, e⟩
  have hrp : Row W (some ⟨b, off, none⟩) (l.take P) := by have := hr.part 0 P (by omega); simpa using this
  have hlp : (l.take P).length = P := by simp; omega
  obtain ⟨new, hnew⟩ := fill_new k.cur (l.take P)
  have o := H.st.okAt hi
  have HG : Hid (W.drew.heap[k.g]? = some (.cells k.cur 5 (0, 0))) := H.st.drew.mem.get (i + 2) (H.st.drew.at_ hi)
  have HLn : Hid ((l.take P).length = Nat.min P m) := by show _ = _; rw [hlp]; exact (Nat.min_eq_left hP).symm
  have HP : Hid (0 < (l.take P).length → some (⟨k.g, 0, none⟩ : Addr) = some ⟨k.g, 0, none⟩ ∧ ∃ ad, some (⟨b, off, none⟩ : Addr) = some ad ∧ ∀ j v, ((l.take P).map (Value.int .u8))[j]? = some v → W.drew.cell? (ad.add j) = some v) :=
    fun _ => ⟨rfl, _, rfl, (row_drew hrp).news⟩
  have HF : Hid (0 + (l.take P).length ≤ k.cur.size) := by show _ ≤ _; have := o.cap; have := o.size; omega
  have HNw : Hid _ := hnew
  have HS : Hid (∀ W1, Wrote W.drew W1 k.g new 5 → St w W1 p (dkA h ks.length D) dkT h m hc (ks.set i ⟨k.g, k.cap, new, l.take P ++ k.b.drop P⟩) L) := by
    intro W1 hw1
    have := H.st.drew.fill hi (by omega) hrp.bytes hnew hw1
    rwa [hlp] at this
  have HH : Hid (DkAt w W p h m D hc ks L) := H
  have HK : Hid ((ks.set i ⟨k.g, k.cap, new, l.take P ++ k.b.drop P⟩).map Bk.b = (ks.map Bk.b).set i (l.take D.pre.toNat ++ k.b.drop D.pre.toNat) ∧ (ks.set i ⟨k.g, k.cap, new, l.take P ++ k.b.drop P⟩).length = ks.length) := by
    rw [eP, Int.toNat_natCast]; exact ⟨by rw [List.map_set], by simp⟩
  rw [eP] at c4
  have q1 : (P : Int) ≤ (cap : Int) := by omega
  have q2 : P ≤ cap := by omega
  generalize ks.set i ⟨k.g, k.cap, new, l.take P ++ k.b.drop P⟩ = ks2 at HS HK
  generalize hn : ks.length = n at *
  clear H hnew o hrp hr hlp hi hl hil
  go_enter Tryd.func52, Tryd.ntmps52
  go_upto_region 0 with fail
  go_cut [] from 6 (fun wx => St w wx p (dkA h n D) dkT h m hc ks2 L)
  case first =>
    go_region_law (refine step_copy_bytes rfl (.tmp 12) (.tmp 19) 22 22 rfl Tryd.underlying22 (some ⟨k.g, 0, none⟩) (some ⟨b, off, none⟩) m k.cap P cap (by simp [Act.eval, Act.put]) (by simp [Act.eval, Act.put]) k.g 0 k.cur new 5 HG.out (l.take P) HLn.out HP.out HF.out HNw.out ?_; intro w3 hw3)
    all_goals
      go_wp2_with fail
      go_meet
      case rel => exact HS.out w3 hw3
  case rest =>
    have c1 := hcut.box 1
    have d2 := hcut.box 2
    have d3 := hcut.box 3
    have d4 := hcut.box 4
    simp at c1 d2 d3 d4
    have f1 := hcut.boxFree 1
    have f2 := hcut.boxFree 2
    have f3 := hcut.boxFree 3
    have f4 := hcut.boxFree 4
    have HC : Hid (St w wc p (dkA h n D) dkT h m hc ks2 L) := hcut
    clear hcut
    go_wp2
    go_end0
    have H := HH.out
    refine ⟨rfl, ks2, ?_, by have q := HK.out.1; rwa [eP, Int.toNat_natCast] at q⟩
    have hs := (((HC.out.put 1 (.bool true)).put 2 (.bool false)).put 3 (.int .i64 0)).put 4 (.int .i64 0)
    have e : ((((dkA h n D).setIfInBounds 1 (.bool true)).setIfInBounds 2 (.bool false)).setIfInBounds 3 (.int .i64 0)).setIfInBounds 4 (.int .i64 0) = dkA h ks2.length ⟨true, false, 0, 0⟩ := by
      rw [HK.out.2]; simp [dkA]
    rw [e] at hs
    exact ⟨hs, by rw [HK.out.2, ← hn]; exact H.pos, by rw [HK.out.2, ← hn]; exact H.top, H.mlo, H.mhi, by decide, ⟨Int.le_refl 0, Int.natCast_nonneg m⟩⟩

/-- Bytes that are read lie elsewhere than the store's own box. -/
theorem dk_apart (H : DkAt w W p h m D hc ks L) {b off : Nat} {l : List Int} (hr : Row W (some ⟨b, off, none⟩) l) (hl : 0 < l.length) : b ≠ p := by
  rintro rfl
  have e := hr.cellAt 0 hl
  rw [H.st.box] at e
  match off, e with
  | 0, e => simp at e
  | 1, e => simp at e
  | 2, e => simp at e
  | 3, e => simp at e
  | 4, e => simp at e
  | n + 5, e => simp at e
/-- Refused. -/
theorem dwrite_no (H : DkAt w W p h m D hc ks L) {a : Option Addr} {n cap : Nat} (i : Int) (hno : D.dead = true ∨ dIn ks.length i = false ∨ n ≠ m) :
    Calls Tryd.prog 42 #[.pointer (some ⟨p, 0, none⟩), .int .i64 i, .slice a n cap] W fun e W' => e = .returned (.int .i64 (wErr D ks.length m i n)) ∧ W = W' := by
  have c1 := H.st.box 1
  simp at c1
  have hh := dhas_any H i
  have hs := dsize_any H
  clear H
  unfold wErr
  rcases Bool.eq_false_or_eq_true D.dead with hd | hd
  · rw [hd] at c1 ⊢
    clear hno
    go_enter Tryd.func42, Tryd.ntmps42
    go_wp2
    go_ret
    exact ⟨rfl, rfl⟩
  · rw [hd] at c1 hno ⊢
    rcases Bool.eq_false_or_eq_true (dIn ks.length i) with hi | hi
    · rw [hi] at hh hno ⊢
      have hne : n ≠ m := by simpa using hno
      have hne2 : ((n : Int) != m) = true := by simp; omega
      clear hno
      go_enter Tryd.func42, Tryd.ntmps42
      go_wp2_with fail
      refine hh.mono ?_
      rintro e w' ⟨rfl, rfl⟩
      go_wp2_with fail
      refine hs.mono ?_
      rintro e w' ⟨rfl, rfl⟩
      go_wp2
      go_ret
      exact ⟨by simp, rfl⟩
    · rw [hi] at hh ⊢
      clear hno
      go_enter Tryd.func42, Tryd.ntmps42
      go_wp2_with fail
      refine hh.mono ?_
      rintro e w' ⟨rfl, rfl⟩
      go_wp2
      go_ret
      exact ⟨rfl, rfl⟩

/-- The one that fails. -/
theorem dwrite_cut (H : DkAt w W p h m D hc ks L) {a : Option Addr} {l : List Int} (hr : Row W a l) {cap : Nat} (hcap : m ≤ cap) (hl : l.length = m) (i : Nat) {k : Bk} (hi : ks[i]? = some k) (hd : D.dead = false) (hset : D.set = true) (h0 : D.left = 0) :
    Calls Tryd.prog 42 #[.pointer (some ⟨p, 0, none⟩), .int .i64 i, .slice a m cap] W fun e W' => e = .returned (.int .i64 42) ∧ ∃ ks', DkAt w W' p h m ⟨true, false, 0, 0⟩ hc ks' L ∧
      ks'.map Bk.b = (ks.map Bk.b).set i (l.take D.pre.toNat ++ k.b.drop D.pre.toNat) := by
  have c1 := H.st.box 1
  have c2 := H.st.box 2
  have c3 := H.st.box 3
  simp at c1 c2 c3
  rw [hd] at c1
  rw [hset] at c2
  rw [h0] at c3
  have hh := dhas_any H i
  have hil := (List.getElem?_eq_some_iff.mp hi).1
  rw [show dIn ks.length i = true by simp [dIn, hil]] at hh
  have hs := dsize_any H
  have hf := dfail_any H hr hcap hl i hi
  have hne : ((m : Int) != m) = false := by simp
  clear H hr hcap hl hi hil hd hset h0
  go_enter Tryd.func42, Tryd.ntmps42
  go_wp2_with fail
  refine hh.mono ?_
  rintro e w' ⟨rfl, rfl⟩
  go_wp2_with fail
  refine hs.mono ?_
  rintro e w' ⟨rfl, rfl⟩
  go_wp2_with fail
  refine hf.mono ?_
  rintro e w' ⟨rfl, hr⟩
  go_wp2
  go_ret
  exact ⟨rfl, hr⟩

set_option maxRecDepth 20000 in
/-- The ones that go well. -/
theorem dwrite_ok (H : DkAt w W p h m D hc ks L) {a : Option Addr} {l : List Int} (hr : Row W a l) {cap : Nat} (hl : l.length = m) (i : Nat) {k : Bk} (hi : ks[i]? = some k) (hd : D.dead = false) (hset : D.set = false ∨ D.left ≠ 0) :
    Calls Tryd.prog 42 #[.pointer (some ⟨p, 0, none⟩), .int .i64 i, .slice a m cap] W fun e W' => e = .returned (.int .i64 0) ∧ ∃ ks', DkAt w W' p h m (if D.set then ⟨false, true, D.left - 1, D.pre⟩ else ⟨false, false, D.left, D.pre⟩) hc ks' L ∧
      ks'.map Bk.b = (ks.map Bk.b).set i l := by
  have c0 := H.st.box 0
  have c1 := H.st.box 1
  have c2 := H.st.box 2
  have c3 := H.st.box 3
  simp at c0 c1 c2 c3
  rw [hd] at c1
  have hh := dhas_any H i
  have hil := (List.getElem?_eq_some_iff.mp hi).1
  rw [show dIn ks.length i = true by simp [dIn, hil]] at hh
  have hil2 : (i : Int) < (ks.length : Int) := by omega
  have hs := dsize_any H
  have ch := H.st.head hi
  have hne : ((m : Int) != m) = false := by simp
  have hmlo := H.mlo
  obtain ⟨b, off, rfl⟩ : ∃ b off, a = some ⟨b, off, none⟩ := by
    rcases hr.cells with e | ⟨b, off, e, _⟩
    · subst e; simp at hl; omega
    · exact ⟨b, off, e⟩
  have hle := H.left
  have o := H.st.okAt hi
  obtain ⟨new, hnew⟩ := fill_new k.cur l
  have HK : Hid ((ks.set i ⟨k.g, k.cap, new, l⟩).map Bk.b = (ks.map Bk.b).set i l ∧ (ks.set i ⟨k.g, k.cap, new, l⟩).length = ks.length) := ⟨by rw [List.map_set], by simp⟩
  have HH : Hid (DkAt w W p h m D hc ks L) := H
  rcases Bool.eq_false_or_eq_true D.set with hst | hst
  · rw [hst] at c2 hset ⊢
    have hnz : ¬ D.left = 0 := by simpa using hset
    have hnz2 : (D.left == 0) = false := by simpa using hnz
    have f3 := H.st.boxFree 3
    have s1 := H.st.put 3 (.int .i64 (D.left - 1))
    have d0 := s1.box 0
    simp at d0
    have dh := s1.head hi
    have hr1 : Row (W.setCell ⟨p, 3, none⟩ (.int .i64 (D.left - 1))) (some ⟨b, off, none⟩) l := hr.setCell (fun e => dk_apart H hr (by omega) e.symm) _
    obtain ⟨W1, hr2, hw2⟩ := copy_bytes (W.setCell ⟨p, 3, none⟩ (.int .i64 (D.left - 1))) 3 (some ⟨k.g, 0, none⟩) (some ⟨b, off, none⟩) m k.cap m cap k.g 0 k.cur new 5 (s1.mem.get (i + 2) (s1.at_ hi)) l (by rw [hl]; exact (Nat.min_self m).symm)
      (fun _ => ⟨rfl, _, rfl, hr1.news⟩) (by have := o.cap; have := o.size; omega) hnew
    rw [hl] at hr2
    have hs2 := s1.fill hi (by omega) hr1.bytes hnew hw2
    rw [hl, List.drop_of_length_le (by rw [o.len]; exact Nat.le_refl _), List.append_nil] at hs2
    rw [show (dkA h ks.length D).setIfInBounds 3 (.int .i64 (D.left - 1)) = dkA h ks.length ⟨false, true, D.left - 1, D.pre⟩ by simp [dkA, hd, hst]] at hs2
    have HS : Hid (St w W1 p (dkA h ks.length ⟨false, true, D.left - 1, D.pre⟩) dkT h m hc (ks.set i ⟨k.g, k.cap, new, l⟩) L) := hs2
    obtain ⟨hl0, hl1⟩ := hle
    have hwr : IntKind.i64.wrap (D.left - 1) = D.left - 1 := by rw [IntKind.wrap_i64]; omega
    generalize ks.set i ⟨k.g, k.cap, new, l⟩ = ks2 at HS HK
    generalize hn : ks.length = n at *
    clear H hr hr1 hi hil hw2 hs2 s1 hnew o hset hl c0
    go_enter Tryd.func42, Tryd.ntmps42
    go_wp2_with fail
    refine hh.mono ?_
    rintro e w' ⟨rfl, rfl⟩
    go_wp2_with fail
    refine hs.mono ?_
    rintro e w' ⟨rfl, rfl⟩
    go_wp2
    go_ret
    have H := HH.out
    have hs := HS.out
    rw [← HK.out.2] at hs
    exact ⟨rfl, ks2, ⟨hs, by rw [HK.out.2, ← hn]; exact H.pos, by rw [HK.out.2, ← hn]; exact H.top, H.mlo, H.mhi, ⟨by show 0 ≤ D.left - 1; omega, by show D.left - 1 ≤ _; omega⟩, H.pre⟩, HK.out.1⟩
  · rw [hst] at c2 ⊢
    obtain ⟨W1, hr2, hw2⟩ := copy_bytes W 3 (some ⟨k.g, 0, none⟩) (some ⟨b, off, none⟩) m k.cap m cap k.g 0 k.cur new 5 (H.st.mem.get (i + 2) (H.st.at_ hi)) l (by rw [hl]; exact (Nat.min_self m).symm)
      (fun _ => ⟨rfl, _, rfl, hr.news⟩) (by have := o.cap; have := o.size; omega) hnew
    rw [hl] at hr2
    have hs2 := H.st.fill hi (by omega) hr.bytes hnew hw2
    rw [hl, List.drop_of_length_le (by rw [o.len]; exact Nat.le_refl _), List.append_nil] at hs2
    rw [show dkA h ks.length D = dkA h ks.length ⟨false, false, D.left, D.pre⟩ by simp [dkA, hd, hst]] at hs2
    have HS : Hid (St w W1 p (dkA h ks.length ⟨false, false, D.left, D.pre⟩) dkT h m hc (ks.set i ⟨k.g, k.cap, new, l⟩) L) := hs2
    generalize ks.set i ⟨k.g, k.cap, new, l⟩ = ks2 at HS HK
    generalize hn : ks.length = n at *
    clear H hr hi hil hw2 hs2 hnew o hset hl
    go_enter Tryd.func42, Tryd.ntmps42
    go_wp2_with fail
    refine hh.mono ?_
    rintro e w' ⟨rfl, rfl⟩
    go_wp2_with fail
    refine hs.mono ?_
    rintro e w' ⟨rfl, rfl⟩
    go_wp2
    go_ret
    have H := HH.out
    have hs := HS.out
    rw [← HK.out.2] at hs
    exact ⟨rfl, ks2, ⟨hs, by rw [HK.out.2, ← hn]; exact H.pos, by rw [HK.out.2, ← hn]; exact H.top, H.mlo, H.mhi, H.left, H.pre⟩, HK.out.1⟩

/-- Whatever is handed in. -/
theorem dwrite_any (H : DkAt w W p h m D hc ks L) {a : Option Addr} {l : List Int} {n : Nat} (hn : l.length = n) (hr : Row W a l) {cap : Nat} (hcap : n ≤ cap) (i : Int) :
    Calls Tryd.prog 42 #[.pointer (some ⟨p, 0, none⟩), .int .i64 i, .slice a n cap] W fun e W' => e = .returned (.int .i64 (wErr D ks.length m i n)) ∧ ∃ ks', DkAt w W' p h m (wD D ks.length m i n) hc ks' L ∧
      ks'.map Bk.b = wB D m i l (ks.map Bk.b) := by
  by_cases hno : D.dead = true ∨ dIn ks.length i = false ∨ n ≠ m
  · refine (dwrite_no H i hno).mono ?_
    rintro e W' ⟨rfl, rfl⟩
    have e1 : (D.dead || !dIn ks.length i || n != m) = true := by
      rcases hno with e | e | e <;> simp [e]
    refine ⟨rfl, ks, ?_, ?_⟩
    · rw [wD, if_pos e1]; exact H
    · rw [wB, List.length_map, hn, if_pos e1]
  · have hd : D.dead = false := by cases hD : D.dead <;> simp_all
    have hi : dIn ks.length i = true := by cases hD : dIn ks.length i <;> simp_all
    have hm : n = m := by
      by_cases e : n = m
      · exact e
      · exact absurd (Or.inr (Or.inr e)) hno
    clear hno
    subst hm
    have hi2 : 0 ≤ i ∧ i < ks.length := by simpa [dIn] using hi
    obtain ⟨j, rfl, hj⟩ := place_small hi2.1 hi2.2
    have hk : ks[j]? = some ks[j] := List.getElem?_eq_getElem hj
    generalize ks[j] = k at hk
    have e1 : (D.dead || !dIn ks.length (j : Int) || n != n) = false := by simp [hd, hi]
    have hgd : (ks.map Bk.b).getD j [] = k.b := by simp [List.getD, hk]
    by_cases hc : D.set = true ∧ D.left = 0
    · have e2 : (D.set && D.left == 0) = true := by simp [hc.1, hc.2]
      refine (dwrite_cut H hr hcap hn j hk hd hc.1 hc.2).mono ?_
      rintro e W' ⟨rfl, ks', hH, hB⟩
      refine ⟨by simp [wErr, hd, hi, e2], ks', ?_, ?_⟩
      · rw [wD, e1, e2]; exact hH
      · rw [wB, List.length_map, hn, e1, e2, if_neg (by decide), if_pos rfl, Int.toNat_natCast, hgd]; exact hB
    · have hs : D.set = false ∨ D.left ≠ 0 := by
        cases hD : D.set
        · exact Or.inl rfl
        · exact Or.inr (fun e => hc ⟨hD, e⟩)
      have e2 : (D.set && D.left == 0) = false := by
        rcases hs with e | e <;> simp [e]
      refine (dwrite_ok H hr hn j hk hd hs).mono ?_
      rintro e W' ⟨rfl, ks', hH, hB⟩
      refine ⟨by simp [wErr, hd, hi, e2], ks', ?_, ?_⟩
      · rw [wD, e1, e2]
        obtain ⟨d, s, lf, pr⟩ := D
        simp at hd; subst hd
        cases s <;> exact hH
      · rw [wB, List.length_map, hn, e1, e2, if_neg (by decide), if_neg (by decide), Int.toNat_natCast]; exact hB
end
end Go.Proofs.YtbmpjlgfbiakoaaDoor
