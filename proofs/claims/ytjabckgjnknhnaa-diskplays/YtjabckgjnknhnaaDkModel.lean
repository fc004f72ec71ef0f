/-
  The statements' own store (lychlaw9.model): what its write answers.
-/
import Derived.Test.YtjabckgjnknhnaaDkAppend
import Derived.Test.YtjabckgjnknhnaaDkWrite
namespace Go.Proofs.Ytjabckgjnknhnaa
open Go.RowKit
open Sm
set_option linter.unusedVariables false

abbrev mdT : TypeId := 30
abbrev mdA (h n c m : Nat) (M : Dk) : Array Value := #[.slice (some ⟨h, 0, none⟩) n c, .int .i64 m, .bool M.dead, .bool M.set, .int .i64 M.left, .int .i64 M.pre]

structure MdAt (w W : World) (p h m c : Nat) (M : Dk) (hc : Array Value) (ks : List Bk) (L : List (Nat × Obj)) : Prop where
  st : St w W p (mdA h ks.length c m M) mdT h m hc ks L
  mlo : 64 ≤ m
  mhi : m ≤ 65536
  cap : ks.length ≤ c
  left : 0 ≤ M.left ∧ M.left ≤ 9223372036854775807
  pre : 0 ≤ M.pre ∧ M.pre ≤ m

def mD (D : Dk) (n m : Nat) (i : Int) (k : Nat) : Dk := if D.dead || !dIn n i || k != m then D else if D.set && D.left == 0 then ⟨true, D.set, D.left, D.pre⟩ else if D.set then ⟨D.dead, D.set, D.left - 1, D.pre⟩ else D

section
variable {w W : World} {p h m c : Nat} {M : Dk} {hc : Array Value} {ks : List Bk} {L : List (Nat × Obj)}

theorem md_apart (H : MdAt w W p h m c M hc ks L) {b off : Nat} {l : List Int} (hr : Row W (some ⟨b, off, none⟩) l) (hl : 0 < l.length) : b ≠ p := by
  rintro rfl
  have e := hr.cellAt 0 hl
  rw [H.st.box] at e
  match off, e with
  | 0, e => simp at e
  | 1, e => simp at e
  | 2, e => simp at e
  | 3, e => simp at e
  | 4, e => simp at e
  | 5, e => simp at e
  | n + 6, e => simp at e

/-- Refused. -/
theorem mwrite_no (H : MdAt w W p h m c M hc ks L) {a : Option Addr} {n cap : Nat} (i : Int) (hno : M.dead = true ∨ dIn ks.length i = false ∨ n ≠ m) :
    Calls Try.prog 12 #[.pointer (some ⟨p, 0, none⟩), .int .i64 i, .slice a n cap] W fun e W' => e = .returned (.int .i64 (wErr M ks.length m i n)) ∧ W = W' := by
  have c0 := H.st.box 0
  have c1 := H.st.box 1
  have c2 := H.st.box 2
  simp at c0 c1 c2
  clear H
  unfold wErr
  rcases Bool.eq_false_or_eq_true M.dead with hd | hd
  · rw [hd] at c2 ⊢
    clear hno
    go_enter Try.func12, Try.ntmps12
    go_wp2
    go_ret
    exact ⟨rfl, rfl⟩
  · rw [hd] at c2 hno ⊢
    generalize ks.length = N at *
    rcases Bool.eq_false_or_eq_true (dIn N i) with hi | hi
    · have hne : n ≠ m := by simpa [hi] using hno
      have hne2 : ((n : Int) != m) = true := by simp; omega
      rw [hi]
      have hi2 : 0 ≤ i ∧ i < N := by simpa [dIn] using hi
      obtain ⟨i0, i1⟩ := hi2
      clear hno hi
      go_enter Try.func12, Try.ntmps12
      go_wp2
      go_ret
      exact ⟨by simp, rfl⟩
    · rw [hi]
      clear hno
      by_cases h0 : 0 ≤ i
      · have h1 : (N : Int) ≤ i := by
          by_cases h : i < (N : Int)
          · simp [dIn, h0, h] at hi
          · omega
        clear hi
        go_enter Try.func12, Try.ntmps12
        go_wp2
        go_ret
        exact ⟨rfl, rfl⟩
      · have h1 : i < 0 := by omega
        clear hi h0
        go_enter Try.func12, Try.ntmps12
        go_wp2
        go_ret
        exact ⟨rfl, rfl⟩

set_option maxRecDepth 20000 in
set_option maxHeartbeats 1000000 in
/-- The one that fails. -/
theorem mwrite_cut (H : MdAt w W p h m c M hc ks L) {a : Option Addr} {l : List Int} (hr : Row W a l) {cap : Nat} (hcap : m ≤ cap) (hl : l.length = m) (i : Nat) {k : Bk} (hi : ks[i]? = some k) (hd : M.dead = false) (hset : M.set = true) (h0 : M.left = 0) :
    Calls Try.prog 12 #[.pointer (some ⟨p, 0, none⟩), .int .i64 i, .slice a m cap] W fun e W' => e = .returned (.int .i64 42) ∧ ∃ ks', MdAt w W' p h m c ⟨true, true, 0, M.pre⟩ hc ks' L ∧
      ks'.map Bk.b = (ks.map Bk.b).set i (l.take M.pre.toNat ++ k.b.drop M.pre.toNat) := by
  have c0 := H.st.box 0
  have c1 := H.st.box 1
  have c2 := H.st.box 2
  have c3 := H.st.box 3
  have c4 := H.st.box 4
  have c5 := H.st.box 5
  simp at c0 c1 c2 c3 c4 c5
  rw [hd] at c2
  rw [hset] at c3
  rw [h0] at c4
  have hil := (List.getElem?_eq_some_iff.mp hi).1
  have hil2 : (i : Int) < (ks.length : Int) := by omega
  have ch := H.st.head hi
  obtain ⟨P, eP, hP⟩ : ∃ P : Nat, M.pre = P ∧ P ≤ m := ⟨M.pre.toNat, by have := H.pre; omega, by have := H.pre; omega⟩
  have hmlo := H.mlo
  obtain ⟨b, off, rfl⟩ : ∃ b off, a = some ⟨b, off, none⟩ := by
    rcases hr.cells with e | ⟨b, off, e, _⟩
    · subst e; simp at hl; omega
    · exact ⟨b, off, e⟩
  have hrp : Row W (some ⟨b, off, none⟩) (l.take P) := by have := hr.part 0 P (by omega); simpa using this
  have hlp : (l.take P).length = P := by simp; omega
  obtain ⟨new, hnew⟩ := fill_new k.cur (l.take P)
  have o := H.st.okAt hi
  have HG : Hid (W.drew.heap[k.g]? = some (.cells k.cur 5 (0, 0))) := H.st.drew.mem.get (i + 2) (H.st.drew.at_ hi)
  have HLn : Hid ((l.take P).length = Nat.min P P) := by show _ = _; rw [hlp]; exact (Nat.min_self P).symm
  have HP : Hid (0 < (l.take P).length → some (⟨k.g, 0, none⟩ : Addr) = some ⟨k.g, 0, none⟩ ∧ ∃ ad, some (⟨b, off, none⟩ : Addr) = some ad ∧ ∀ j v, ((l.take P).map (Value.int .u8))[j]? = some v → W.drew.cell? (ad.add j) = some v) :=
    fun _ => ⟨rfl, _, rfl, (row_drew hrp).news⟩
  have HF : Hid (0 + (l.take P).length ≤ k.cur.size) := by show _ ≤ _; have := o.cap; have := o.size; omega
  have HNw : Hid _ := hnew
  have HS : Hid (∀ W1, Wrote W.drew W1 k.g new 5 → St w W1 p (mdA h ks.length c m M) mdT h m hc (ks.set i ⟨k.g, k.cap, new, l.take P ++ k.b.drop P⟩) L) := by
    intro W1 hw1
    have := H.st.drew.fill hi (by omega) hrp.bytes hnew hw1
    rwa [hlp] at this
  have HH : Hid (MdAt w W p h m c M hc ks L) := H
  have HK : Hid ((ks.set i ⟨k.g, k.cap, new, l.take P ++ k.b.drop P⟩).map Bk.b = (ks.map Bk.b).set i (l.take M.pre.toNat ++ k.b.drop M.pre.toNat) ∧ (ks.set i ⟨k.g, k.cap, new, l.take P ++ k.b.drop P⟩).length = ks.length) := by
    rw [eP, Int.toNat_natCast]; exact ⟨by rw [List.map_set], by simp⟩
  rw [eP] at c5
  have HEP : Hid (M.pre = P) := eP
  have q1 : (P : Int) ≤ (cap : Int) := by omega
  have q2 : P ≤ cap := by omega
  have q3 : (P : Int) ≤ (k.cap : Int) := by have := o.cap; omega
  have q4 : P ≤ k.cap := by have := o.cap; omega
  have hne : ((m : Int) != m) = false := by simp
  have HM : Hid (M = ⟨false, true, 0, M.pre⟩) := by
    cases M; simp at hd hset h0; subst hd hset h0; exact rfl
  generalize ks.set i ⟨k.g, k.cap, new, l.take P ++ k.b.drop P⟩ = ks2 at HS HK
  generalize hn : ks.length = n at *
  clear H hnew o hrp hr hlp hi hl hil hd hset h0 eP
  go_enter Try.func12, Try.ntmps12
  go_upto_region 8 with fail
  go_cut [] from 7 (fun wx => St w wx p (mdA h n c m M) mdT h m hc ks2 L)
  case first =>
    go_region_law (refine step_copy_bytes rfl (.tmp 54) (.tmp 60) 31 31 rfl Try.underlying31 (some ⟨k.g, 0, none⟩) (some ⟨b, off, none⟩) P k.cap P cap (by simp [Act.eval, Act.put]) (by simp [Act.eval, Act.put]) k.g 0 k.cur new 5 HG.out (l.take P) HLn.out HP.out HF.out HNw.out ?_; intro w3 hw3)
    all_goals
      go_wp2_with fail
      go_meet
      case rel => exact HS.out w3 hw3
  case rest =>
    have d2 := hcut.box 2
    simp at d2
    have f2 := hcut.boxFree 2
    have HC : Hid (St w wc p (mdA h n c m M) mdT h m hc ks2 L) := hcut
    clear hcut
    go_wp2
    go_ret
    have H := HH.out
    have hs := HC.out.put 2 (.bool true)
    have e : (mdA h n c m M).setIfInBounds 2 (.bool true) = mdA h ks2.length c m ⟨true, true, 0, M.pre⟩ := by
      rw [HK.out.2, HM.out]; simp [mdA]
    rw [e] at hs
    refine ⟨rfl, ks2, ⟨hs, H.mlo, H.mhi, by rw [HK.out.2, ← hn]; exact H.cap, ⟨Int.le_refl 0, (by decide : (0 : Int) ≤ 9223372036854775807)⟩, H.pre⟩, HK.out.1⟩

set_option maxRecDepth 20000 in
set_option maxHeartbeats 1000000 in
/-- The ones that go well. -/
theorem mwrite_ok (H : MdAt w W p h m c M hc ks L) {a : Option Addr} {l : List Int} (hr : Row W a l) {cap : Nat} (hl : l.length = m) (i : Nat) {k : Bk} (hi : ks[i]? = some k) (hd : M.dead = false) (hset : M.set = false ∨ M.left ≠ 0) :
    Calls Try.prog 12 #[.pointer (some ⟨p, 0, none⟩), .int .i64 i, .slice a m cap] W fun e W' => e = .returned (.int .i64 0) ∧ ∃ hc' ks', MdAt w W' p h m c (if M.set then ⟨false, true, M.left - 1, M.pre⟩ else ⟨false, false, M.left, M.pre⟩) hc' ks' L ∧
      ks'.map Bk.b = (ks.map Bk.b).set i l := by
  have c0 := H.st.box 0
  have c1 := H.st.box 1
  have c2 := H.st.box 2
  have c3 := H.st.box 3
  have c4 := H.st.box 4
  simp at c0 c1 c2 c3 c4
  rw [hd] at c2
  have hil := (List.getElem?_eq_some_iff.mp hi).1
  have hil2 : (i : Int) < (ks.length : Int) := by omega
  have hne : ((m : Int) != m) = false := by simp
  have hmlo := H.mlo
  obtain ⟨b, off, rfl⟩ : ∃ b off, a = some ⟨b, off, none⟩ := by
    rcases hr.cells with e | ⟨b, off, e, _⟩
    · subst e; simp at hl; omega
    · exact ⟨b, off, e⟩
  have hle := H.left
  obtain ⟨hl0, hl1⟩ := hle
  have o := H.st.okAt hi
  rcases Bool.eq_false_or_eq_true M.set with hst | hst
  · rw [hst] at c3 hset ⊢
    have hnz : ¬ M.left = 0 := by simpa using hset
    have hnz2 : (M.left == 0) = false := by simpa using hnz
    have f4 := H.st.boxFree 4
    have s1 := H.st.put 4 (.int .i64 (M.left - 1))
    rw [show (mdA h ks.length c m M).setIfInBounds 4 (.int .i64 (M.left - 1)) = mdA h ks.length c m ⟨false, true, M.left - 1, M.pre⟩ by simp [mdA, hd, hst]] at s1
    have hr1 : Row (W.setCell ⟨p, 4, none⟩ (.int .i64 (M.left - 1))) (some ⟨b, off, none⟩) l := hr.setCell (fun e => md_apart H hr (by omega) e.symm) _
    have H1 : MdAt w (W.setCell ⟨p, 4, none⟩ (.int .i64 (M.left - 1))) p h m c ⟨false, true, M.left - 1, M.pre⟩ hc ks L := ⟨s1, H.mlo, H.mhi, H.cap, ⟨by show 0 ≤ M.left - 1; omega, by show M.left - 1 ≤ _; omega⟩, H.pre⟩
    have hwr : IntKind.i64.wrap (M.left - 1) = M.left - 1 := by rw [IntKind.wrap_i64]; omega
    clear s1
    have HR1 : Hid (Row (W.setCell ⟨p, 4, none⟩ (.int .i64 (M.left - 1))) (some ⟨b, off, none⟩) l) := hr1
    have HH1 : Hid (MdAt w (W.setCell ⟨p, 4, none⟩ (.int .i64 (M.left - 1))) p h m c ⟨false, true, M.left - 1, M.pre⟩ hc ks L) := H1
    have HI : Hid (ks[i]? = some k) := hi
    have HL : Hid (l.length = m) := hl
    generalize hn : ks.length = n at *
    clear H H1 hr hr1 hi hil hl hset o
    go_enter Try.func12, Try.ntmps12
    go_upto_region 13 with fail
    refine wp_letter (fun W' => MdAt w W' p h m c ⟨false, true, M.left - 1, M.pre⟩ hc ks L ∧ Row W' (some ⟨b, off, none⟩) l) ⟨HH1.out, HR1.out⟩ ?_
    rintro W5 ⟨h5, r5⟩
    clear HH1 HR1 c0 c1 c2 c3 c4
    have d0 := h5.st.box 0
    simp [hn] at d0
    obtain ⟨g, cp, W6, hap, cur, hm6, ok6⟩ := append_new W5.drew HL.out (row_drew r5) (by have := h5.mlo; omega) cap 31
    have s6 := (h5.st.drew.join hm6)
    have d6 := s6.box 0
    simp [hn] at d6
    have c6 := s6.head HI.out
    have f6 := s6.headFree i
    have s7 := s6.turn (kn := ⟨g, cp, cur, l⟩) ok6 HI.out
    have HS7 : Hid (MdAt w (W6.setCell ⟨h, i, none⟩ (.slice (some ⟨g, 0, none⟩) m cp)) p h m c ⟨false, true, M.left - 1, M.pre⟩ (hc.setIfInBounds i (.slice (some ⟨g, 0, none⟩) m cp)) (ks.set i ⟨g, cp, cur, l⟩) L) :=
      ⟨by rw [List.length_set]; exact s7, h5.mlo, h5.mhi, by rw [List.length_set]; exact h5.cap, h5.left, h5.pre⟩
    clear h5 r5 hm6 ok6 s6 s7
    go_region_law (refine step_append_run rfl (.const (.slice none 0 0)) (.tmp 81) 31 31 rfl (by simp [Act.eval]) (by simp [Act.eval, Act.put]) hap ?_)
    all_goals
      go_wp2
      go_ret
      exact ⟨rfl, _, _, HS7.out, by rw [List.map_set]⟩
  · rw [hst] at c3 ⊢
    have hr1 : Row W (some ⟨b, off, none⟩) l := hr
    have H1 : MdAt w W p h m c ⟨false, false, M.left, M.pre⟩ hc ks L := ⟨by rw [show mdA h ks.length c m ⟨false, false, M.left, M.pre⟩ = mdA h ks.length c m M by simp [mdA, hd, hst]]; exact H.st, H.mlo, H.mhi, H.cap, H.left, H.pre⟩
    have HR1 : Hid (Row W (some ⟨b, off, none⟩) l) := hr1
    have HH1 : Hid (MdAt w W p h m c ⟨false, false, M.left, M.pre⟩ hc ks L) := H1
    have HI : Hid (ks[i]? = some k) := hi
    have HL : Hid (l.length = m) := hl
    generalize hn : ks.length = n at *
    clear H H1 hr hr1 hi hil hl hset o
    go_enter Try.func12, Try.ntmps12
    go_upto_region 13 with fail
    refine wp_letter (fun W' => MdAt w W' p h m c ⟨false, false, M.left, M.pre⟩ hc ks L ∧ Row W' (some ⟨b, off, none⟩) l) ⟨HH1.out, HR1.out⟩ ?_
    rintro W5 ⟨h5, r5⟩
    clear HH1 HR1 c0 c1 c2 c3 c4
    have d0 := h5.st.box 0
    simp [hn] at d0
    obtain ⟨g, cp, W6, hap, cur, hm6, ok6⟩ := append_new W5.drew HL.out (row_drew r5) (by have := h5.mlo; omega) cap 31
    have s6 := (h5.st.drew.join hm6)
    have d6 := s6.box 0
    simp [hn] at d6
    have c6 := s6.head HI.out
    have f6 := s6.headFree i
    have s7 := s6.turn (kn := ⟨g, cp, cur, l⟩) ok6 HI.out
    have HS7 : Hid (MdAt w (W6.setCell ⟨h, i, none⟩ (.slice (some ⟨g, 0, none⟩) m cp)) p h m c ⟨false, false, M.left, M.pre⟩ (hc.setIfInBounds i (.slice (some ⟨g, 0, none⟩) m cp)) (ks.set i ⟨g, cp, cur, l⟩) L) :=
      ⟨by rw [List.length_set]; exact s7, h5.mlo, h5.mhi, by rw [List.length_set]; exact h5.cap, h5.left, h5.pre⟩
    clear h5 r5 hm6 ok6 s6 s7
    go_region_law (refine step_append_run rfl (.const (.slice none 0 0)) (.tmp 81) 31 31 rfl (by simp [Act.eval]) (by simp [Act.eval, Act.put]) hap ?_)
    all_goals
      go_wp2
      go_ret
      exact ⟨rfl, _, _, HS7.out, by rw [List.map_set]⟩
end
end Go.Proofs.Ytjabckgjnknhnaa
