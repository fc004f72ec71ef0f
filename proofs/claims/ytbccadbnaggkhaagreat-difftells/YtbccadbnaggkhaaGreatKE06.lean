/-
  Settings as bytes: the field of a number (lych/api.Tenant, int): what it writes, reads, holds to be the same.
  Settings as bytes: the field of a text (lych/api.Tenant).
  Settings as bytes: the field of an array of bytes (lych/api.Tenant).
  Settings as bytes: fields one behind the other (lych/api.Config).
-/
import Derived.Test.YtbccadbnaggkhaaGreatKE03
namespace Go.Proofs.YtbccadbnaggkhaaGreat
open Go.RowKit
open Sm
open Cf
set_option linter.unusedVariables false
set_option maxRecDepth 20000

set_option maxHeartbeats 4000000 in
theorem nwr_TI {w W : World} {v : Value} {l : List Int} {L : List (Nat × Obj)} (h : Out w W v l L) (bs bo sz ko : Nat) (p p' : Addr) (x : Int) (hs : sz ≤ 7)
    (cs : ∀ V, Mem w V L → V.cell? ⟨bs, 0, none⟩ = some (.int .i64 sz)) (co : ∀ V, Mem w V L → V.cell? ⟨bo, 0, none⟩ = some (.func (.func ko) #[] #[]))
    (eo : ∀ args V, (callFunc ko args).run Tryz.prog V = .ok (.enter ko args) V) (ho : ∀ V, Calls Tryz.prog ko #[.pointer (some p)] V fun e V' => e = .returned (.pointer (some p')) ∧ V = V')
    (cx : ∀ V, Mem w V L → V.cell? p' = some (.int .i64 x)) (hb : l.length + sz ≤ 1000000000) :
    Calls Tryz.prog 96 #[v, .pointer (some p), .pointer (some ⟨bs, 0, none⟩), .pointer (some ⟨bo, 0, none⟩)] W fun e W' => ∃ v', e = .returned v' ∧ Out w W' v' (l ++ be sz (IntKind.u64.wrap x)) L := by
  have HO : Hid (Out w W.drew v l L) := h.after ((Below.refl _ _).drew)
  have c1 := cs _ HO.out.mem
  have c2 := co _ HO.out.mem
  have c3 := cx _ HO.out.mem
  have hx : 0 ≤ IntKind.u64.wrap x ∧ IntKind.u64.wrap x < 18446744073709551616 := by rw [wrapu64]; omega
  have CP : Hid (∀ z, 0 ≤ z ∧ z < 18446744073709551616 → Calls Tryz.prog 85 #[v, .int .i64 sz, .int .u64 z] W.drew fun e W' => ∃ v', e = .returned v' ∧ Out w W' v' (l ++ be sz z) L) := fun z hz => put_any HO.out sz z hs hz hb
  have KS : Hid (∀ V v' l', Out w V v' l' L → V.cell? ⟨bs, 0, none⟩ = some (.int .i64 sz) ∧ V.cell? ⟨bo, 0, none⟩ = some (.func (.func ko) #[] #[]) ∧ V.cell? p' = some (.int .i64 x)) := fun V v' l' hV => ⟨cs _ hV.mem, co _ hV.mem, cx _ hV.mem⟩
  clear h cs co cx
  go_enter Tryz.func96, Tryz.ntmps96
  go_upto_region 1 with fail
  go_region_held3 (fun V => V.cell? ⟨bs, 0, none⟩ = some (.int .i64 sz) ∧ V.cell? ⟨bo, 0, none⟩ = some (.func (.func ko) #[] #[]) ∧ V.cell? p' = some (.int .i64 x)) (first | go_keep | exact KS.out _ _ _ hO)
    (first | (go_at_fn ko; refine (ho _).mono ?_; rintro e V ⟨rfl, rfl⟩) | (go_at_call 85; refine (CP.out _ hx).mono ?_; rintro e V ⟨v', rfl, hO⟩))
  go_wp2_with fail
  go_ret
  exact ⟨_, rfl, hO⟩

set_option maxHeartbeats 4000000 in
theorem nrd_TI {w W : World} {a : Option Addr} {l : List Int} {c : Nat} {L : List (Nat × Obj)} {g : Nat} {A : Array Value} {T : TypeId} (hM : Mem w W ((g, .cells A T (0, 0)) :: L)) (hS : Sl w a l c) (bs bo sz ko j : Nat) (p : Addr) (y : Int) (hs : sz ≤ 4)
    (hfit : ∀ q, 0 ≤ q → q < 256 ^ sz → IntKind.i64.wrap q = q) (hj : A[j]? = some (.int .i64 y))
    (cs : ∀ V, Mem w V L → V.cell? ⟨bs, 0, none⟩ = some (.int .i64 sz)) (co : ∀ V, Mem w V L → V.cell? ⟨bo, 0, none⟩ = some (.func (.func ko) #[] #[]))
    (eo : ∀ args V, (callFunc ko args).run Tryz.prog V = .ok (.enter ko args) V) (ho : ∀ V, Calls Tryz.prog ko #[.pointer (some p)] V fun e V' => e = .returned (.pointer (some ⟨g, j, none⟩)) ∧ V = V') :
    Calls Tryz.prog 97 #[.slice a l.length c, .pointer (some p), .pointer (some ⟨bs, 0, none⟩), .pointer (some ⟨bo, 0, none⟩)] W (RPost w L (fun x W' => Mem w W' ((g, .cells (A.setIfInBounds j (.int .i64 x)) T (0, 0)) :: L)) (if l.length < sz then none else some (num (l.take sz), l.drop sz))) := by
  have c1 := cs _ hM.sub
  by_cases hlt : l.length < sz
  · rw [if_pos hlt]
    have C := split_no W a l.length c sz hlt (by omega)
    clear hS hlt
    go_enter Tryz.func97, Tryz.ntmps97
    go_wp2_with fail
    refine C.mono ?_
    rintro e V ⟨rfl, rfl⟩
    go_wp2_with fail
    go_ret2
    exact ⟨rfl, hM.sub⟩
  · rw [if_neg hlt]
    have hle : sz ≤ l.length := by omega
    have C := split_yes (hM.sl hS) sz hle (by omega)
    have hlen : (l.take sz).length = sz := by rw [List.length_take]; omega
    have hrg := num_range (bytes_tk hS.row.bytes sz)
    rw [hlen] at hrg
    have hw := hfit _ hrg.1 hrg.2
    clear hfit hlt hle hrg
    obtain ⟨N, hN⟩ : ∃ N, num (l.take sz) = N := ⟨_, rfl⟩
    rw [hN] at hw
    go_enter Tryz.func97, Tryz.ntmps97
    go_wp2_with fail
    refine C.mono ?_
    rintro e V ⟨v1, v2, rfl, ⟨a1, k1, a2, k2, rfl, rfl, hSp⟩, q, rfl⟩
    have hM1 := hM.drewN q
    generalize W.drewN q = V at hM1
    have hp := hSp V (hM1.sl hS)
    have hq := (hSp w hS).2
    have CG := get_any hp.1.row sz k1 hlen (by omega)
    rw [hN] at CG
    have c2 := co _ hM1.sub
    have c3 := (hM1.cell 0 rfl j).trans hj
    have f3 := hM1.free 0 rfl j
    have HM2 : Hid (Mem w (V.setCell ⟨g, j, none⟩ (.int .i64 N)) ((g, .cells (A.setIfInBounds j (.int .i64 N)) T (0, 0)) :: L)) := by
      have := hM1.set 0 rfl j (.int .i64 N)
      exact this
    clear hSp hp hM C hM1 hj cs co
    go_wp2_with fail
    refine (ho _).mono ?_
    rintro e V1 ⟨rfl, rfl⟩
    go_wp2_with fail
    refine CG.mono ?_
    rintro e V1 ⟨rfl, rfl⟩
    go_wp2_with fail
    go_ret2
    refine ⟨a2, k2, by rw [List.length_drop]; rfl, hq, ?_⟩
    rw [hN]; exact HM2.out

set_option maxHeartbeats 4000000 in
theorem nsm_TI {w W : World} {L : List (Nat × Obj)} (h : Mem w W L) (bo ko : Nat) (p p' q q' : Addr) (x y : Int)
    (co : ∀ V, Mem w V L → V.cell? ⟨bo, 0, none⟩ = some (.func (.func ko) #[] #[]))
    (eo : ∀ args V, (callFunc ko args).run Tryz.prog V = .ok (.enter ko args) V) (ho : ∀ V, Calls Tryz.prog ko #[.pointer (some p)] V fun e V' => e = .returned (.pointer (some p')) ∧ V = V')
    (hq : ∀ V, Calls Tryz.prog ko #[.pointer (some q)] V fun e V' => e = .returned (.pointer (some q')) ∧ V = V')
    (cx : ∀ V, Mem w V L → V.cell? p' = some (.int .i64 x)) (cy : ∀ V, Mem w V L → V.cell? q' = some (.int .i64 y)) :
    Calls Tryz.prog 98 #[.pointer (some p), .pointer (some q), .pointer (some ⟨bo, 0, none⟩)] W fun e W' => e = .returned (.bool (decide (x = y))) ∧ Mem w W' L := by
  have HM : Hid (Mem w W.drew L) := h.drew
  have c2 := co _ HM.out
  have c3 := cx _ HM.out
  have c4 := cy _ HM.out
  clear h co cx cy
  go_enter Tryz.func98, Tryz.ntmps98
  go_upto_region 1 with fail
  go_region_held3 (fun V => V.cell? ⟨bo, 0, none⟩ = some (.func (.func ko) #[] #[]) ∧ V.cell? p' = some (.int .i64 x) ∧ V.cell? q' = some (.int .i64 y)) (go_keep)
    (first | (go_at_fn ko; with_reducible refine (ho _).mono ?_; rintro e V ⟨rfl, rfl⟩) | (go_at_fn ko; with_reducible refine (hq _).mono ?_; rintro e V ⟨rfl, rfl⟩))
  go_wp2_with fail
  go_ret
  exact ⟨by simp <;> rfl, HM.out⟩
end Go.Proofs.YtbccadbnaggkhaaGreat

namespace Go.Proofs.YtbccadbnaggkhaaGreat
open Go.RowKit
open Sm
open Cf
set_option linter.unusedVariables false
set_option maxRecDepth 20000

set_option maxHeartbeats 4000000 in
theorem twr_T {w W : World} {v : Value} {l : List Int} {L : List (Nat × Obj)} (h : Out w W v l L) (bo ko : Nat) (p p' : Addr) (s : ByteArray) (hsb : s.size ≤ 140737488351232)
    (co : ∀ V, Mem w V L → V.cell? ⟨bo, 0, none⟩ = some (.func (.func ko) #[] #[]))
    (eo : ∀ args V, (callFunc ko args).run Tryz.prog V = .ok (.enter ko args) V) (ho : ∀ V, Calls Tryz.prog ko #[.pointer (some p)] V fun e V' => e = .returned (.pointer (some p')) ∧ V = V')
    (cx : ∀ V, Mem w V L → V.cell? p' = some (.string s)) (hb : l.length + (nm s).length ≤ 1000000000) :
    Calls Tryz.prog 80 #[v, .pointer (some p), .pointer (some ⟨bo, 0, none⟩)] W fun e W' => ∃ v', e = .returned v' ∧ Out w W' v' (l ++ nm s) L := by
  have c2 := co _ h.mem
  have c3 := cx _ h.mem
  have hnl : (nm s).length = 1 + min s.size 255 := by
    simp only [nm, List.length_cons, List.length_take, sb_len]; omega
  rw [hnl] at hb
  clear hnl
  obtain ⟨k, hk⟩ : ∃ k, min s.size 255 = k := ⟨_, rfl⟩
  obtain ⟨s', hs'⟩ : ∃ s', s.extract 0 k = s' := ⟨_, rfl⟩
  have hsl : ∀ V, (Instr.slice 9 (.string s) none (some (.int .i64 k)) none).run Tryz.prog V = .ok (.string s') V := by
    intro V
    rw [run_slice_string_h V 9 s Tryz.underlying9 .i64 k (by omega) (by omega), Int.toNat_natCast, hs']
  have hz : s'.size = k := by rw [← hs', ByteArray.size_extract]; omega
  have hsb' : sb s' = (sb s).take 255 := by
    rw [← hs']
    unfold sb
    rw [Lib.extract_data, List.drop_zero, Nat.sub_zero, List.map_take]
    rw [← hk]
    by_cases hc : s.size ≤ 255
    · rw [Nat.min_eq_left hc, List.take_of_length_le (l := List.map _ _) (by rw [List.length_map, Array.length_toList]; exact Nat.le_refl _), List.take_of_length_le (by rw [List.length_map, Array.length_toList]; exact hc)]
    · rw [Nat.min_eq_right (by omega)]
  obtain ⟨v1, W1, hr1, hO1⟩ := out_one h (k : Int) (by omega) (by omega) 87
  obtain ⟨v2, W2, hr2, hO2⟩ := out_str hO1 s' (by rw [List.length_append, hz]; simp; omega) 87
  rw [hsb', List.append_assoc] at hO2
  have HO : Hid (Out w W2 v2 (l ++ nm s) L) := by
    unfold nm
    rw [hk]
    exact hO2
  have e1 : IntKind.u8.wrap (k : Int) = k := by rw [wrapu8]; omega
  have e2 : (k : Int) % 256 = k := by omega
  rw [← hz] at e1 e2 hr1
  clear h co cx hO1 hO2 hsb' hs'
  by_cases hc : s.size ≤ 255
  · have hk2 : k = s.size := by omega
    have h1 : (s.size : Int) ≤ 255 := by omega
    have h2 : ¬ ((255 : Int) < s.size) := by omega
    rw [hk2] at hsl
    clear hk hz hk2
    go_enter Tryz.func80, Tryz.ntmps80
    go_wp2_with fail
    refine (ho _).mono ?_
    rintro e V ⟨rfl, rfl⟩
    go_wp2_with (first | (at_builtin; refine wpList_append_run (.tmp 17) (.tmp 21) 87 87 (by with_reducible rfl) hr1 rfl rfl (by simp [Act.eval]) (by simp [Act.eval]) ?_) | (at_builtin; refine wpList_append_run (.tmp 22) (.tmp 23) 87 9 (by with_reducible rfl) hr2 rfl rfl (by simp [Act.eval]) (by simp [Act.eval]) ?_))
    go_ret
    exact ⟨_, rfl, HO.out⟩
  · have hk2 : k = 255 := by omega
    have h1 : ¬ ((s.size : Int) ≤ 255) := by omega
    have h2 : (255 : Int) < s.size := by omega
    rw [hk2] at hsl
    simp only [Int.cast_ofNat_Int] at hsl
    clear hk hz hk2
    go_enter Tryz.func80, Tryz.ntmps80
    go_wp2_with fail
    refine (ho _).mono ?_
    rintro e V ⟨rfl, rfl⟩
    go_wp2_with (first | (at_builtin; refine wpList_append_run (.tmp 17) (.tmp 21) 87 87 (by with_reducible rfl) hr1 rfl rfl (by simp [Act.eval]) (by simp [Act.eval]) ?_) | (at_builtin; refine wpList_append_run (.tmp 22) (.tmp 23) 87 9 (by with_reducible rfl) hr2 rfl rfl (by simp [Act.eval]) (by simp [Act.eval]) ?_))
    go_ret
    exact ⟨_, rfl, HO.out⟩

set_option maxHeartbeats 4000000 in
theorem trd_T {w W : World} {a : Option Addr} {l : List Int} {c : Nat} {L : List (Nat × Obj)} {g : Nat} {A : Array Value} {T : TypeId} (hM : Mem w W ((g, .cells A T (0, 0)) :: L)) (hS : Sl w a l c) (bo ko j : Nat) (p : Addr) (y : ByteArray)
    (hj : A[j]? = some (.string y))
    (co : ∀ V, Mem w V L → V.cell? ⟨bo, 0, none⟩ = some (.func (.func ko) #[] #[]))
    (eo : ∀ args V, (callFunc ko args).run Tryz.prog V = .ok (.enter ko args) V) (ho : ∀ V, Calls Tryz.prog ko #[.pointer (some p)] V fun e V' => e = .returned (.pointer (some ⟨g, j, none⟩)) ∧ V = V') :
    Calls Tryz.prog 81 #[.slice a l.length c, .pointer (some p), .pointer (some ⟨bo, 0, none⟩)] W (RPost w L (fun x W' => Mem w W' ((g, .cells (A.setIfInBounds j (.string x)) T (0, 0)) :: L)) (dtxt l)) := by
  cases l with
  | nil =>
    have C := split_no W a 0 c 1 (by omega) (by omega)
    go_enter Tryz.func81, Tryz.ntmps81
    go_wp2_with fail
    refine C.mono ?_
    rintro e V ⟨rfl, rfl⟩
    go_wp2_with fail
    go_ret2
    exact ⟨rfl, hM.sub⟩
  | cons b r =>
    have C := split_yes (hM.sl hS) 1 (by simp) (by omega)
    have hbb : 0 ≤ b ∧ b ≤ 255 := by have := hS.row.bytes 0; simpa using this
    obtain ⟨n, hn⟩ : ∃ n : Nat, (b : Int) = n := ⟨b.toNat, by omega⟩
    subst hn
    have e1 : IntKind.i64.wrap (n : Int) = n := wrap64n (by omega) (by omega)
    simp only [dtxt, Int.toNat_natCast]
    have hSP : ∀ V, Mem w V ((g, .cells A T (0, 0)) :: L) → ∀ a1 k1 a2 k2, (∀ V, Sl V a ((n : Int) :: r) c → Sl V a1 (((n : Int) :: r).take 1) k1 ∧ Sl V a2 (((n : Int) :: r).drop 1) k2) →
        Sl w a2 r k2 ∧ ∃ b0 off, a1 = some ⟨b0, off, none⟩ ∧ V.cell? ⟨b0, off, none⟩ = some (.int .u8 n) := by
      intro V hM1 a1 k1 a2 k2 hSp
      have hp := (hSp V (hM1.sl hS)).1
      have hq := (hSp w hS).2
      simp only [List.take_succ_cons, List.take_zero, List.drop_succ_cons, List.drop_zero] at hp hq
      refine ⟨hq, ?_⟩
      rcases hp.row.cells with e | ⟨b0, off, e, hc⟩
      · simp at e
      · exact ⟨b0, off, e, by have := hc 0 (by simp); simpa using this⟩
    by_cases hlt : r.length < n
    · rw [if_pos hlt]
      go_enter Tryz.func81, Tryz.ntmps81
      go_wp2_with fail
      refine C.mono ?_
      rintro e V ⟨v1, v2, rfl, ⟨a1, k1, a2, k2, rfl, rfl, hSp⟩, q, rfl⟩
      have hM1 := hM.drewN q
      generalize W.drewN q = V at hM1
      obtain ⟨hq, b0, off, rfl, hc0⟩ := hSP V hM1 _ _ _ _ hSp
      have C2 := split_no V a2 r.length k2 n hlt (by omega)
      clear hSp hq hS C hlt hSP
      go_wp2_with fail
      refine C2.mono ?_
      rintro e V ⟨rfl, rfl⟩
      go_wp2_with fail
      go_ret2
      exact ⟨rfl, hM1.sub⟩
    · rw [if_neg hlt]
      have hlen : (r.take n).length = n := by rw [List.length_take]; omega
      obtain ⟨S, hS'⟩ : ∃ S, strOfNums (r.take n) = S := ⟨_, rfl⟩
      rw [hS']
      go_enter Tryz.func81, Tryz.ntmps81
      go_wp2_with fail
      refine C.mono ?_
      rintro e V ⟨v1, v2, rfl, ⟨a1, k1, a2, k2, rfl, rfl, hSp⟩, q, rfl⟩
      have hM1 := hM.drewN q
      generalize W.drewN q = V at hM1
      obtain ⟨hq, b0, off, rfl, hc0⟩ := hSP V hM1 _ _ _ _ hSp
      have C2 := split_yes (hM1.sl hq) n (by omega) (by omega)
      clear hSp hS C hlt hSP
      go_wp2_with fail
      refine C2.mono ?_
      rintro e V ⟨v1, v2, rfl, ⟨a3, k3, a4, k4, rfl, rfl, hSp⟩, q2, rfl⟩
      have hM2 := hM1.drewN q2
      generalize V.drewN q2 = V2 at hM2
      have hq2 := (hSp w hq).2
      have KS : Hid (∀ V, Mem w V L → V.cell? ⟨bo, 0, none⟩ = some (.func (.func ko) #[] #[]) ∧ (convert 87 9 (.slice a3 n k3)).run Tryz.prog V = .ok (.string S) V) := by
        intro V hV
        refine ⟨co _ hV, ?_⟩
        have h1 := row_string (hV.sl (hSp w hq).1).row k3
        rwa [hlen, hS'] at h1
      have hM3 := hM2.drew
      obtain ⟨c2, c4⟩ := KS.out _ hM3.sub
      have c3 := (hM3.cell 0 rfl j).trans hj
      have f3 := hM3.free 0 rfl j
      have HM2 : Hid (Mem w (V2.setCell ⟨g, j, none⟩ (.string S)).drew ((g, .cells (A.setIfInBounds j (.string S)) T (0, 0)) :: L)) := by
        have := hM2.set 0 rfl j (.string S)
        exact Mem.drew this
      clear hSp hM hM1 hM2 C2 hj co hS' hlen hM3 hc0
      go_upto_region 6 with fail
      go_region_held3 (fun V => V.cell? ⟨bo, 0, none⟩ = some (.func (.func ko) #[] #[]) ∧ (convert 87 9 (.slice a3 n k3)).run Tryz.prog V = .ok (.string S) V) (first | assumption | exact KS.out _ HM2.out.sub | go_keep)
        (first | (go_at_fn ko; refine (ho _).mono ?_; rintro e V ⟨rfl, rfl⟩))
      go_wp2_with fail
      go_ret2
      refine ⟨a4, k4, by rw [List.length_drop]; rfl, hq2, HM2.out⟩

set_option maxHeartbeats 4000000 in
theorem tsm_T {w W : World} {L : List (Nat × Obj)} (h : Mem w W L) (bo ko : Nat) (p p' q q' : Addr) (x y : ByteArray)
    (co : ∀ V, Mem w V L → V.cell? ⟨bo, 0, none⟩ = some (.func (.func ko) #[] #[]))
    (eo : ∀ args V, (callFunc ko args).run Tryz.prog V = .ok (.enter ko args) V) (ho : ∀ V, Calls Tryz.prog ko #[.pointer (some p)] V fun e V' => e = .returned (.pointer (some p')) ∧ V = V')
    (hq : ∀ V, Calls Tryz.prog ko #[.pointer (some q)] V fun e V' => e = .returned (.pointer (some q')) ∧ V = V')
    (cx : ∀ V, Mem w V L → V.cell? p' = some (.string x)) (cy : ∀ V, Mem w V L → V.cell? q' = some (.string y)) :
    Calls Tryz.prog 83 #[.pointer (some p), .pointer (some q), .pointer (some ⟨bo, 0, none⟩)] W fun e W' => e = .returned (.bool (decide (sb x = sb y))) ∧ Mem w W' L := by
  have HM : Hid (Mem w W.drew L) := h.drew
  have c2 := co _ HM.out
  have c3 := cx _ HM.out
  have c4 := cy _ HM.out
  rw [← text_same]
  clear h co cx cy
  go_enter Tryz.func83, Tryz.ntmps83
  go_upto_region 1 with fail
  go_region_held3 (fun V => V.cell? ⟨bo, 0, none⟩ = some (.func (.func ko) #[] #[]) ∧ V.cell? p' = some (.string x) ∧ V.cell? q' = some (.string y)) (go_keep)
    (first | (go_at_fn ko; with_reducible refine (ho _).mono ?_; rintro e V ⟨rfl, rfl⟩) | (go_at_fn ko; with_reducible refine (hq _).mono ?_; rintro e V ⟨rfl, rfl⟩))
  go_wp2_with fail
  go_ret
  exact ⟨rfl, HM.out⟩
end Go.Proofs.YtbccadbnaggkhaaGreat

namespace Go.Proofs.YtbccadbnaggkhaaGreat
open Go.RowKit
open Sm
open Cf
set_option linter.unusedVariables false
set_option maxRecDepth 20000

set_option maxHeartbeats 4000000 in
theorem owr_T {w W : World} {v : Value} {l : List Int} {L : List (Nat × Obj)} (h : Out w W v l L) (bo ko n : Nat) (p p' : Addr) (x : List Int) (hn : x.length = n)
    (co : ∀ V, Mem w V L → V.cell? ⟨bo, 0, none⟩ = some (.func (.func ko) #[] #[]))
    (eo : ∀ args V, (callFunc ko args).run Tryz.prog V = .ok (.enter ko args) V) (ho : ∀ V, Calls Tryz.prog ko #[.pointer (some p)] V fun e V' => e = .returned (.slice (some p') n n) ∧ V = V')
    (cx : ∀ V, Mem w V L → Row V (some p') x) (hb : l.length + n ≤ 1000000000) :
    Calls Tryz.prog 89 #[v, .pointer (some p), .pointer (some ⟨bo, 0, none⟩)] W fun e W' => ∃ v', e = .returned v' ∧ Out w W' v' (l ++ x) L := by
  have c2 := co _ h.mem
  obtain ⟨v1, W1, hr, hO⟩ := out_append (c := n) h p' n x hn (cx _ h.mem) hb 87
  have HO : Hid (Out w W1 v1 (l ++ x) L) := hO
  clear h co cx hO
  go_enter Tryz.func89, Tryz.ntmps89
  go_wp2_with fail
  refine (ho _).mono ?_
  rintro e V ⟨rfl, rfl⟩
  go_wp2_with (at_builtin; refine wpList_append_run (.tmp 6) (.tmp 9) 87 87 (by with_reducible rfl) hr rfl rfl (by simp [Act.eval]) (by simp [Act.eval]) ?_)
  go_ret
  exact ⟨_, rfl, HO.out⟩

set_option maxHeartbeats 4000000 in
theorem ord_T {w W : World} {a : Option Addr} {l : List Int} {c : Nat} {L : List (Nat × Obj)} {g : Nat} {A : Array Value} {T : TypeId} (hM : Mem w W ((g, .cells A T (0, 0)) :: L)) (hS : Sl w a l c) (bo n ko j : Nat) (p : Addr) (hs : n ≤ 8) (hn0 : 0 < n)
    (hj : j + n ≤ A.size)
    (co : ∀ V, Mem w V L → V.cell? ⟨bo, 0, none⟩ = some (.func (.func ko) #[] #[]))
    (eo : ∀ args V, (callFunc ko args).run Tryz.prog V = .ok (.enter ko args) V) (ho : ∀ V, Calls Tryz.prog ko #[.pointer (some p)] V fun e V' => e = .returned (.slice (some ⟨g, j, none⟩) n n) ∧ V = V') :
    Calls Tryz.prog 90 #[.slice a l.length c, .pointer (some p), .pointer (some ⟨bo, 0, none⟩)] W (RPost w L (fun x W' => Mem w W' ((g, .cells (spl A j x) T (0, 0)) :: L)) (if l.length < n then none else some (l.take n, l.drop n))) := by
  have c1 := co _ hM.sub
  by_cases hlt : l.length < n
  · rw [if_pos hlt]
    have C := split_no W a l.length c n hlt (by omega)
    clear hS hlt
    go_enter Tryz.func90, Tryz.ntmps90
    go_wp2_with fail
    refine (ho _).mono ?_
    rintro e V ⟨rfl, rfl⟩
    go_wp2_with fail
    refine C.mono ?_
    rintro e V ⟨rfl, rfl⟩
    go_wp2_with fail
    go_ret2
    exact ⟨rfl, hM.sub⟩
  · rw [if_neg hlt]
    have hle : n ≤ l.length := by omega
    have C := split_yes (hM.sl hS) n hle (by omega)
    have hlen : (l.take n).length = n := by rw [List.length_take]; omega
    obtain ⟨X, hX⟩ : ∃ X, l.take n = X := ⟨_, rfl⟩
    rw [hX] at hlen ⊢
    clear hlt hle
    go_enter Tryz.func90, Tryz.ntmps90
    go_wp2_with fail
    refine (ho _).mono ?_
    rintro e V ⟨rfl, rfl⟩
    go_wp2_with fail
    refine C.mono ?_
    rintro e V ⟨v1, v2, rfl, ⟨a1, k1, a2, k2, rfl, rfl, hSp⟩, q, rfl⟩
    have hM1 := hM.drewN q
    generalize W.drewN q = V at hM1
    have hp := (hSp V (hM1.sl hS)).1
    have hq := (hSp w hS).2
    rw [hX] at hp
    obtain ⟨W2, hcp, hw2⟩ := copy_bytes V 3 (some ⟨g, j, none⟩) a1 n n n k1 g j A (spl A j X) T (hM1.get 0 rfl) X (by rw [hlen]; exact (Nat.min_self n).symm)
      (fun h0 => ⟨rfl, by
        rcases hp.row.cells with e | ⟨b, off, rfl, _⟩
        · rw [e] at h0; simp at h0
        · exact ⟨_, rfl, hp.row.news⟩⟩) (by omega) rfl
    rw [hlen] at hcp
    have c2 := co _ hM1.sub
    have HM2 : Hid (Mem w W2 ((g, .cells (spl A j X) T (0, 0)) :: L)) := hM1.wrote 0 rfl hw2
    clear hSp hp hM C hM1 hj co hw2 hX
    go_wp2_with fail
    refine (ho _).mono ?_
    rintro e V1 ⟨rfl, rfl⟩
    go_wp2_with fail
    go_ret2
    refine ⟨a2, k2, by rw [List.length_drop]; rfl, hq, HM2.out⟩

set_option maxHeartbeats 4000000 in
theorem osm_T {w W : World} {L : List (Nat × Obj)} (h : Mem w W L) (bo ko n : Nat) (p p' q q' : Addr) (x y : List Int) (hx : x.length = n) (hy : y.length = n)
    (co : ∀ V, Mem w V L → V.cell? ⟨bo, 0, none⟩ = some (.func (.func ko) #[] #[]))
    (eo : ∀ args V, (callFunc ko args).run Tryz.prog V = .ok (.enter ko args) V) (ho : ∀ V, Calls Tryz.prog ko #[.pointer (some p)] V fun e V' => e = .returned (.slice (some p') n n) ∧ V = V')
    (hq : ∀ V, Calls Tryz.prog ko #[.pointer (some q)] V fun e V' => e = .returned (.slice (some q') n n) ∧ V = V')
    (cx : ∀ V, Mem w V L → Row V (some p') x) (cy : ∀ V, Mem w V L → Row V (some q') y) :
    Calls Tryz.prog 91 #[.pointer (some p), .pointer (some q), .pointer (some ⟨bo, 0, none⟩)] W fun e W' => e = .returned (.bool (decide (x = y))) ∧ Mem w W' L := by
  have HM : Hid (Mem w W.drew L) := h.drew
  have c2 := co _ HM.out
  have CE := bequal_any (cx _ HM.out) (cy _ HM.out) n n hx hy n n
  clear h co cx cy
  go_enter Tryz.func91, Tryz.ntmps91
  go_upto_region 1 with fail
  go_region_held3 (fun V => V.cell? ⟨bo, 0, none⟩ = some (.func (.func ko) #[] #[])) (go_keep)
    (first | (go_at_fn ko; with_reducible refine (ho _).mono ?_; rintro e V ⟨rfl, rfl⟩) | (go_at_fn ko; with_reducible refine (hq _).mono ?_; rintro e V ⟨rfl, rfl⟩) | (go_at_call 92; refine CE.mono ?_; rintro e V ⟨rfl, rfl⟩))
  go_wp2_with fail
  go_ret
  exact ⟨rfl, HM.out⟩
end Go.Proofs.YtbccadbnaggkhaaGreat

namespace Go.Proofs.YtbccadbnaggkhaaGreat
open Go.RowKit
open Sm
open Cf
set_option linter.unusedVariables false
set_option maxRecDepth 20000

end Go.Proofs.YtbccadbnaggkhaaGreat

