/-
  Settings as bytes: the field of an array of bytes (lych/api.Config).
  Settings as bytes: the field of a number (lych/api.Pair, uint32): what it writes, reads, holds to be the same.
-/
import Derived.Test.YtngegdamcfmonaaGreatM09
namespace Go.Proofs.YtngegdamcfmonaaGreat
open Go.RowKit
open Sm
open Cf
set_option linter.unusedVariables false
set_option maxRecDepth 20000

set_option maxHeartbeats 4000000 in
theorem owr_C {w W : World} {v : Value} {l : List Int} {L : List (Nat × Obj)} (h : Out w W v l L) (bo ko n : Nat) (p p' : Addr) (x : List Int) (hn : x.length = n)
    (co : ∀ V, Mem w V L → V.cell? ⟨bo, 0, none⟩ = some (.func (.func ko) #[] #[]))
    (eo : ∀ args V, (callFunc ko args).run Tryz.prog V = .ok (.enter ko args) V) (ho : ∀ V, Calls Tryz.prog ko #[.pointer (some p)] V fun e V' => e = .returned (.slice (some p') n n) ∧ V = V')
    (cx : ∀ V, Mem w V L → Row V (some p') x) (hb : l.length + n ≤ 1000000000) :
    Calls Tryz.prog 102 #[v, .pointer (some p), .pointer (some ⟨bo, 0, none⟩)] W fun e W' => ∃ v', e = .returned v' ∧ Out w W' v' (l ++ x) L := by
  have c2 := co _ h.mem
  obtain ⟨v1, W1, hr, hO⟩ := out_append (c := n) h p' n x hn (cx _ h.mem) hb 40
  have HO : Hid (Out w W1 v1 (l ++ x) L) := hO
  clear h co cx hO
  go_enter Tryz.func102, Tryz.ntmps102
  go_wp2_with fail
  refine (ho _).mono ?_
  rintro e V ⟨rfl, rfl⟩
  go_wp2_with (at_builtin; refine wpList_append_run (.tmp 6) (.tmp 9) 40 40 (by with_reducible rfl) hr rfl rfl (by simp [Act.eval]) (by simp [Act.eval]) ?_)
  go_ret
  exact ⟨_, rfl, HO.out⟩

set_option maxHeartbeats 4000000 in
theorem ord_C {w W : World} {a : Option Addr} {l : List Int} {c : Nat} {L : List (Nat × Obj)} {g : Nat} {A : Array Value} {T : TypeId} (hM : Mem w W ((g, .cells A T (0, 0)) :: L)) (hS : Sl w a l c) (bo n ko j : Nat) (p : Addr) (hs : n ≤ 8) (hn0 : 0 < n)
    (hj : j + n ≤ A.size)
    (co : ∀ V, Mem w V L → V.cell? ⟨bo, 0, none⟩ = some (.func (.func ko) #[] #[]))
    (eo : ∀ args V, (callFunc ko args).run Tryz.prog V = .ok (.enter ko args) V) (ho : ∀ V, Calls Tryz.prog ko #[.pointer (some p)] V fun e V' => e = .returned (.slice (some ⟨g, j, none⟩) n n) ∧ V = V') :
    Calls Tryz.prog 103 #[.slice a l.length c, .pointer (some p), .pointer (some ⟨bo, 0, none⟩)] W (RPost w L (fun x W' => Mem w W' ((g, .cells (spl A j x) T (0, 0)) :: L)) (if l.length < n then none else some (l.take n, l.drop n))) := by
  have c1 := co _ hM.sub
  by_cases hlt : l.length < n
  · rw [if_pos hlt]
    have C := split_no W a l.length c n hlt (by omega)
    clear hS hlt
    go_enter Tryz.func103, Tryz.ntmps103
    go_wp2_with fail
    refine (ho _).mono ?_
    rintro e V ⟨rfl, rfl⟩
    go_wp2_with fail
    refine C.mono ?_
    rintro e V ⟨rfl, rfl⟩
    go_wp2_with fail
    go_ret2
    exact ⟨rfl, hM.sub⟩
  · rw [if_neg hlt]
    have hle : n ≤ l.length := by omega
    have C := split_yes (hM.sl hS) n hle (by omega)
    have hlen : (l.take n).length = n := by rw [List.length_take]; omega
    obtain ⟨X, hX⟩ : ∃ X, l.take n = X := ⟨_, rfl⟩
    rw [hX] at hlen ⊢
    clear hlt hle
    go_enter Tryz.func103, Tryz.ntmps103
    go_wp2_with fail
    refine (ho _).mono ?_
    rintro e V ⟨rfl, rfl⟩
    go_wp2_with fail
    refine C.mono ?_
    rintro e V ⟨v1, v2, rfl, ⟨a1, k1, a2, k2, rfl, rfl, hSp⟩, q, rfl⟩
    have hM1 := hM.drewN q
    generalize W.drewN q = V at hM1
    have hp := (hSp V (hM1.sl hS)).1
    have hq := (hSp w hS).2
    rw [hX] at hp
    obtain ⟨W2, hcp, hw2⟩ := copy_bytes V 3 (some ⟨g, j, none⟩) a1 n n n k1 g j A (spl A j X) T (hM1.get 0 rfl) X (by rw [hlen]; exact (Nat.min_self n).symm)
      (fun h0 => ⟨rfl, by
        rcases hp.row.cells with e | ⟨b, off, rfl, _⟩
        · rw [e] at h0; simp at h0
        · exact ⟨_, rfl, hp.row.news⟩⟩) (by omega) rfl
    rw [hlen] at hcp
    have c2 := co _ hM1.sub
    have HM2 : Hid (Mem w W2 ((g, .cells (spl A j X) T (0, 0)) :: L)) := hM1.wrote 0 rfl hw2
    clear hSp hp hM C hM1 hj co hw2 hX
    go_wp2_with fail
    refine (ho _).mono ?_
    rintro e V1 ⟨rfl, rfl⟩
    go_wp2_with fail
    go_ret2
    refine ⟨a2, k2, by rw [List.length_drop]; rfl, hq, HM2.out⟩

set_option maxHeartbeats 4000000 in
theorem osm_C {w W : World} {L : List (Nat × Obj)} (h : Mem w W L) (bo ko n : Nat) (p p' q q' : Addr) (x y : List Int) (hx : x.length = n) (hy : y.length = n)
    (co : ∀ V, Mem w V L → V.cell? ⟨bo, 0, none⟩ = some (.func (.func ko) #[] #[]))
    (eo : ∀ args V, (callFunc ko args).run Tryz.prog V = .ok (.enter ko args) V) (ho : ∀ V, Calls Tryz.prog ko #[.pointer (some p)] V fun e V' => e = .returned (.slice (some p') n n) ∧ V = V')
    (hq : ∀ V, Calls Tryz.prog ko #[.pointer (some q)] V fun e V' => e = .returned (.slice (some q') n n) ∧ V = V')
    (cx : ∀ V, Mem w V L → Row V (some p') x) (cy : ∀ V, Mem w V L → Row V (some q') y) :
    Calls Tryz.prog 104 #[.pointer (some p), .pointer (some q), .pointer (some ⟨bo, 0, none⟩)] W fun e W' => e = .returned (.bool (decide (x = y))) ∧ Mem w W' L := by
  have HM : Hid (Mem w W.drew L) := h.drew
  have c2 := co _ HM.out
  have CE := bequal_any (cx _ HM.out) (cy _ HM.out) n n hx hy n n
  clear h co cx cy
  go_enter Tryz.func104, Tryz.ntmps104
  go_upto_region 1 with fail
  go_region_held3 (fun V => V.cell? ⟨bo, 0, none⟩ = some (.func (.func ko) #[] #[])) (go_keep)
    (first | (go_at_fn ko; with_reducible refine (ho _).mono ?_; rintro e V ⟨rfl, rfl⟩) | (go_at_fn ko; with_reducible refine (hq _).mono ?_; rintro e V ⟨rfl, rfl⟩) | (go_at_call 105; refine CE.mono ?_; rintro e V ⟨rfl, rfl⟩))
  go_wp2_with fail
  go_ret
  exact ⟨rfl, HM.out⟩
end Go.Proofs.YtngegdamcfmonaaGreat

namespace Go.Proofs.YtngegdamcfmonaaGreat
open Go.RowKit
open Sm
open Cf
set_option linter.unusedVariables false
set_option maxRecDepth 20000

set_option maxHeartbeats 4000000 in
theorem nwr_PU {w W : World} {v : Value} {l : List Int} {L : List (Nat × Obj)} (h : Out w W v l L) (bs bo sz ko : Nat) (p p' : Addr) (x : Int) (hs : sz ≤ 7)
    (cs : ∀ V, Mem w V L → V.cell? ⟨bs, 0, none⟩ = some (.int .i64 sz)) (co : ∀ V, Mem w V L → V.cell? ⟨bo, 0, none⟩ = some (.func (.func ko) #[] #[]))
    (eo : ∀ args V, (callFunc ko args).run Tryz.prog V = .ok (.enter ko args) V) (ho : ∀ V, Calls Tryz.prog ko #[.pointer (some p)] V fun e V' => e = .returned (.pointer (some p')) ∧ V = V')
    (cx : ∀ V, Mem w V L → V.cell? p' = some (.int .u32 x)) (hb : l.length + sz ≤ 1000000000) :
    Calls Tryz.prog 166 #[v, .pointer (some p), .pointer (some ⟨bs, 0, none⟩), .pointer (some ⟨bo, 0, none⟩)] W fun e W' => ∃ v', e = .returned v' ∧ Out w W' v' (l ++ be sz (IntKind.u64.wrap x)) L := by
  have HO : Hid (Out w W.drew v l L) := h.after ((Below.refl _ _).drew)
  have c1 := cs _ HO.out.mem
  have c2 := co _ HO.out.mem
  have c3 := cx _ HO.out.mem
  have hx : 0 ≤ IntKind.u64.wrap x ∧ IntKind.u64.wrap x < 18446744073709551616 := by rw [wrapu64]; omega
  have CP : Hid (∀ z, 0 ≤ z ∧ z < 18446744073709551616 → Calls Tryz.prog 97 #[v, .int .i64 sz, .int .u64 z] W.drew fun e W' => ∃ v', e = .returned v' ∧ Out w W' v' (l ++ be sz z) L) := fun z hz => put_any HO.out sz z hs hz hb
  have KS : Hid (∀ V v' l', Out w V v' l' L → V.cell? ⟨bs, 0, none⟩ = some (.int .i64 sz) ∧ V.cell? ⟨bo, 0, none⟩ = some (.func (.func ko) #[] #[]) ∧ V.cell? p' = some (.int .u32 x)) := fun V v' l' hV => ⟨cs _ hV.mem, co _ hV.mem, cx _ hV.mem⟩
  clear h cs co cx
  go_enter Tryz.func166, Tryz.ntmps166
  go_upto_region 1 with fail
  go_region_held3 (fun V => V.cell? ⟨bs, 0, none⟩ = some (.int .i64 sz) ∧ V.cell? ⟨bo, 0, none⟩ = some (.func (.func ko) #[] #[]) ∧ V.cell? p' = some (.int .u32 x)) (first | go_keep | exact KS.out _ _ _ hO)
    (first | (go_at_fn ko; refine (ho _).mono ?_; rintro e V ⟨rfl, rfl⟩) | (go_at_call 97; refine (CP.out _ hx).mono ?_; rintro e V ⟨v', rfl, hO⟩))
  go_wp2_with fail
  go_ret
  exact ⟨_, rfl, hO⟩

set_option maxHeartbeats 4000000 in
theorem nrd_PU {w W : World} {a : Option Addr} {l : List Int} {c : Nat} {L : List (Nat × Obj)} {g : Nat} {A : Array Value} {T : TypeId} (hM : Mem w W ((g, .cells A T (0, 0)) :: L)) (hS : Sl w a l c) (bs bo sz ko j : Nat) (p : Addr) (y : Int) (hs : sz ≤ 4)
    (hfit : ∀ q, 0 ≤ q → q < 256 ^ sz → IntKind.u32.wrap q = q) (hj : A[j]? = some (.int .u32 y))
    (cs : ∀ V, Mem w V L → V.cell? ⟨bs, 0, none⟩ = some (.int .i64 sz)) (co : ∀ V, Mem w V L → V.cell? ⟨bo, 0, none⟩ = some (.func (.func ko) #[] #[]))
    (eo : ∀ args V, (callFunc ko args).run Tryz.prog V = .ok (.enter ko args) V) (ho : ∀ V, Calls Tryz.prog ko #[.pointer (some p)] V fun e V' => e = .returned (.pointer (some ⟨g, j, none⟩)) ∧ V = V') :
    Calls Tryz.prog 167 #[.slice a l.length c, .pointer (some p), .pointer (some ⟨bs, 0, none⟩), .pointer (some ⟨bo, 0, none⟩)] W (RPost w L (fun x W' => Mem w W' ((g, .cells (A.setIfInBounds j (.int .u32 x)) T (0, 0)) :: L)) (if l.length < sz then none else some (num (l.take sz), l.drop sz))) := by
  have c1 := cs _ hM.sub
  by_cases hlt : l.length < sz
  · rw [if_pos hlt]
    have C := split_no W a l.length c sz hlt (by omega)
    clear hS hlt
    go_enter Tryz.func167, Tryz.ntmps167
    go_wp2_with fail
    refine C.mono ?_
    rintro e V ⟨rfl, rfl⟩
    go_wp2_with fail
    go_ret2
    exact ⟨rfl, hM.sub⟩
  · rw [if_neg hlt]
    have hle : sz ≤ l.length := by omega
    have C := split_yes (hM.sl hS) sz hle (by omega)
    have hlen : (l.take sz).length = sz := by rw [List.length_take]; omega
    have hrg := num_range (bytes_tk hS.row.bytes sz)
    rw [hlen] at hrg
    have hw := hfit _ hrg.1 hrg.2
    clear hfit hlt hle hrg
    obtain ⟨N, hN⟩ : ∃ N, num (l.take sz) = N := ⟨_, rfl⟩
    rw [hN] at hw
    go_enter Tryz.func167, Tryz.ntmps167
    go_wp2_with fail
    refine C.mono ?_
    rintro e V ⟨v1, v2, rfl, ⟨a1, k1, a2, k2, rfl, rfl, hSp⟩, q, rfl⟩
    have hM1 := hM.drewN q
    generalize W.drewN q = V at hM1
    have hp := hSp V (hM1.sl hS)
    have hq := (hSp w hS).2
    have CG := get_any hp.1.row sz k1 hlen (by omega)
    rw [hN] at CG
    have c2 := co _ hM1.sub
    have c3 := (hM1.cell 0 rfl j).trans hj
    have f3 := hM1.free 0 rfl j
    have HM2 : Hid (Mem w (V.setCell ⟨g, j, none⟩ (.int .u32 N)) ((g, .cells (A.setIfInBounds j (.int .u32 N)) T (0, 0)) :: L)) := by
      have := hM1.set 0 rfl j (.int .u32 N)
      exact this
    clear hSp hp hM C hM1 hj cs co
    go_wp2_with fail
    refine (ho _).mono ?_
    rintro e V1 ⟨rfl, rfl⟩
    go_wp2_with fail
    refine CG.mono ?_
    rintro e V1 ⟨rfl, rfl⟩
    go_wp2_with fail
    go_ret2
    refine ⟨a2, k2, by rw [List.length_drop]; rfl, hq, ?_⟩
    rw [hN]; exact HM2.out

set_option maxHeartbeats 4000000 in
theorem nsm_PU {w W : World} {L : List (Nat × Obj)} (h : Mem w W L) (bo ko : Nat) (p p' q q' : Addr) (x y : Int)
    (co : ∀ V, Mem w V L → V.cell? ⟨bo, 0, none⟩ = some (.func (.func ko) #[] #[]))
    (eo : ∀ args V, (callFunc ko args).run Tryz.prog V = .ok (.enter ko args) V) (ho : ∀ V, Calls Tryz.prog ko #[.pointer (some p)] V fun e V' => e = .returned (.pointer (some p')) ∧ V = V')
    (hq : ∀ V, Calls Tryz.prog ko #[.pointer (some q)] V fun e V' => e = .returned (.pointer (some q')) ∧ V = V')
    (cx : ∀ V, Mem w V L → V.cell? p' = some (.int .u32 x)) (cy : ∀ V, Mem w V L → V.cell? q' = some (.int .u32 y)) :
    Calls Tryz.prog 168 #[.pointer (some p), .pointer (some q), .pointer (some ⟨bo, 0, none⟩)] W fun e W' => e = .returned (.bool (decide (x = y))) ∧ Mem w W' L := by
  have HM : Hid (Mem w W.drew L) := h.drew
  have c2 := co _ HM.out
  have c3 := cx _ HM.out
  have c4 := cy _ HM.out
  clear h co cx cy
  go_enter Tryz.func168, Tryz.ntmps168
  go_upto_region 1 with fail
  go_region_held3 (fun V => V.cell? ⟨bo, 0, none⟩ = some (.func (.func ko) #[] #[]) ∧ V.cell? p' = some (.int .u32 x) ∧ V.cell? q' = some (.int .u32 y)) (go_keep)
    (first | (go_at_fn ko; with_reducible refine (ho _).mono ?_; rintro e V ⟨rfl, rfl⟩) | (go_at_fn ko; with_reducible refine (hq _).mono ?_; rintro e V ⟨rfl, rfl⟩))
  go_wp2_with fail
  go_ret
  exact ⟨by simp <;> rfl, HM.out⟩
end Go.Proofs.YtngegdamcfmonaaGreat

