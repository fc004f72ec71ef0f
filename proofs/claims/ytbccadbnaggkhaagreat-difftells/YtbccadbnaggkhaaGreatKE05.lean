/-
  Settings as bytes: the field of a number (lych/api.Tenant, uint16): what it writes, reads, holds to be the same.
  Settings as bytes: the field of a number (lych/api.Tenant, uint32): what it writes, reads, holds to be the same.
  Settings as bytes: the field of a number (lych/api.Pair, uint32): what it writes, reads, holds to be the same.
  Settings as bytes: the field of an array of bytes (lych/api.Config).
  Settings as bytes: the field of a number (lych/api.Config, uint32): what it writes, reads, holds to be the same.
-/
import Derived.Test.YtbccadbnaggkhaaGreatKE03
namespace Go.Proofs.YtbccadbnaggkhaaGreat
open Go.RowKit
open Sm
open Cf
set_option linter.unusedVariables false
set_option maxRecDepth 20000

set_option maxHeartbeats 4000000 in
theorem nwr_TH {w W : World} {v : Value} {l : List Int} {L : List (Nat × Obj)} (h : Out w W v l L) (bs bo sz ko : Nat) (p p' : Addr) (x : Int) (hs : sz ≤ 7)
    (cs : ∀ V, Mem w V L → V.cell? ⟨bs, 0, none⟩ = some (.int .i64 sz)) (co : ∀ V, Mem w V L → V.cell? ⟨bo, 0, none⟩ = some (.func (.func ko) #[] #[]))
    (eo : ∀ args V, (callFunc ko args).run Tryz.prog V = .ok (.enter ko args) V) (ho : ∀ V, Calls Tryz.prog ko #[.pointer (some p)] V fun e V' => e = .returned (.pointer (some p')) ∧ V = V')
    (cx : ∀ V, Mem w V L → V.cell? p' = some (.int .u16 x)) (hb : l.length + sz ≤ 1000000000) :
    Calls Tryz.prog 93 #[v, .pointer (some p), .pointer (some ⟨bs, 0, none⟩), .pointer (some ⟨bo, 0, none⟩)] W fun e W' => ∃ v', e = .returned v' ∧ Out w W' v' (l ++ be sz (IntKind.u64.wrap x)) L := by
  have HO : Hid (Out w W.drew v l L) := h.after ((Below.refl _ _).drew)
  have c1 := cs _ HO.out.mem
  have c2 := co _ HO.out.mem
  have c3 := cx _ HO.out.mem
  have hx : 0 ≤ IntKind.u64.wrap x ∧ IntKind.u64.wrap x < 18446744073709551616 := by rw [wrapu64]; omega
  have CP : Hid (∀ z, 0 ≤ z ∧ z < 18446744073709551616 → Calls Tryz.prog 85 #[v, .int .i64 sz, .int .u64 z] W.drew fun e W' => ∃ v', e = .returned v' ∧ Out w W' v' (l ++ be sz z) L) := fun z hz => put_any HO.out sz z hs hz hb
  have KS : Hid (∀ V v' l', Out w V v' l' L → V.cell? ⟨bs, 0, none⟩ = some (.int .i64 sz) ∧ V.cell? ⟨bo, 0, none⟩ = some (.func (.func ko) #[] #[]) ∧ V.cell? p' = some (.int .u16 x)) := fun V v' l' hV => ⟨cs _ hV.mem, co _ hV.mem, cx _ hV.mem⟩
  clear h cs co cx
  go_enter Tryz.func93, Tryz.ntmps93
  go_upto_region 1 with fail
  go_region_held3 (fun V => V.cell? ⟨bs, 0, none⟩ = some (.int .i64 sz) ∧ V.cell? ⟨bo, 0, none⟩ = some (.func (.func ko) #[] #[]) ∧ V.cell? p' = some (.int .u16 x)) (first | go_keep | exact KS.out _ _ _ hO)
    (first | (go_at_fn ko; refine (ho _).mono ?_; rintro e V ⟨rfl, rfl⟩) | (go_at_call 85; refine (CP.out _ hx).mono ?_; rintro e V ⟨v', rfl, hO⟩))
  go_wp2_with fail
  go_ret
  exact ⟨_, rfl, hO⟩

set_option maxHeartbeats 4000000 in
theorem nrd_TH {w W : World} {a : Option Addr} {l : List Int} {c : Nat} {L : List (Nat × Obj)} {g : Nat} {A : Array Value} {T : TypeId} (hM : Mem w W ((g, .cells A T (0, 0)) :: L)) (hS : Sl w a l c) (bs bo sz ko j : Nat) (p : Addr) (y : Int) (hs : sz ≤ 4)
    (hfit : ∀ q, 0 ≤ q → q < 256 ^ sz → IntKind.u16.wrap q = q) (hj : A[j]? = some (.int .u16 y))
    (cs : ∀ V, Mem w V L → V.cell? ⟨bs, 0, none⟩ = some (.int .i64 sz)) (co : ∀ V, Mem w V L → V.cell? ⟨bo, 0, none⟩ = some (.func (.func ko) #[] #[]))
    (eo : ∀ args V, (callFunc ko args).run Tryz.prog V = .ok (.enter ko args) V) (ho : ∀ V, Calls Tryz.prog ko #[.pointer (some p)] V fun e V' => e = .returned (.pointer (some ⟨g, j, none⟩)) ∧ V = V') :
    Calls Tryz.prog 94 #[.slice a l.length c, .pointer (some p), .pointer (some ⟨bs, 0, none⟩), .pointer (some ⟨bo, 0, none⟩)] W (RPost w L (fun x W' => Mem w W' ((g, .cells (A.setIfInBounds j (.int .u16 x)) T (0, 0)) :: L)) (if l.length < sz then none else some (num (l.take sz), l.drop sz))) := by
  have c1 := cs _ hM.sub
  by_cases hlt : l.length < sz
  · rw [if_pos hlt]
    have C := split_no W a l.length c sz hlt (by omega)
    clear hS hlt
    go_enter Tryz.func94, Tryz.ntmps94
    go_wp2_with fail
    refine C.mono ?_
    rintro e V ⟨rfl, rfl⟩
    go_wp2_with fail
    go_ret2
    exact ⟨rfl, hM.sub⟩
  · rw [if_neg hlt]
    have hle : sz ≤ l.length := by omega
    have C := split_yes (hM.sl hS) sz hle (by omega)
    have hlen : (l.take sz).length = sz := by rw [List.length_take]; omega
    have hrg := num_range (bytes_tk hS.row.bytes sz)
    rw [hlen] at hrg
    have hw := hfit _ hrg.1 hrg.2
    clear hfit hlt hle hrg
    obtain ⟨N, hN⟩ : ∃ N, num (l.take sz) = N := ⟨_, rfl⟩
    rw [hN] at hw
    go_enter Tryz.func94, Tryz.ntmps94
    go_wp2_with fail
    refine C.mono ?_
    rintro e V ⟨v1, v2, rfl, ⟨a1, k1, a2, k2, rfl, rfl, hSp⟩, q, rfl⟩
    have hM1 := hM.drewN q
    generalize W.drewN q = V at hM1
    have hp := hSp V (hM1.sl hS)
    have hq := (hSp w hS).2
    have CG := get_any hp.1.row sz k1 hlen (by omega)
    rw [hN] at CG
    have c2 := co _ hM1.sub
    have c3 := (hM1.cell 0 rfl j).trans hj
    have f3 := hM1.free 0 rfl j
    have HM2 : Hid (Mem w (V.setCell ⟨g, j, none⟩ (.int .u16 N)) ((g, .cells (A.setIfInBounds j (.int .u16 N)) T (0, 0)) :: L)) := by
      have := hM1.set 0 rfl j (.int .u16 N)
      exact this
    clear hSp hp hM C hM1 hj cs co
    go_wp2_with fail
    refine (ho _).mono ?_
    rintro e V1 ⟨rfl, rfl⟩
    go_wp2_with fail
    refine CG.mono ?_
    rintro e V1 ⟨rfl, rfl⟩
    go_wp2_with fail
    go_ret2
    refine ⟨a2, k2, by rw [List.length_drop]; rfl, hq, ?_⟩
    rw [hN]; exact HM2.out

set_option maxHeartbeats 4000000 in
theorem nsm_TH {w W : World} {L : List (Nat × Obj)} (h : Mem w W L) (bo ko : Nat) (p p' q q' : Addr) (x y : Int)
    (co : ∀ V, Mem w V L → V.cell? ⟨bo, 0, none⟩ = some (.func (.func ko) #[] #[]))
    (eo : ∀ args V, (callFunc ko args).run Tryz.prog V = .ok (.enter ko args) V) (ho : ∀ V, Calls Tryz.prog ko #[.pointer (some p)] V fun e V' => e = .returned (.pointer (some p')) ∧ V = V')
    (hq : ∀ V, Calls Tryz.prog ko #[.pointer (some q)] V fun e V' => e = .returned (.pointer (some q')) ∧ V = V')
    (cx : ∀ V, Mem w V L → V.cell? p' = some (.int .u16 x)) (cy : ∀ V, Mem w V L → V.cell? q' = some (.int .u16 y)) :
    Calls Tryz.prog 95 #[.pointer (some p), .pointer (some q), .pointer (some ⟨bo, 0, none⟩)] W fun e W' => e = .returned (.bool (decide (x = y))) ∧ Mem w W' L := by
  have HM : Hid (Mem w W.drew L) := h.drew
  have c2 := co _ HM.out
  have c3 := cx _ HM.out
  have c4 := cy _ HM.out
  clear h co cx cy
  go_enter Tryz.func95, Tryz.ntmps95
  go_upto_region 1 with fail
  go_region_held3 (fun V => V.cell? ⟨bo, 0, none⟩ = some (.func (.func ko) #[] #[]) ∧ V.cell? p' = some (.int .u16 x) ∧ V.cell? q' = some (.int .u16 y)) (go_keep)
    (first | (go_at_fn ko; with_reducible refine (ho _).mono ?_; rintro e V ⟨rfl, rfl⟩) | (go_at_fn ko; with_reducible refine (hq _).mono ?_; rintro e V ⟨rfl, rfl⟩))
  go_wp2_with fail
  go_ret
  exact ⟨by simp <;> rfl, HM.out⟩
end Go.Proofs.YtbccadbnaggkhaaGreat

namespace Go.Proofs.YtbccadbnaggkhaaGreat
open Go.RowKit
open Sm
open Cf
set_option linter.unusedVariables false
set_option maxRecDepth 20000

set_option maxHeartbeats 4000000 in
theorem nwr_TU {w W : World} {v : Value} {l : List Int} {L : List (Nat × Obj)} (h : Out w W v l L) (bs bo sz ko : Nat) (p p' : Addr) (x : Int) (hs : sz ≤ 7)
    (cs : ∀ V, Mem w V L → V.cell? ⟨bs, 0, none⟩ = some (.int .i64 sz)) (co : ∀ V, Mem w V L → V.cell? ⟨bo, 0, none⟩ = some (.func (.func ko) #[] #[]))
    (eo : ∀ args V, (callFunc ko args).run Tryz.prog V = .ok (.enter ko args) V) (ho : ∀ V, Calls Tryz.prog ko #[.pointer (some p)] V fun e V' => e = .returned (.pointer (some p')) ∧ V = V')
    (cx : ∀ V, Mem w V L → V.cell? p' = some (.int .u32 x)) (hb : l.length + sz ≤ 1000000000) :
    Calls Tryz.prog 84 #[v, .pointer (some p), .pointer (some ⟨bs, 0, none⟩), .pointer (some ⟨bo, 0, none⟩)] W fun e W' => ∃ v', e = .returned v' ∧ Out w W' v' (l ++ be sz (IntKind.u64.wrap x)) L := by
  have HO : Hid (Out w W.drew v l L) := h.after ((Below.refl _ _).drew)
  have c1 := cs _ HO.out.mem
  have c2 := co _ HO.out.mem
  have c3 := cx _ HO.out.mem
  have hx : 0 ≤ IntKind.u64.wrap x ∧ IntKind.u64.wrap x < 18446744073709551616 := by rw [wrapu64]; omega
  have CP : Hid (∀ z, 0 ≤ z ∧ z < 18446744073709551616 → Calls Tryz.prog 85 #[v, .int .i64 sz, .int .u64 z] W.drew fun e W' => ∃ v', e = .returned v' ∧ Out w W' v' (l ++ be sz z) L) := fun z hz => put_any HO.out sz z hs hz hb
  have KS : Hid (∀ V v' l', Out w V v' l' L → V.cell? ⟨bs, 0, none⟩ = some (.int .i64 sz) ∧ V.cell? ⟨bo, 0, none⟩ = some (.func (.func ko) #[] #[]) ∧ V.cell? p' = some (.int .u32 x)) := fun V v' l' hV => ⟨cs _ hV.mem, co _ hV.mem, cx _ hV.mem⟩
  clear h cs co cx
  go_enter Tryz.func84, Tryz.ntmps84
  go_upto_region 1 with fail
  go_region_held3 (fun V => V.cell? ⟨bs, 0, none⟩ = some (.int .i64 sz) ∧ V.cell? ⟨bo, 0, none⟩ = some (.func (.func ko) #[] #[]) ∧ V.cell? p' = some (.int .u32 x)) (first | go_keep | exact KS.out _ _ _ hO)
    (first | (go_at_fn ko; refine (ho _).mono ?_; rintro e V ⟨rfl, rfl⟩) | (go_at_call 85; refine (CP.out _ hx).mono ?_; rintro e V ⟨v', rfl, hO⟩))
  go_wp2_with fail
  go_ret
  exact ⟨_, rfl, hO⟩

set_option maxHeartbeats 4000000 in
theorem nrd_TU {w W : World} {a : Option Addr} {l : List Int} {c : Nat} {L : List (Nat × Obj)} {g : Nat} {A : Array Value} {T : TypeId} (hM : Mem w W ((g, .cells A T (0, 0)) :: L)) (hS : Sl w a l c) (bs bo sz ko j : Nat) (p : Addr) (y : Int) (hs : sz ≤ 4)
    (hfit : ∀ q, 0 ≤ q → q < 256 ^ sz → IntKind.u32.wrap q = q) (hj : A[j]? = some (.int .u32 y))
    (cs : ∀ V, Mem w V L → V.cell? ⟨bs, 0, none⟩ = some (.int .i64 sz)) (co : ∀ V, Mem w V L → V.cell? ⟨bo, 0, none⟩ = some (.func (.func ko) #[] #[]))
    (eo : ∀ args V, (callFunc ko args).run Tryz.prog V = .ok (.enter ko args) V) (ho : ∀ V, Calls Tryz.prog ko #[.pointer (some p)] V fun e V' => e = .returned (.pointer (some ⟨g, j, none⟩)) ∧ V = V') :
    Calls Tryz.prog 86 #[.slice a l.length c, .pointer (some p), .pointer (some ⟨bs, 0, none⟩), .pointer (some ⟨bo, 0, none⟩)] W (RPost w L (fun x W' => Mem w W' ((g, .cells (A.setIfInBounds j (.int .u32 x)) T (0, 0)) :: L)) (if l.length < sz then none else some (num (l.take sz), l.drop sz))) := by
  have c1 := cs _ hM.sub
  by_cases hlt : l.length < sz
  · rw [if_pos hlt]
    have C := split_no W a l.length c sz hlt (by omega)
    clear hS hlt
    go_enter Tryz.func86, Tryz.ntmps86
    go_wp2_with fail
    refine C.mono ?_
    rintro e V ⟨rfl, rfl⟩
    go_wp2_with fail
    go_ret2
    exact ⟨rfl, hM.sub⟩
  · rw [if_neg hlt]
    have hle : sz ≤ l.length := by omega
    have C := split_yes (hM.sl hS) sz hle (by omega)
    have hlen : (l.take sz).length = sz := by rw [List.length_take]; omega
    have hrg := num_range (bytes_tk hS.row.bytes sz)
    rw [hlen] at hrg
    have hw := hfit _ hrg.1 hrg.2
    clear hfit hlt hle hrg
    obtain ⟨N, hN⟩ : ∃ N, num (l.take sz) = N := ⟨_, rfl⟩
    rw [hN] at hw
    go_enter Tryz.func86, Tryz.ntmps86
    go_wp2_with fail
    refine C.mono ?_
    rintro e V ⟨v1, v2, rfl, ⟨a1, k1, a2, k2, rfl, rfl, hSp⟩, q, rfl⟩
    have hM1 := hM.drewN q
    generalize W.drewN q = V at hM1
    have hp := hSp V (hM1.sl hS)
    have hq := (hSp w hS).2
    have CG := get_any hp.1.row sz k1 hlen (by omega)
    rw [hN] at CG
    have c2 := co _ hM1.sub
    have c3 := (hM1.cell 0 rfl j).trans hj
    have f3 := hM1.free 0 rfl j
    have HM2 : Hid (Mem w (V.setCell ⟨g, j, none⟩ (.int .u32 N)) ((g, .cells (A.setIfInBounds j (.int .u32 N)) T (0, 0)) :: L)) := by
      have := hM1.set 0 rfl j (.int .u32 N)
      exact this
    clear hSp hp hM C hM1 hj cs co
    go_wp2_with fail
    refine (ho _).mono ?_
    rintro e V1 ⟨rfl, rfl⟩
    go_wp2_with fail
    refine CG.mono ?_
    rintro e V1 ⟨rfl, rfl⟩
    go_wp2_with fail
    go_ret2
    refine ⟨a2, k2, by rw [List.length_drop]; rfl, hq, ?_⟩
    rw [hN]; exact HM2.out

set_option maxHeartbeats 4000000 in
theorem nsm_TU {w W : World} {L : List (Nat × Obj)} (h : Mem w W L) (bo ko : Nat) (p p' q q' : Addr) (x y : Int)
    (co : ∀ V, Mem w V L → V.cell? ⟨bo, 0, none⟩ = some (.func (.func ko) #[] #[]))
    (eo : ∀ args V, (callFunc ko args).run Tryz.prog V = .ok (.enter ko args) V) (ho : ∀ V, Calls Tryz.prog ko #[.pointer (some p)] V fun e V' => e = .returned (.pointer (some p')) ∧ V = V')
    (hq : ∀ V, Calls Tryz.prog ko #[.pointer (some q)] V fun e V' => e = .returned (.pointer (some q')) ∧ V = V')
    (cx : ∀ V, Mem w V L → V.cell? p' = some (.int .u32 x)) (cy : ∀ V, Mem w V L → V.cell? q' = some (.int .u32 y)) :
    Calls Tryz.prog 88 #[.pointer (some p), .pointer (some q), .pointer (some ⟨bo, 0, none⟩)] W fun e W' => e = .returned (.bool (decide (x = y))) ∧ Mem w W' L := by
  have HM : Hid (Mem w W.drew L) := h.drew
  have c2 := co _ HM.out
  have c3 := cx _ HM.out
  have c4 := cy _ HM.out
  clear h co cx cy
  go_enter Tryz.func88, Tryz.ntmps88
  go_upto_region 1 with fail
  go_region_held3 (fun V => V.cell? ⟨bo, 0, none⟩ = some (.func (.func ko) #[] #[]) ∧ V.cell? p' = some (.int .u32 x) ∧ V.cell? q' = some (.int .u32 y)) (go_keep)
    (first | (go_at_fn ko; with_reducible refine (ho _).mono ?_; rintro e V ⟨rfl, rfl⟩) | (go_at_fn ko; with_reducible refine (hq _).mono ?_; rintro e V ⟨rfl, rfl⟩))
  go_wp2_with fail
  go_ret
  exact ⟨by simp <;> rfl, HM.out⟩
end Go.Proofs.YtbccadbnaggkhaaGreat

namespace Go.Proofs.YtbccadbnaggkhaaGreat
open Go.RowKit
open Sm
open Cf
set_option linter.unusedVariables false
set_option maxRecDepth 20000

set_option maxHeartbeats 4000000 in
theorem nwr_PU {w W : World} {v : Value} {l : List Int} {L : List (Nat × Obj)} (h : Out w W v l L) (bs bo sz ko : Nat) (p p' : Addr) (x : Int) (hs : sz ≤ 7)
    (cs : ∀ V, Mem w V L → V.cell? ⟨bs, 0, none⟩ = some (.int .i64 sz)) (co : ∀ V, Mem w V L → V.cell? ⟨bo, 0, none⟩ = some (.func (.func ko) #[] #[]))
    (eo : ∀ args V, (callFunc ko args).run Tryz.prog V = .ok (.enter ko args) V) (ho : ∀ V, Calls Tryz.prog ko #[.pointer (some p)] V fun e V' => e = .returned (.pointer (some p')) ∧ V = V')
    (cx : ∀ V, Mem w V L → V.cell? p' = some (.int .u32 x)) (hb : l.length + sz ≤ 1000000000) :
    Calls Tryz.prog 135 #[v, .pointer (some p), .pointer (some ⟨bs, 0, none⟩), .pointer (some ⟨bo, 0, none⟩)] W fun e W' => ∃ v', e = .returned v' ∧ Out w W' v' (l ++ be sz (IntKind.u64.wrap x)) L := by
  have HO : Hid (Out w W.drew v l L) := h.after ((Below.refl _ _).drew)
  have c1 := cs _ HO.out.mem
  have c2 := co _ HO.out.mem
  have c3 := cx _ HO.out.mem
  have hx : 0 ≤ IntKind.u64.wrap x ∧ IntKind.u64.wrap x < 18446744073709551616 := by rw [wrapu64]; omega
  have CP : Hid (∀ z, 0 ≤ z ∧ z < 18446744073709551616 → Calls Tryz.prog 85 #[v, .int .i64 sz, .int .u64 z] W.drew fun e W' => ∃ v', e = .returned v' ∧ Out w W' v' (l ++ be sz z) L) := fun z hz => put_any HO.out sz z hs hz hb
  have KS : Hid (∀ V v' l', Out w V v' l' L → V.cell? ⟨bs, 0, none⟩ = some (.int .i64 sz) ∧ V.cell? ⟨bo, 0, none⟩ = some (.func (.func ko) #[] #[]) ∧ V.cell? p' = some (.int .u32 x)) := fun V v' l' hV => ⟨cs _ hV.mem, co _ hV.mem, cx _ hV.mem⟩
  clear h cs co cx
  go_enter Tryz.func135, Tryz.ntmps135
  go_upto_region 1 with fail
  go_region_held3 (fun V => V.cell? ⟨bs, 0, none⟩ = some (.int .i64 sz) ∧ V.cell? ⟨bo, 0, none⟩ = some (.func (.func ko) #[] #[]) ∧ V.cell? p' = some (.int .u32 x)) (first | go_keep | exact KS.out _ _ _ hO)
    (first | (go_at_fn ko; refine (ho _).mono ?_; rintro e V ⟨rfl, rfl⟩) | (go_at_call 85; refine (CP.out _ hx).mono ?_; rintro e V ⟨v', rfl, hO⟩))
  go_wp2_with fail
  go_ret
  exact ⟨_, rfl, hO⟩

set_option maxHeartbeats 4000000 in
theorem nrd_PU {w W : World} {a : Option Addr} {l : List Int} {c : Nat} {L : List (Nat × Obj)} {g : Nat} {A : Array Value} {T : TypeId} (hM : Mem w W ((g, .cells A T (0, 0)) :: L)) (hS : Sl w a l c) (bs bo sz ko j : Nat) (p : Addr) (y : Int) (hs : sz ≤ 4)
    (hfit : ∀ q, 0 ≤ q → q < 256 ^ sz → IntKind.u32.wrap q = q) (hj : A[j]? = some (.int .u32 y))
    (cs : ∀ V, Mem w V L → V.cell? ⟨bs, 0, none⟩ = some (.int .i64 sz)) (co : ∀ V, Mem w V L → V.cell? ⟨bo, 0, none⟩ = some (.func (.func ko) #[] #[]))
    (eo : ∀ args V, (callFunc ko args).run Tryz.prog V = .ok (.enter ko args) V) (ho : ∀ V, Calls Tryz.prog ko #[.pointer (some p)] V fun e V' => e = .returned (.pointer (some ⟨g, j, none⟩)) ∧ V = V') :
    Calls Tryz.prog 136 #[.slice a l.length c, .pointer (some p), .pointer (some ⟨bs, 0, none⟩), .pointer (some ⟨bo, 0, none⟩)] W (RPost w L (fun x W' => Mem w W' ((g, .cells (A.setIfInBounds j (.int .u32 x)) T (0, 0)) :: L)) (if l.length < sz then none else some (num (l.take sz), l.drop sz))) := by
  have c1 := cs _ hM.sub
  by_cases hlt : l.length < sz
  · rw [if_pos hlt]
    have C := split_no W a l.length c sz hlt (by omega)
    clear hS hlt
    go_enter Tryz.func136, Tryz.ntmps136
    go_wp2_with fail
    refine C.mono ?_
    rintro e V ⟨rfl, rfl⟩
    go_wp2_with fail
    go_ret2
    exact ⟨rfl, hM.sub⟩
  · rw [if_neg hlt]
    have hle : sz ≤ l.length := by omega
    have C := split_yes (hM.sl hS) sz hle (by omega)
    have hlen : (l.take sz).length = sz := by rw [List.length_take]; omega
    have hrg := num_range (bytes_tk hS.row.bytes sz)
    rw [hlen] at hrg
    have hw := hfit _ hrg.1 hrg.2
    clear hfit hlt hle hrg
    obtain ⟨N, hN⟩ : ∃ N, num (l.take sz) = N := ⟨_, rfl⟩
    rw [hN] at hw
    go_enter Tryz.func136, Tryz.ntmps136
    go_wp2_with fail
    refine C.mono ?_
    rintro e V ⟨v1, v2, rfl, ⟨a1, k1, a2, k2, rfl, rfl, hSp⟩, q, rfl⟩
    have hM1 := hM.drewN q
    generalize W.drewN q = V at hM1
    have hp := hSp V (hM1.sl hS)
    have hq := (hSp w hS).2
    have CG := get_any hp.1.row sz k1 hlen (by omega)
    rw [hN] at CG
    have c2 := co _ hM1.sub
    have c3 := (hM1.cell 0 rfl j).trans hj
    have f3 := hM1.free 0 rfl j
    have HM2 : Hid (Mem w (V.setCell ⟨g, j, none⟩ (.int .u32 N)) ((g, .cells (A.setIfInBounds j (.int .u32 N)) T (0, 0)) :: L)) := by
      have := hM1.set 0 rfl j (.int .u32 N)
      exact this
    clear hSp hp hM C hM1 hj cs co
    go_wp2_with fail
    refine (ho _).mono ?_
    rintro e V1 ⟨rfl, rfl⟩
    go_wp2_with fail
    refine CG.mono ?_
    rintro e V1 ⟨rfl, rfl⟩
    go_wp2_with fail
    go_ret2
    refine ⟨a2, k2, by rw [List.length_drop]; rfl, hq, ?_⟩
    rw [hN]; exact HM2.out

set_option maxHeartbeats 4000000 in
theorem nsm_PU {w W : World} {L : List (Nat × Obj)} (h : Mem w W L) (bo ko : Nat) (p p' q q' : Addr) (x y : Int)
    (co : ∀ V, Mem w V L → V.cell? ⟨bo, 0, none⟩ = some (.func (.func ko) #[] #[]))
    (eo : ∀ args V, (callFunc ko args).run Tryz.prog V = .ok (.enter ko args) V) (ho : ∀ V, Calls Tryz.prog ko #[.pointer (some p)] V fun e V' => e = .returned (.pointer (some p')) ∧ V = V')
    (hq : ∀ V, Calls Tryz.prog ko #[.pointer (some q)] V fun e V' => e = .returned (.pointer (some q')) ∧ V = V')
    (cx : ∀ V, Mem w V L → V.cell? p' = some (.int .u32 x)) (cy : ∀ V, Mem w V L → V.cell? q' = some (.int .u32 y)) :
    Calls Tryz.prog 137 #[.pointer (some p), .pointer (some q), .pointer (some ⟨bo, 0, none⟩)] W fun e W' => e = .returned (.bool (decide (x = y))) ∧ Mem w W' L := by
  have HM : Hid (Mem w W.drew L) := h.drew
  have c2 := co _ HM.out
  have c3 := cx _ HM.out
  have c4 := cy _ HM.out
  clear h co cx cy
  go_enter Tryz.func137, Tryz.ntmps137
  go_upto_region 1 with fail
  go_region_held3 (fun V => V.cell? ⟨bo, 0, none⟩ = some (.func (.func ko) #[] #[]) ∧ V.cell? p' = some (.int .u32 x) ∧ V.cell? q' = some (.int .u32 y)) (go_keep)
    (first | (go_at_fn ko; with_reducible refine (ho _).mono ?_; rintro e V ⟨rfl, rfl⟩) | (go_at_fn ko; with_reducible refine (hq _).mono ?_; rintro e V ⟨rfl, rfl⟩))
  go_wp2_with fail
  go_ret
  exact ⟨by simp <;> rfl, HM.out⟩
end Go.Proofs.YtbccadbnaggkhaaGreat

namespace Go.Proofs.YtbccadbnaggkhaaGreat
open Go.RowKit
open Sm
open Cf
set_option linter.unusedVariables false
set_option maxRecDepth 20000

end Go.Proofs.YtbccadbnaggkhaaGreat

namespace Go.Proofs.YtbccadbnaggkhaaGreat
open Go.RowKit
open Sm
open Cf
set_option linter.unusedVariables false
set_option maxRecDepth 20000

end Go.Proofs.YtbccadbnaggkhaaGreat

