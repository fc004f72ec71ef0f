/-
  The chapter's example stands: lychlaw3.known answers true.
-/
import Derived.Test.YtnjejakhikonpaaIpParse
import Derived.Test.YtnjejakhikonpaaIpRefOk
import Derived.Test.YtnjejakhikonpaaIpRefBytes
namespace Go.Proofs.Ytnjejakhikonpaa
open Go.RowKit
open Sm
set_option linter.unusedVariables false

def pk0 : Pk := ⟨0, 64, 17, 0, 0, 0, 1, 2, [], [7]⟩
theorem pk0_ok : pk0.Ok := ⟨by decide, by decide, by decide, by decide, by decide, by decide, by decide, by decide, fun i => by simp [pk0], fun i => by match i with | 0 => simp [pk0] | i + 1 => simp [pk0]⟩
theorem pk0_err : ipbErr pk0 = 0 := rfl
def l0 : List Int := [69, 0, 0, 21, 0, 0, 0, 0, 64, 17, 122, 214, 0, 0, 0, 1, 0, 0, 0, 2, 7]
theorem l0_eq : ipOut pk0 = l0 := by decide
theorem l0_err : ipErr l0 = 0 := by decide
theorem l0_res : ipRes l0 = pk0 := by
  have f : Fits pk0 := (fits_iff pk0).mp rfl
  have h := back_res pk0_ok f []
  rw [List.append_nil] at h
  have e : ipb pk0 = l0 := by rw [← l0_eq]; exact (if_pos pk0_err).symm
  rw [e] at h
  exact h
theorem l0_bytes : IsBytes l0 := by
  unfold l0
  iterate 21 (refine bytes_cons ⟨by decide, by decide⟩ ?_)
  exact fun i => by simp
def l1 : List Int := [69, 0, 0, 21, 0, 0, 0, 0, 65, 17, 122, 214, 0, 0, 0, 1, 0, 0, 0, 2, 7]
theorem l1_eq : l0.set 8 65 = l1 := rfl
theorem l1_err : ipErr l1 = 22 := by decide
theorem l1_bytes : IsBytes l1 := by
  unfold l1
  iterate 21 (refine bytes_cons ⟨by decide, by decide⟩ ?_)
  exact fun i => by simp
theorem l1_res : ipRes l1 = Pk.zero := if_neg (by rw [l1_err]; decide)
theorem nil_res : ipRes [] = Pk.zero := rfl

/-- ip.Parse's answer written out. -/
theorem parse_out {w : World} {a : Option Addr} {n c : Nat} {l : List Int} (hr : Row w a l) (hn : l.length = n) (hc : n ≤ c) {E : Int} {p : Pk} (hE : ipErr l = E) (hp : ipRes l = p) {no nb : Nat} (ho : p.opts.length = no) (hb : p.body.length = nb) :
    Calls Try.prog 12 #[.slice a n c] w fun r w' => ∃ ao co bo cb, r = .returned (.tuple #[.agg (ipA p.tos p.ttl p.proto p.id p.flags p.off p.src p.dst (.slice ao no co) (.slice bo nb cb)), .int .i64 E]) ∧
      IpV w' w.heap.size (.agg (ipA p.tos p.ttl p.proto p.id p.flags p.off p.src p.dst (.slice ao no co) (.slice bo nb cb))) p ∧ Below w.heap.size w w' := by
  subst hE hp ho hb
  refine (parse_any hr hn hc).mono ?_
  rintro r w' ⟨v, rfl, hv, hb⟩
  have hv' := hv
  obtain ⟨ao, co, bo, cb, rfl, -⟩ := hv
  exact ⟨ao, co, bo, cb, rfl, hv', hb⟩
theorem rip_out {w : World} {a : Option Addr} {n c : Nat} {l : List Int} (hr : Row w a l) (hn : l.length = n) (hc : n ≤ c) {E : Int} {p : Pk} (hE : ipErr l = E) (hp : ipRes l = p) {no nb : Nat} (ho : p.opts.length = no) (hb : p.body.length = nb) :
    Calls Try.prog 13 #[.slice a n c] w fun r w' => ∃ ao co bo cb, r = .returned (.tuple #[.agg (ipA p.tos p.ttl p.proto p.id p.flags p.off p.src p.dst (.slice ao no co) (.slice bo nb cb)), .int .i64 E]) ∧
      IpV w' w.heap.size (.agg (ipA p.tos p.ttl p.proto p.id p.flags p.off p.src p.dst (.slice ao no co) (.slice bo nb cb))) p ∧ Below w.heap.size w w' := by
  subst hE hp ho hb
  refine (rip_any hr hn hc).mono ?_
  rintro r w' ⟨v, rfl, hv, hb⟩
  have hv' := hv
  obtain ⟨ao, co, bo, cb, rfl, -⟩ := hv
  exact ⟨ao, co, bo, cb, rfl, hv', hb⟩

set_option maxHeartbeats 2000000 in
theorem known_any (w : World) : Calls Try.prog 9 #[] w fun e w' => e = .returned (.bool true) ∧ Below w.heap.size w w' := by
  have hx : bits .xor .u8 64 1 = 65 := by decide
  have hM1 : Mem w (w.alloc (.cells #[.int .u8 7] 5)) [(w.heap.size, .cells #[.int .u8 7] 5)] := (Mem.nil w).push w.heap.size _ rfl
  have hrow : Row (w.alloc (.cells #[.int .u8 7] 5)) (some ⟨w.heap.size, 0, none⟩) [7] := row_lit w [7] (bytes_cons (by decide) (fun i => by simp)) (by simp) 5
  have hv : IpV (w.alloc (.cells #[.int .u8 7] 5)) 0 (.agg (ipA 0 64 17 0 0 0 1 2 (.slice none 0 0) (.slice (some ⟨w.heap.size, 0, none⟩) 1 1))) pk0 :=
    ⟨none, 0, some ⟨w.heap.size, 0, none⟩, 1, rfl, row_nil _, hrow, fun _ => rfl, fun e => (by cases e), fun x hx => Nat.zero_le _, fun x hx => Nat.zero_le _⟩
  have hB := bytes_any pk0_ok hv
  rw [l0_eq, pk0_err, show l0.length = 21 from rfl] at hB
  have HM1 : Hid _ := hM1
  clear hM1 hrow hv
  go_enter Try.func9, Try.ntmps9
  go_wp2_with fail
  refine hB.mono ?_
  rintro e w2 ⟨u, rfl, hown, hbel⟩
  obtain ⟨g, cap, rfl, hg, hcap, hob⟩ := own_shape2 hown rfl (by omega)
  have HM2 : Hid _ := HM1.out.after hbel
  have hgw : w.heap.size < g := by simp at hg; omega
  have hp1 := parse_out (hob.row l0_bytes (by decide)) (n := 21) rfl hcap l0_err l0_res (no := 0) (nb := 1) rfl rfl
  have HOB : Hid _ := hob
  clear hB hown hbel hob HM1
  go_wp2_with fail
  refine hp1.mono ?_
  rintro e w3 ⟨ao, co, bo, cb, rfl, hv3, hb3⟩
  clear hp1 hv3
  have HM3 : Hid _ := HM2.out.after hb3
  have HOB3 : Hid (OwnB w3 (w.alloc (.cells #[.int .u8 7] 5)).heap.size g cap l0) := own_after HOB.out hb3 (Nat.le_refl _)
  clear HOB hb3 HM2
  have HgP : Hid (g < w3.heap.size) := by
    have := HOB3.out.cell 0 (by decide)
    exact cell_lt this
  go_upto_region 5 with fail
  refine wp_letter (fun W => OwnB W (w.alloc (.cells #[.int .u8 7] 5)).heap.size g cap l0 ∧ Mem w W [(w.heap.size, .cells #[.int .u8 7] 5), (w3.heap.size, .cells (ipA pk0.tos pk0.ttl pk0.proto pk0.id pk0.flags pk0.off pk0.src pk0.dst (.slice ao 0 co) (.slice bo 1 cb)) ipT)]) ⟨own_after HOB3.out ((Below.refl _ _).alloc (Nat.le_refl _) _) (Nat.le_refl _), HM3.out.push w3.heap.size _ rfl⟩ ?_
  intro w4 ⟨hob4, hM4⟩
  have hgP := HgP.out
  clear HOB3 HM3 HgP
  generalize w3.heap.size = P at *
  have hne : P ≠ g := by omega
  have k8 : w4.cell? ⟨g, 8, none⟩ = some (.int .u8 64) := hob4.cell 8 (by decide)
  have f8 := hob4.free 8
  have hob5 := hob4.store 8 65
  rw [l1_eq] at hob5
  have hb5 : Below w.heap.size w (w4.setCell ⟨g, 8, none⟩ (.int .u8 65)) := below_set hM4.below (by omega)
  have kP : ∀ i, (w4.setCell ⟨g, 8, none⟩ (.int .u8 65)).cell? ⟨P, i, none⟩ = (ipA pk0.tos pk0.ttl pk0.proto pk0.id pk0.flags pk0.off pk0.src pk0.dst (.slice ao 0 co) (.slice bo 1 cb))[i]? := fun i => by
    rw [World.cell?_setCell_other _ _ _ _ (fun e => hne (by simp only [Addr.mk.injEq] at e; exact e.1.symm))]; exact hM4.cell 1 rfl i
  have hPl : P < (w4.setCell ⟨g, 8, none⟩ (.int .u8 65)).heap.size := cell_lt (kP 0)
  have hp2 := parse_out (hob5.row l1_bytes (by decide)) (n := 21) rfl hcap l1_err l1_res (no := 0) (nb := 0) rfl rfl
  have HH : Hid (P < (w4.setCell ⟨g, 8, none⟩ (.int .u8 65)).heap.size ∧ Below w.heap.size w (w4.setCell ⟨g, 8, none⟩ (.int .u8 65)) ∧ ∀ i, (w4.setCell ⟨g, 8, none⟩ (.int .u8 65)).cell? ⟨P, i, none⟩ = (ipA pk0.tos pk0.ttl pk0.proto pk0.id pk0.flags pk0.off pk0.src pk0.dst (.slice ao 0 co) (.slice bo 1 cb))[i]?) := ⟨hPl, hb5, kP⟩
  clear hob4 hM4 hob5 hb5 kP hPl hgP hgw hg hcap
  go_wp2_with fail
  refine hp2.mono ?_
  rintro e w5 ⟨ao2, co2, bo2, cb2, rfl, -, hb5⟩
  have HH2 : Hid (P < w5.heap.size ∧ Below w.heap.size w w5 ∧ ∀ i, w5.cell? ⟨P, i, none⟩ = (ipA pk0.tos pk0.ttl pk0.proto pk0.id pk0.flags pk0.off pk0.src pk0.dst (.slice ao 0 co) (.slice bo 1 cb))[i]?) := by
    obtain ⟨q1, q2, q3⟩ := HH.out
    exact ⟨Nat.lt_of_lt_of_le q1 hb5.size, q2.trans (hb5.mono q2.size), fun i => (hb5.cell (p := ⟨P, i, none⟩) q1).trans (q3 i)⟩
  clear HH hb5 hp2 k8 f8
  generalize w4.setCell ⟨g, 8, none⟩ (.int .u8 65) = w4' at *
  go_upto_region 7 with fail
  refine wp_letter (fun W => P < W.heap.size ∧ Below w.heap.size w W ∧ ∀ i, W.cell? ⟨P, i, none⟩ = (ipA pk0.tos pk0.ttl pk0.proto pk0.id pk0.flags pk0.off pk0.src pk0.dst (.slice ao 0 co) (.slice bo 1 cb))[i]?) (by
    obtain ⟨q1, q2, q3⟩ := HH2.out
    have hb := (Below.refl w5.heap.size w5).alloc (Nat.le_refl _) (.cells (ipA Pk.zero.tos Pk.zero.ttl Pk.zero.proto Pk.zero.id Pk.zero.flags Pk.zero.off Pk.zero.src Pk.zero.dst (.slice ao2 0 co2) (.slice bo2 0 cb2)) ipT)
    exact ⟨Nat.lt_of_lt_of_le q1 hb.size, q2.trans (hb.mono q2.size), fun i => (hb.cell (p := ⟨P, i, none⟩) q1).trans (q3 i)⟩) ?_
  intro w6 hH6
  have HH6 : Hid _ := hH6
  have hp3 := parse_out (row_nil w6) (n := 0) (c := 0) rfl (Nat.le_refl _) (E := 20) rfl nil_res (no := 0) (nb := 0) rfl rfl
  clear hH6 HH2
  go_wp2_with fail
  refine hp3.mono ?_
  rintro e w7 ⟨ao3, co3, bo3, cb3, rfl, -, hb7⟩
  clear hp3
  go_upto_region 8 with fail
  refine wp_letter (fun W => Below w.heap.size w W ∧ ∀ i, W.cell? ⟨P, i, none⟩ = (ipA pk0.tos pk0.ttl pk0.proto pk0.id pk0.flags pk0.off pk0.src pk0.dst (.slice ao 0 co) (.slice bo 1 cb))[i]?) (by
    obtain ⟨q1, q2, q3⟩ := HH6.out
    have hb := hb7.alloc hb7.size (.cells (ipA Pk.zero.tos Pk.zero.ttl Pk.zero.proto Pk.zero.id Pk.zero.flags Pk.zero.off Pk.zero.src Pk.zero.dst (.slice ao3 0 co3) (.slice bo3 0 cb3)) ipT)
    exact ⟨q2.trans (hb.mono q2.size), fun i => (hb.cell (p := ⟨P, i, none⟩) q1).trans (q3 i)⟩) ?_
  intro w8 ⟨hb8, kP⟩
  have t1 : pk0.ttl = 64 := rfl
  have t2 : pk0.dst = 2 := rfl
  have HB8 : Hid _ := hb8
  clear hb8 hb7 HH6
  go_wp2
  go_ret
  exact ⟨by simp [t1, t2], HB8.out⟩
end Go.Proofs.Ytnjejakhikonpaa
