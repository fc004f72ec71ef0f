/-
  Settings as bytes: the program's whole (lych/api.Tenant): what all bytes are.
  Settings as bytes: changes: the program's changeName and Change.
  Settings as bytes: the document's own reader: name, mac, key.
  Settings as bytes: settings in memory, as they are written and read.
  Settings as bytes: what is written is read back, and no part of it is read.
-/
import Derived.Test.YtngegdamcfmonaaGreatM23
import Derived.Test.YtngegdamcfmonaaGreatM15
import Derived.Test.YtngegdamcfmonaaGreatM22
import Derived.Test.YtngegdamcfmonaaGreatM17
import Derived.Test.YtngegdamcfmonaaGreatM16
import Derived.Test.YtngegdamcfmonaaGreatM14
import Derived.Test.YtngegdamcfmonaaGreatM11
namespace Go.Proofs.YtngegdamcfmonaaGreat
open Go.RowKit
open Sm
open Cf
set_option linter.unusedVariables false
set_option maxRecDepth 20000

set_option maxHeartbeats 8000000 in
theorem whole_T {α ρ : Type} {w W : World} {E L : List (Nat × Obj)} {I : Rp α ρ} {J : St' α} {f : Fv} {s : Sp α} {a : Option Addr} {l : List Int} {c : Nat} (h : Mem w W (E ++ L)) (er : Ent f.kr)
    (hrd : ∀ K, Sub E K → ∀ x g T pre post a l c V, J w x g T pre post V K → Sl w a l c → Calls Tryz.prog f.kr (#[.slice a l.length c, .pointer (some ⟨g, pre.length, none⟩)] ++ f.cr) V (RPost w K (fun y V' => J w y g T pre post V' K) (s.dec l x)))
    (hS : Sl w a l c) (x0 : α) (hz : ∀ g V K, Mem w V ((g, .cells tz 33 (0, 0)) :: K) → J w x0 g 33 [] [] V K) (Q : α → World → Value → Prop) (hJM : ∀ x V K, J w x (W.heap.size + 1 + 1) 33 [] [] V K → Mem w V K)
    (hfin : ∀ x g rb z V K, Sub (E ++ L) K → J w x g 33 [] [] V ((rb, .cells z 33 (0, 0)) :: K) → ∃ tl, V.heap[g]? = some (.cells tl 33 (0, 0)) ∧ tl.size = 33 ∧ tl.all (·.oneCell') = true ∧ V.heap[rb]? = some (.cells z 33 (0, 0)) ∧ Mem w (V.setRow rb tl) ((rb, .cells tl 33 (0, 0)) :: K) ∧ Q x (V.setRow rb tl) (.agg tl)) :
    Calls Tryz.prog 44 #[f.val, .slice a l.length c] W fun e W' => Mem w W' (E ++ L) ∧ match s.dec l x0 with
      | some (x, []) => ∃ v, e = .returned (.tuple #[v, .int .i64 0]) ∧ Q x W' v
      | _ => e = .returned (.tuple #[.agg tz, .int .i64 70]) := by
  obtain ⟨k1, k2, k3, c1, c2, c3⟩ := f
  obtain ⟨bf, hbf⟩ : ∃ bf, W.heap.size = bf := ⟨_, rfl⟩
  rw [hbf] at hJM
  have hM0 : Mem w ((((W.alloc (.cells #[.func (.func k1) #[] c1, .func (.func k2) #[] c2, .func (.func k3) #[] c3] 79)).alloc (.cells tz 33)).alloc (.cells tz 33)).alloc (.cells tz 33))
      ((bf + 1 + 1, .cells tz 33 (0, 0)) :: (bf + 1, .cells tz 33 (0, 0)) :: (bf + 1 + 1 + 1, .cells tz 33 (0, 0)) :: (bf, .cells #[.func (.func k1) #[] c1, .func (.func k2) #[] c2, .func (.func k3) #[] c3] 79 (0, 0)) :: (E ++ L)) := by
    have h1 := (((h.push bf (.cells #[.func (.func k1) #[] c1, .func (.func k2) #[] c2, .func (.func k3) #[] c3] 79 (0, 0)) hbf.symm).push (bf + 1) (.cells tz 33 (0, 0)) (by simp; omega)).push (bf + 1 + 1) (.cells tz 33 (0, 0)) (by simp; omega)).push (bf + 1 + 1 + 1) (.cells tz 33 (0, 0)) (by simp; omega)
    refine h1.perm ?_
    classical
    rw [List.perm_iff_count]
    intro q
    simp only [List.count_append, List.count_cons, List.count_nil]
    omega
  have hJ0 := hz (bf + 1 + 1) _ _ hM0
  have CR := hrd ((bf + 1, .cells tz 33 (0, 0)) :: (bf + 1 + 1 + 1, .cells tz 33 (0, 0)) :: (bf, .cells #[.func (.func k1) #[] c1, .func (.func k2) #[] c2, .func (.func k3) #[] c3] 79 (0, 0)) :: (E ++ L)) (fun q hq => List.mem_cons_of_mem _ (List.mem_cons_of_mem _ (List.mem_cons_of_mem _ (List.mem_append_left _ hq)))) x0 (bf + 1 + 1) 33 [] [] a l c _ hJ0 hS
  have eg : ∀ args V, (callFunc k2 args).run Tryz.prog V = .ok (.enter k2 args) V := er
  simp only [List.length_nil] at CR
  obtain ⟨R, hR⟩ : ∃ R, s.dec l x0 = R := ⟨_, rfl⟩
  rw [hR] at CR ⊢
  simp only [Fv.val]
  have HFIN := hfin
  have HF : Hid (∀ x g rb z V K, Sub (E ++ L) K → J w x g 33 [] [] V ((rb, .cells z 33 (0, 0)) :: K) → ∃ tl, V.heap[g]? = some (.cells tl 33 (0, 0)) ∧ tl.size = 33 ∧ tl.all (·.oneCell') = true ∧ V.heap[rb]? = some (.cells z 33 (0, 0)) ∧ Mem w (V.setRow rb tl) ((rb, .cells tl 33 (0, 0)) :: K) ∧ Q x (V.setRow rb tl) (.agg tl)) := hfin
  clear hrd hfin HFIN hz hJ0 hM0 hR h er
  have hsz : (Tryz.prog.info? 33).map (·.size) = some (tz).size := by kernel_rfl
  generalize l.length = n at *
  have key : ∀ V M, Mem w V ((bf + 1, .cells tz 33 (0, 0)) :: (bf + 1 + 1 + 1, .cells tz 33 (0, 0)) :: M) → V.heap[bf + 1]? = some (.cells tz 33 (0, 0)) ∧ V.heap[bf + 1 + 1 + 1]? = some (.cells tz 33 (0, 0)) ∧ Mem w (V.setRow (bf + 1) tz) ((bf + 1, .cells tz 33 (0, 0)) :: (bf + 1 + 1 + 1, .cells tz 33 (0, 0)) :: M) := by
    intro V M hV
    exact ⟨hV.get 0 rfl, hV.get 1 rfl, hV.wrote 0 rfl (wrote_setRow V (bf + 1) _ _ _ (hV.get 0 rfl))⟩
  have KY : Hid (∀ V M, Mem w V ((bf + 1, .cells tz 33 (0, 0)) :: (bf + 1 + 1 + 1, .cells tz 33 (0, 0)) :: M) → V.heap[bf + 1]? = some (.cells tz 33 (0, 0)) ∧ V.heap[bf + 1 + 1 + 1]? = some (.cells tz 33 (0, 0)) ∧ Mem w (V.setRow (bf + 1) tz) ((bf + 1, .cells tz 33 (0, 0)) :: (bf + 1 + 1 + 1, .cells tz 33 (0, 0)) :: M)) := key
  clear key
  have hzone : (tz : Array Value).all (·.oneCell') = true := by kernel_rfl
  have hsub : ∀ V A, Mem w V ((bf + 1, A) :: (bf + 1 + 1 + 1, .cells tz 33 (0, 0)) :: (bf, .cells #[.func (.func k1) #[] c1, .func (.func k2) #[] c2, .func (.func k3) #[] c3] 79 (0, 0)) :: (E ++ L)) → Mem w V (E ++ L) := fun V A h => h.sub.sub.sub
  have HS : Hid (∀ V A, Mem w V ((bf + 1, A) :: (bf + 1 + 1 + 1, .cells tz 33 (0, 0)) :: (bf, .cells #[.func (.func k1) #[] c1, .func (.func k2) #[] c2, .func (.func k3) #[] c3] 79 (0, 0)) :: (E ++ L)) → Mem w V (E ++ L)) := hsub
  clear hsub
  cases R with
  | none =>
    go_enter Tryz.func44, Tryz.ntmps44
    go_wp2_with fail
    refine CR.mono ?_
    rintro e V ⟨rfl, hM⟩
    obtain ⟨g1, g2, hM4⟩ := KY.out V _ hM
    clear CR
    go_wp2_with (first | (refine wpList_load_row rfl 33 (.tmp 7) (by with_reducible rfl) (bf + 1 + 1 + 1) rfl 33 _ (0, 0) _ g2 Tryz.underlying33 rfl hsz ?_) | (refine wpList_store_row rfl 33 (.tmp 4) (.tmp 24) (by with_reducible rfl) (bf + 1) tz rfl rfl 33 _ g1 hsz rfl hzone ?_))
    refine bodyPost_ret (v := .tuple #[.agg tz, .int .i64 70]) ?_ rfl ⟨HS.out _ _ hM4, rfl⟩
    exact results_two' (p := 4) (q := 5) (ty := 33) rfl _ _ (bf + 1) _ rfl (run_loadVar_row _ _ 33 33 _ (0, 0) _ (hM4.get 0 rfl) Tryz.underlying33 rfl hsz)
  | some y =>
    obtain ⟨x, l'⟩ := y
    cases l' with
    | nil =>
      go_enter Tryz.func44, Tryz.ntmps44
      go_wp2_with fail
      refine CR.mono ?_
      rintro e V ⟨a2, c2', rfl, hS2, hJ⟩
      obtain ⟨tl, hg, htl, hone, hgr, hM4, hQ⟩ := HF.out _ _ _ _ _ _ (fun q hq => List.mem_cons_of_mem _ (List.mem_cons_of_mem _ hq)) hJ
      have hi33 : (Tryz.prog.info? 33).map (·.size) = some tl.size := by rw [htl]; kernel_rfl
      have HQ : Hid (Q x (V.setRow (bf + 1) tl) (.agg tl)) := hQ
      clear CR hJ hS2 HF hQ KY
      go_wp2_with (first | (refine wpList_load_row rfl 33 (.tmp 6) (by with_reducible rfl) (bf + 1 + 1) rfl 33 tl (0, 0) _ hg Tryz.underlying33 rfl hi33 ?_) | (refine wpList_store_row rfl 33 (.tmp 4) (.tmp 25) (by with_reducible rfl) (bf + 1) tl rfl rfl 33 _ hgr hi33 (by rw [htl]; rfl) hone ?_))
      refine bodyPost_ret (v := .tuple #[.agg tl, .int .i64 0]) ?_ rfl ⟨HS.out _ _ hM4, _, rfl, HQ.out⟩
      exact results_two' (p := 4) (q := 5) (ty := 33) rfl _ _ (bf + 1) _ rfl (run_loadVar_row _ _ 33 33 _ (0, 0) _ (hM4.get 0 rfl) Tryz.underlying33 rfl hi33)
    | cons b r =>
      go_enter Tryz.func44, Tryz.ntmps44
      go_wp2_with fail
      refine CR.mono ?_
      rintro e V ⟨a2, c2', rfl, hS2, hJ⟩
      have hM := hJM _ _ _ hJ
      obtain ⟨g1, g2, hM4⟩ := KY.out V _ hM
      have hpos : (0 : Int) < ((b :: r).length : Int) := by simp only [List.length_cons]; omega
      clear CR hJ hS2 HF hM
      generalize (b :: r).length = m at *
      go_wp2_with (first | (refine wpList_load_row rfl 33 (.tmp 7) (by with_reducible rfl) (bf + 1 + 1 + 1) rfl 33 _ (0, 0) _ g2 Tryz.underlying33 rfl hsz ?_) | (refine wpList_store_row rfl 33 (.tmp 4) (.tmp 24) (by with_reducible rfl) (bf + 1) tz rfl rfl 33 _ g1 hsz rfl hzone ?_))
      refine bodyPost_ret (v := .tuple #[.agg tz, .int .i64 70]) ?_ rfl ⟨HS.out _ _ hM4, rfl⟩
      exact results_two' (p := 4) (q := 5) (ty := 33) rfl _ _ (bf + 1) _ rfl (run_loadVar_row _ _ 33 33 _ (0, 0) _ (hM4.get 0 rfl) Tryz.underlying33 rfl hsz)
end Go.Proofs.YtngegdamcfmonaaGreat

namespace Go.Proofs.YtngegdamcfmonaaGreat
open Go.RowKit
open Sm
open Cf
set_option linter.unusedVariables false
set_option maxRecDepth 20000

/-- A change. -/
structure Chg where
  put : Bool
  name : ByteArray
  t : Ten
def hc (h : Chg) (p s q : Value) : List Value := .bool h.put :: .string h.name :: tc h.t p s q
def HV (V : World) (v : Value) (h : Chg) : Prop := TLen h.t ∧ ∃ p s q, v = .agg (hc h p s q).toArray ∧ Rw V 1 p (ux h.t.pool) ∧ Rw V 2 s (px h.t.stat) ∧ Rw V 2 q (px h.t.twi)
abbrev hz0 : Array Value := (hc ⟨false, ByteArray.empty, ten0⟩ nilV nilV nilV).toArray
def IH : Rp ByteArray Unit := fun s _ V g off => s.size ≤ 140737488351232 ∧ V.cell? ⟨g, off + 1, none⟩ = some (.string s)
def JH : St' ByteArray := fun w s g T pre post V K => Mem w V ((g, .cells (pre ++ (hc ⟨false, s, ten0⟩ nilV nilV nilV ++ post)).toArray T (0, 0)) :: K)
def spN : Sp ByteArray := spTxt id (fun _ y => y)
theorem acc_change (V : World) (g off : Nat) : Calls Tryz.prog 90 #[.pointer (some ⟨g, off, none⟩)] V fun e V' => e = .returned (.pointer (some ⟨g, off + 1, none⟩)) ∧ V = V' := by
  go_enter Tryz.func90, Tryz.ntmps90
  go_wp2
  go_ret
  exact ⟨rfl, rfl⟩
theorem lens_H {w : World} : ∀ x g T pre post V K, JH w x g T pre post V K → ∃ A M, Lens w JH 1 x g T pre post V K M A ∧ A[pre.length + 1]? = some (.string (id x)) ∧
      ∀ y V', Mem w V' ((g, .cells (A.setIfInBounds (pre.length + 1) (.string y)) T (0, 0)) :: M) → JH w y g T pre post V' K := by
  intro x g T pre post V K h
  refine ⟨_, K, ⟨h, Sub.refl _, fun V' h => h⟩, get_mid _ _ _ 1 _ rfl, fun y V' hV => ?_⟩
  rw [set_mid _ _ _ 1 _ (by simp [hc])] at hV
  exact hV
set_option maxHeartbeats 2000000 in
theorem changeName_any {w W : World} {L : List (Nat × Obj)} (h : Mem w W L) :
    Calls Tryz.prog 34 #[] W fun e W' => ∃ f E, e = .returned f.val ∧ Mem w W' (E ++ L) ∧ Fd w E IH JH f spN := by
  have h0 : Mem w (W.alloc (.cells #[.nilFunc, .nilFunc, .nilFunc] 86)) ((W.heap.size, .cells #[.nilFunc, .nilFunc, .nilFunc] 86 (0, 0)) :: L) := (h.push W.heap.size _ rfl).perm List.perm_append_comm
  have C := mk_Txt_H h0 90
  obtain ⟨rb, hrb⟩ : ∃ rb, W.heap.size = rb := ⟨_, rfl⟩
  rw [hrb] at C
  go_enter Tryz.func34, Tryz.ntmps34
  go_wp2_with fail
  refine C.mono ?_
  rintro e V ⟨bo, rfl, hM⟩
  have hM2 : Mem w V ((rb, .cells #[.nilFunc, .nilFunc, .nilFunc] 86 (0, 0)) :: ((bo, .cells #[.func (.func 90) #[] #[]] 159 (0, 0)) :: L)) := hM.perm (List.Perm.swap _ _ _)
  have HF : Hid (Fd w ([(bo, .cells #[.func (.func 90) #[] #[]] 159 (0, 0))]) IH JH (fvTxt_H bo) spN) :=
    fd_Txt_H bo 90 1 id (fun _ y => y) (by simp) (enters_of Tryz.func90 (by kernel_rfl) rfl) acc_change (fun x r V g off h => h) lens_H
  clear C h0 hM h
  generalize fvTxt_H bo = f at HF
  obtain ⟨k1, k2, k3, c1, c2, c3⟩ := f
  have hM3 := hM2.put3 (.func (.func k1) #[] c1) (.func (.func k2) #[] c2) (.func (.func k3) #[] c3)
  have e0 : V.cell? ⟨rb, 0, none⟩ = some .nilFunc := hM2.cell 0 rfl 0
  have e1 : V.cell? ⟨rb, 1, none⟩ = some .nilFunc := hM2.cell 0 rfl 1
  have e2 : V.cell? ⟨rb, 2, none⟩ = some .nilFunc := hM2.cell 0 rfl 2
  have e3 := hM2.free 0 rfl
  clear hM2
  simp only [Fv.val]
  go_wp2_with fail
  refine bodyPost_ret (v := .agg #[.func (.func k1) #[] c1, .func (.func k2) #[] c2, .func (.func k3) #[] c3]) ?_ rfl ⟨⟨k1, k2, k3, c1, c2, c3⟩, [_, _], rfl, hM3, HF.out.more (fun q hq => List.mem_cons_of_mem _ hq)⟩
  exact results_cell_row (p := 0) (ty := 86) rfl _ _ rb 86 _ (0, 0) _ rfl (hM3.get 0 rfl) Tryz.underlying86 rfl (by kernel_rfl)
/-- A change's bytes. -/
def henc (h : Chg) : List Int := if h.put then 1 :: tenc h.t else 0 :: nm h.name
theorem out_lit {w V : World} {K : List (Nat × Obj)} (h : Mem w V K) (x : Int) (hx : 0 ≤ x ∧ x ≤ 255) : Out w (V.alloc (.cells #[.int .u8 x] 5)) (.slice (some ⟨V.heap.size, 0, none⟩) 1 1) [x] K := by
  refine ⟨bytes_cons hx bytes_nil, rfl, Or.inr ⟨V.heap.size, 1, #[.int .u8 x], rfl, (h.push V.heap.size _ rfl).perm List.perm_append_comm, Nat.le_refl _, by decide, rfl, rfl⟩⟩
theorem Out.none {w V : World} {u : Value} {l : List Int} : ∀ K, Out w V u l K → Out w V u l [] := by
  intro K
  induction K with
  | nil => exact id
  | cons p K ih => exact fun h => ih h.drop
set_option maxHeartbeats 4000000 in
theorem cfgChange_any {w : World} {v : Value} {h : Chg} (hv : HV w v h) (hi : TIn h.t) (hn : h.name.size ≤ 140737488351232) (hb : (henc h).length ≤ 1000000000) :
    Calls Tryz.prog 15 #[v] w fun e w' => ∃ u, e = .returned u ∧ Out w w' u (henc h) [] := by
  obtain ⟨-, p, s, q, rfl, h1, h2, h3⟩ := hv
  obtain ⟨put, name, t⟩ := h
  simp only at hi hn h1 h2 h3
  have hM0 : Mem w (w.alloc (.cells (hc ⟨put, name, t⟩ p s q).toArray 35)) [(w.heap.size, .cells (hc ⟨put, name, t⟩ p s q).toArray 35 (0, 0))] := (Mem.nil w).push1 rfl
  obtain ⟨g, hg⟩ : ∃ g, w.heap.size = g := ⟨_, rfl⟩
  have d0 : (w.alloc (.cells (hc ⟨put, name, t⟩ p s q).toArray 35)).cell? ⟨g, 0, none⟩ = some (.bool put) := by rw [← hg]; exact hM0.cell 0 rfl 0
  rw [hg] at hM0
  cases put with
  | true =>
    have C := tenant_any hM0
    have HI := fun K (hm : (g, Obj.cells ([Value.bool true, Value.string name] ++ (tc t p s q ++ [])).toArray 35 (0, 0)) ∈ K) => IT_box (w := w) hi h1 h2 h3 hm
    simp only [List.append_nil, List.length_cons, List.length_nil] at HI
    have HII : Hid (∀ K, (g, Obj.cells (hc ⟨true, name, t⟩ p s q).toArray 35 (0, 0)) ∈ K → ∀ V, Mem w V K → IT t (p, s, q) V g 2) := HI
    have hb' : (1 + (tenc t).length) ≤ 1000000000 := by simp [henc] at hb; omega
    simp only [henc, if_true]
    clear HI hM0 h1 h2 h3 hi hb
    generalize hc ⟨true, name, t⟩ p s q = tl at C HII d0
    go_enter Tryz.func15, Tryz.ntmps15
    go_wp2_with fail
    refine C.mono ?_
    rintro e V ⟨⟨k1, k2, k3, c1, c2, c3⟩, E, rfl, hM, hF⟩
    have CW := hF.wr (E ++ [(g, .cells tl.toArray 35 (0, 0))]) (fun q hq => List.mem_append_left _ hq) t (p, s, q) g 2 (HII.out _ (by simp)) _ [1] _ (out_lit hM 1 (by omega)) hb'
    have eg : ∀ args V, (callFunc k1 args).run Tryz.prog V = .ok (.enter k1 args) V := hF.ew
    have hfd : ∀ V, (Instr.field 79 (.agg #[.func (.func k1) #[] c1, .func (.func k2) #[] c2, .func (.func k3) #[] c3]) 0).run Tryz.prog V = .ok (.func (.func k1) #[] c1) V := fun V => by kernel_rfl
    simp only at CW
    simp only [Fv.val]
    clear hF HII C hM
    go_wp2_with fail
    refine CW.mono ?_
    rintro e V2 ⟨u, rfl, hO⟩
    go_wp2_with fail
    go_ret
    exact ⟨u, rfl, hO.none⟩
  | false =>
    have C := changeName_any hM0
    have HII : Hid (∀ K, (g, Obj.cells (hc ⟨false, name, t⟩ p s q).toArray 35 (0, 0)) ∈ K → ∀ V, Mem w V K → IH name () V g 0) := fun K hm V hV => ⟨hn, by rw [mem_box hV hm]; rfl⟩
    have hb' : (1 + (nm name).length) ≤ 1000000000 := by simp [henc] at hb; omega
    simp only [henc]
    clear hM0 h1 h2 h3 hi hb
    generalize hc ⟨false, name, t⟩ p s q = tl at C HII d0
    go_enter Tryz.func15, Tryz.ntmps15
    go_wp2_with fail
    refine C.mono ?_
    rintro e V ⟨⟨k1, k2, k3, c1, c2, c3⟩, E, rfl, hM, hF⟩
    have CW := hF.wr (E ++ [(g, .cells tl.toArray 35 (0, 0))]) (fun q hq => List.mem_append_left _ hq) name () g 0 (HII.out _ (by simp)) _ [0] _ (out_lit hM 0 (by omega)) hb'
    have eg : ∀ args V, (callFunc k1 args).run Tryz.prog V = .ok (.enter k1 args) V := hF.ew
    have hfd : ∀ V, (Instr.field 86 (.agg #[.func (.func k1) #[] c1, .func (.func k2) #[] c2, .func (.func k3) #[] c3]) 0).run Tryz.prog V = .ok (.func (.func k1) #[] c1) V := fun V => by kernel_rfl
    simp only at CW
    simp only [Fv.val]
    clear hF HII C hM
    go_wp2_with fail
    refine CW.mono ?_
    rintro e V2 ⟨u, rfl, hO⟩
    go_wp2_with fail
    go_ret
    exact ⟨u, rfl, hO.none⟩
end Go.Proofs.YtngegdamcfmonaaGreat

namespace Go.Proofs.YtngegdamcfmonaaGreat
open Go.RowKit
open Sm
open Cf
set_option linter.unusedVariables false
set_option linter.unusedSimpArgs false
set_option maxRecDepth 20000

theorem Rd.add {w V : World} {gr : Nat} {a : Option Addr} {l : List Int} {c : Nat} {σ : Option (List Int)} {K : List (Nat × Obj)} (h : Rd w V gr a l c σ K) (o : Obj) {g : Nat} (hg : g = V.heap.size) : Rd w (V.alloc o) gr a l c σ ((g, o) :: K) := by
  obtain ⟨i, h1, h2, h3⟩ := h
  exact ⟨i, h1, (h2.push g o hg).perm (by
    rw [List.cons_append]
    exact List.Perm.cons _ List.perm_append_comm), h3⟩
theorem Rd.subl {w V : World} {gr : Nat} {a : Option Addr} {l : List Int} {c : Nat} {σ : Option (List Int)} {K K' : List (Nat × Obj)} (h : Rd w V gr a l c σ K) (hs : K'.Sublist K) : Rd w V gr a l c σ K' := by
  obtain ⟨i, h1, h2, h3⟩ := h
  exact ⟨i, h1, h2.subl (hs.cons_cons _), h3⟩
theorem Rd.perm {w V : World} {gr : Nat} {a : Option Addr} {l : List Int} {c : Nat} {σ : Option (List Int)} {K K' : List (Nat × Obj)} (h : Rd w V gr a l c σ K) (hs : K.Perm K') : Rd w V gr a l c σ K' := by
  obtain ⟨i, h1, h2, h3⟩ := h
  exact ⟨i, h1, h2.perm (hs.cons _), h3⟩
/-- A block beside the reader is written. -/
theorem Rd.wrote {w V V' : World} {gr : Nat} {a : Option Addr} {l : List Int} {c : Nat} {σ : Option (List Int)} {K : List (Nat × Obj)} (h : Rd w V gr a l c σ K) (i : Nat) {g : Nat} {o : Obj} (hi : K[i]? = some (g, o)) {new : Array Value} {t : TypeId} (hw : Wrote V V' g new t) : Rd w V' gr a l c σ (K.set i (g, .cells new t (0, 0))) := by
  obtain ⟨j, h1, h2, h3⟩ := h
  exact ⟨j, h1, h2.wrote (i + 1) hi hw, h3⟩
theorem Rd.set {w V : World} {gr : Nat} {a : Option Addr} {l : List Int} {c : Nat} {σ : Option (List Int)} {K : List (Nat × Obj)} (h : Rd w V gr a l c σ K) (i : Nat) {g : Nat} {A : Array Value} {t : TypeId} (hi : K[i]? = some (g, .cells A t (0, 0))) (j : Nat) (v : Value) : Rd w (V.setCell ⟨g, j, none⟩ v) gr a l c σ (K.set i (g, .cells (A.setIfInBounds j v) t (0, 0))) := by
  obtain ⟨k, h1, h2, h3⟩ := h
  exact ⟨k, h1, h2.set (i + 1) hi j v, h3⟩
theorem tk1 {σ : Option (List Int)} (h : ∀ r, σ = some r → IsBytes r) : 0 ≤ num (tk 1 σ) ∧ num (tk 1 σ) ≤ 255 := by
  have h1 := num_range (tk_bytes 1 h)
  rw [tk_len] at h1
  simp at h1
  omega
/-- A name, and what is left. -/
def rnm (σ : Option (List Int)) : ByteArray := strOfNums (tk (num (tk 1 σ)).toNat (nx 1 σ))
def rnx (σ : Option (List Int)) : Option (List Int) := nx (num (tk 1 σ)).toNat (nx 1 σ)
set_option maxHeartbeats 4000000 in
theorem rname2_any {w V : World} {gr : Nat} {a : Option Addr} {l : List Int} {c : Nat} {σ : Option (List Int)} {K : List (Nat × Obj)} (h : Rd w V gr a l c σ K) (hS : Sl w a l c) (hl : l.length ≤ 1000000) :
    Calls Tryz.prog 45 #[.pointer (some ⟨gr, 0, none⟩)] V fun e V' => e = .returned (.string (rnm σ)) ∧ Rd w V' gr a l c (rnx σ) K := by
  have CN := rn_any h hS 1 (by omega) hl
  have hb := tk1 (h.bytes hS)
  obtain ⟨k, hk⟩ : ∃ k : Nat, (num (tk 1 σ)).toNat = k := ⟨_, rfl⟩
  have hk2 : num (tk 1 σ) = (k : Int) := by omega
  have hk3 : k ≤ 255 := by omega
  rw [hk2] at CN
  unfold rnm rnx
  rw [hk]
  have hw : IntKind.i64.wrap (k : Int) = k := wrap64n (by omega) (by omega)
  have HS : Hid (Sl w a l c ∧ l.length ≤ 1000000) := ⟨hS, hl⟩
  have htl := tk_len k (nx 1 σ)
  obtain ⟨s, hs⟩ : ∃ s, strOfNums (tk k (nx 1 σ)) = s := ⟨_, rfl⟩
  rw [hs]
  clear h hS hl hb hk hk2
  go_enter Tryz.func45, Tryz.ntmps45
  go_wp2_with fail
  refine CN.mono ?_
  rintro e V1 ⟨rfl, hR1⟩
  have CT := rtake_any hR1 HS.out.1 k hk3 HS.out.2
  clear CN hR1
  go_wp2_with fail
  refine CT.mono ?_
  rintro e V2 ⟨a1, c1, rfl, hrow, hR2⟩
  have hstr := row_string hrow c1
  rw [htl, hs] at hstr
  have HR2 : Hid (Rd w V2 gr a l c (nx k (nx 1 σ)) K) := hR2
  clear CT hR2 hrow htl
  go_wp2_with fail
  go_ret
  exact ⟨rfl, HR2.out⟩
set_option maxHeartbeats 4000000 in
theorem rmac_any {w V : World} {gr : Nat} {a : Option Addr} {l : List Int} {c : Nat} {σ : Option (List Int)} {K : List (Nat × Obj)} (h : Rd w V gr a l c σ K) (hS : Sl w a l c) (hl : l.length ≤ 1000000) :
    Calls Tryz.prog 40 #[.pointer (some ⟨gr, 0, none⟩)] V fun e V' => e = .returned (.agg ((tk 6 σ).map (Value.int .u8)).toArray) ∧ Rd w V' gr a l c (nx 6 σ) K := by
  obtain ⟨g, hg⟩ : ∃ g, V.heap.size = g := ⟨_, rfl⟩
  have h2 := (h.add (.cells #[.int .u8 0, .int .u8 0, .int .u8 0, .int .u8 0, .int .u8 0, .int .u8 0] 24 (0, 0)) hg.symm).add (.cells #[.int .u8 0, .int .u8 0, .int .u8 0, .int .u8 0, .int .u8 0, .int .u8 0] 24 (0, 0)) (g := g + 1) (by simp; omega)
  have hlen := tk_len 6 σ
  have hby := tk_bytes 6 (h.bytes hS)
  have C0 := fun V2 (h2 : Rd w V2 gr a l c σ ((g + 1, .cells #[.int .u8 0, .int .u8 0, .int .u8 0, .int .u8 0, .int .u8 0, .int .u8 0] 24 (0, 0)) :: (g, .cells #[.int .u8 0, .int .u8 0, .int .u8 0, .int .u8 0, .int .u8 0, .int .u8 0] 24 (0, 0)) :: K)) => rtake_any h2 hS 6 (by omega) hl
  generalize tk 6 σ = L at *
  generalize nx 6 σ = τ at *
  have HH2 : Hid (Rd w ((V.alloc (.cells #[.int .u8 0, .int .u8 0, .int .u8 0, .int .u8 0, .int .u8 0, .int .u8 0] 24 (0, 0))).alloc (.cells #[.int .u8 0, .int .u8 0, .int .u8 0, .int .u8 0, .int .u8 0, .int .u8 0] 24 (0, 0))) gr a l c σ ((g + 1, .cells #[.int .u8 0, .int .u8 0, .int .u8 0, .int .u8 0, .int .u8 0, .int .u8 0] 24 (0, 0)) :: (g, .cells #[.int .u8 0, .int .u8 0, .int .u8 0, .int .u8 0, .int .u8 0, .int .u8 0] 24 (0, 0)) :: K)) := h2
  have HL : Hid (L.length = 6 ∧ IsBytes L) := ⟨hlen, hby⟩
  obtain ⟨A, hA⟩ : ∃ A, (L.map (Value.int .u8)).toArray = A := ⟨_, rfl⟩
  rw [hA]
  have HA : Hid ((L.map (Value.int .u8)).toArray = A) := hA
  clear h h2 hS hl hlen hby hA
  go_enter Tryz.func40, Tryz.ntmps40
  go_upto_region 2 with fail
  refine wp_letter (fun V2 => Rd w V2 gr a l c σ ((g + 1, .cells #[.int .u8 0, .int .u8 0, .int .u8 0, .int .u8 0, .int .u8 0, .int .u8 0] 24 (0, 0)) :: (g, .cells #[.int .u8 0, .int .u8 0, .int .u8 0, .int .u8 0, .int .u8 0, .int .u8 0] 24 (0, 0)) :: K)) HH2.out ?_
  intro V2 hR2
  have CT := C0 _ (hR2.after ((Below.refl _ _).drew))
  simp only [Int.cast_ofNat_Int] at CT
  try simp only [hg]
  clear HH2 C0 hR2
  go_region_held3 (fun _ => True) (trivial)
    (first
      | (go_at_call 91; with_reducible refine CT.mono ?_; rintro e V3 ⟨a1, c1, rfl, hrow, hR3⟩; obtain ⟨b0, o0, rfl, hc⟩ : ∃ b0 o0, a1 = some ⟨b0, o0, none⟩ ∧ ∀ j v, (L.map (Value.int .u8))[j]? = some v → V3.cell? ((⟨b0, o0, none⟩ : Addr).add j) = some v := by {
          rcases hrow.cells with e | ⟨b0, o0, e, hc⟩
          · have := HL.out.1
            rw [e] at this
            simp at this
          · subst e
            exact ⟨b0, o0, rfl, hrow.news⟩ })
      | (refine step_copy_bytes rfl (.tmp 4) (.tmp 6) 40 40 rfl Tryz.underlying40 (some ⟨g + 1, 0, none⟩) (some ⟨b0, o0, none⟩) 6 6 6 c1 (by simp [Act.eval, Act.put]) (by simp [Act.eval, Act.put]) (g + 1) 0 #[.int .u8 0, .int .u8 0, .int .u8 0, .int .u8 0, .int .u8 0, .int .u8 0] (L.map (Value.int .u8)).toArray 24 (by obtain ⟨i, -, hm, -⟩ := hR3; exact hm.get 1 rfl) L (by rw [HL.out.1]; rfl) (fun _ => ⟨rfl, _, rfl, hc⟩) (by rw [HL.out.1]; exact Nat.le_refl _) (by simp [HL.out.1]) ?_; intro V4 hw4)
      | fail)
  have hR4 := hR3.wrote 0 rfl hw4
  have HR4 : Hid (Rd w V4 gr a l c τ ((g + 1, .cells (L.map (Value.int .u8)).toArray 24 (0, 0)) :: (g, .cells #[.int .u8 0, .int .u8 0, .int .u8 0, .int .u8 0, .int .u8 0, .int .u8 0] 24 (0, 0)) :: K)) := hR4
  clear hR3 hR4 hrow hc hw4 CT
  have k1 : V4.heap[g + 1]? = some (.cells (L.map (Value.int .u8)).toArray 24 (0, 0)) := by obtain ⟨i, -, hm, -⟩ := HR4.out; exact hm.get 1 rfl
  have k0 : V4.heap[g]? = some (.cells #[.int .u8 0, .int .u8 0, .int .u8 0, .int .u8 0, .int .u8 0, .int .u8 0] 24 (0, 0)) := by obtain ⟨i, -, hm, -⟩ := HR4.out; exact hm.get 2 rfl
  have hsz : (L.map (Value.int .u8)).toArray.size = 6 := by simp [HL.out.1]
  have hone : (L.map (Value.int .u8)).toArray.all (·.oneCell') = true := all_oneCell_toArray (ints_oneCell _ _)
  have i1 : (Tryz.prog.info? 24).map (·.size) = some (L.map (Value.int .u8)).toArray.size := by rw [hsz]; kernel_rfl
  have HR5 : Hid (Rd w (V4.setRow g (L.map (Value.int .u8)).toArray) gr a l c τ K ∧ (V4.setRow g (L.map (Value.int .u8)).toArray).heap[g]? = some (.cells (L.map (Value.int .u8)).toArray 24 (0, 0))) := by
    have h := HR4.out.wrote 1 rfl (wrote_setRow V4 g _ (L.map (Value.int .u8)).toArray _ k0)
    refine ⟨h.subl ((List.sublist_cons_self _ _).trans (List.sublist_cons_self _ _)), ?_⟩
    obtain ⟨i, -, hm, -⟩ := h
    exact hm.get 2 rfl
  rw [HA.out] at k1 hsz hone i1 HR5
  clear HR4
  go_wp2_with (first | (refine wpList_load_row rfl 24 (.tmp 3) (by with_reducible rfl) (g + 1) rfl 24 A (0, 0) _ k1 Tryz.underlying24 rfl i1 ?_) | (refine wpList_store_row rfl 24 (.tmp 2) (.tmp 8) (by with_reducible rfl) g A (by first | rfl | simp [Act.eval]) (by first | rfl | simp [Act.eval]) 24 _ k0 i1 (by rw [hsz]; rfl) hone ?_))
  refine bodyPost_ret (v := .agg A) ?_ rfl ⟨rfl, HR5.out.1⟩
  exact results_cell_row (p := 2) (ty := 24) rfl _ _ g 24 _ (0, 0) _ rfl HR5.out.2 Tryz.underlying24 rfl i1
set_option maxHeartbeats 4000000 in
theorem rkey_any {w V : World} {gr : Nat} {a : Option Addr} {l : List Int} {c : Nat} {σ : Option (List Int)} {K : List (Nat × Obj)} (h : Rd w V gr a l c σ K) (hS : Sl w a l c) (hl : l.length ≤ 1000000) :
    Calls Tryz.prog 41 #[.pointer (some ⟨gr, 0, none⟩)] V fun e V' => e = .returned (.agg ((tk 8 σ).map (Value.int .u8)).toArray) ∧ Rd w V' gr a l c (nx 8 σ) K := by
  obtain ⟨g, hg⟩ : ∃ g, V.heap.size = g := ⟨_, rfl⟩
  have h2 := (h.add (.cells #[.int .u8 0, .int .u8 0, .int .u8 0, .int .u8 0, .int .u8 0, .int .u8 0, .int .u8 0, .int .u8 0] 25 (0, 0)) hg.symm).add (.cells #[.int .u8 0, .int .u8 0, .int .u8 0, .int .u8 0, .int .u8 0, .int .u8 0, .int .u8 0, .int .u8 0] 25 (0, 0)) (g := g + 1) (by simp; omega)
  have hlen := tk_len 8 σ
  have hby := tk_bytes 8 (h.bytes hS)
  have C0 := fun V2 (h2 : Rd w V2 gr a l c σ ((g + 1, .cells #[.int .u8 0, .int .u8 0, .int .u8 0, .int .u8 0, .int .u8 0, .int .u8 0, .int .u8 0, .int .u8 0] 25 (0, 0)) :: (g, .cells #[.int .u8 0, .int .u8 0, .int .u8 0, .int .u8 0, .int .u8 0, .int .u8 0, .int .u8 0, .int .u8 0] 25 (0, 0)) :: K)) => rtake_any h2 hS 8 (by omega) hl
  generalize tk 8 σ = L at *
  generalize nx 8 σ = τ at *
  have HH2 : Hid (Rd w ((V.alloc (.cells #[.int .u8 0, .int .u8 0, .int .u8 0, .int .u8 0, .int .u8 0, .int .u8 0, .int .u8 0, .int .u8 0] 25 (0, 0))).alloc (.cells #[.int .u8 0, .int .u8 0, .int .u8 0, .int .u8 0, .int .u8 0, .int .u8 0, .int .u8 0, .int .u8 0] 25 (0, 0))) gr a l c σ ((g + 1, .cells #[.int .u8 0, .int .u8 0, .int .u8 0, .int .u8 0, .int .u8 0, .int .u8 0, .int .u8 0, .int .u8 0] 25 (0, 0)) :: (g, .cells #[.int .u8 0, .int .u8 0, .int .u8 0, .int .u8 0, .int .u8 0, .int .u8 0, .int .u8 0, .int .u8 0] 25 (0, 0)) :: K)) := h2
  have HL : Hid (L.length = 8 ∧ IsBytes L) := ⟨hlen, hby⟩
  obtain ⟨A, hA⟩ : ∃ A, (L.map (Value.int .u8)).toArray = A := ⟨_, rfl⟩
  rw [hA]
  have HA : Hid ((L.map (Value.int .u8)).toArray = A) := hA
  clear h h2 hS hl hlen hby hA
  go_enter Tryz.func41, Tryz.ntmps41
  go_upto_region 2 with fail
  refine wp_letter (fun V2 => Rd w V2 gr a l c σ ((g + 1, .cells #[.int .u8 0, .int .u8 0, .int .u8 0, .int .u8 0, .int .u8 0, .int .u8 0, .int .u8 0, .int .u8 0] 25 (0, 0)) :: (g, .cells #[.int .u8 0, .int .u8 0, .int .u8 0, .int .u8 0, .int .u8 0, .int .u8 0, .int .u8 0, .int .u8 0] 25 (0, 0)) :: K)) HH2.out ?_
  intro V2 hR2
  have CT := C0 _ (hR2.after ((Below.refl _ _).drew))
  simp only [Int.cast_ofNat_Int] at CT
  try simp only [hg]
  clear HH2 C0 hR2
  go_region_held3 (fun _ => True) (trivial)
    (first
      | (go_at_call 91; with_reducible refine CT.mono ?_; rintro e V3 ⟨a1, c1, rfl, hrow, hR3⟩; obtain ⟨b0, o0, rfl, hc⟩ : ∃ b0 o0, a1 = some ⟨b0, o0, none⟩ ∧ ∀ j v, (L.map (Value.int .u8))[j]? = some v → V3.cell? ((⟨b0, o0, none⟩ : Addr).add j) = some v := by {
          rcases hrow.cells with e | ⟨b0, o0, e, hc⟩
          · have := HL.out.1
            rw [e] at this
            simp at this
          · subst e
            exact ⟨b0, o0, rfl, hrow.news⟩ })
      | (refine step_copy_bytes rfl (.tmp 4) (.tmp 6) 40 40 rfl Tryz.underlying40 (some ⟨g + 1, 0, none⟩) (some ⟨b0, o0, none⟩) 8 8 8 c1 (by simp [Act.eval, Act.put]) (by simp [Act.eval, Act.put]) (g + 1) 0 #[.int .u8 0, .int .u8 0, .int .u8 0, .int .u8 0, .int .u8 0, .int .u8 0, .int .u8 0, .int .u8 0] (L.map (Value.int .u8)).toArray 25 (by obtain ⟨i, -, hm, -⟩ := hR3; exact hm.get 1 rfl) L (by rw [HL.out.1]; rfl) (fun _ => ⟨rfl, _, rfl, hc⟩) (by rw [HL.out.1]; exact Nat.le_refl _) (by simp [HL.out.1]) ?_; intro V4 hw4)
      | fail)
  have hR4 := hR3.wrote 0 rfl hw4
  have HR4 : Hid (Rd w V4 gr a l c τ ((g + 1, .cells (L.map (Value.int .u8)).toArray 25 (0, 0)) :: (g, .cells #[.int .u8 0, .int .u8 0, .int .u8 0, .int .u8 0, .int .u8 0, .int .u8 0, .int .u8 0, .int .u8 0] 25 (0, 0)) :: K)) := hR4
  clear hR3 hR4 hrow hc hw4 CT
  have k1 : V4.heap[g + 1]? = some (.cells (L.map (Value.int .u8)).toArray 25 (0, 0)) := by obtain ⟨i, -, hm, -⟩ := HR4.out; exact hm.get 1 rfl
  have k0 : V4.heap[g]? = some (.cells #[.int .u8 0, .int .u8 0, .int .u8 0, .int .u8 0, .int .u8 0, .int .u8 0, .int .u8 0, .int .u8 0] 25 (0, 0)) := by obtain ⟨i, -, hm, -⟩ := HR4.out; exact hm.get 2 rfl
  have hsz : (L.map (Value.int .u8)).toArray.size = 8 := by simp [HL.out.1]
  have hone : (L.map (Value.int .u8)).toArray.all (·.oneCell') = true := all_oneCell_toArray (ints_oneCell _ _)
  have i1 : (Tryz.prog.info? 25).map (·.size) = some (L.map (Value.int .u8)).toArray.size := by rw [hsz]; kernel_rfl
  have HR5 : Hid (Rd w (V4.setRow g (L.map (Value.int .u8)).toArray) gr a l c τ K ∧ (V4.setRow g (L.map (Value.int .u8)).toArray).heap[g]? = some (.cells (L.map (Value.int .u8)).toArray 25 (0, 0))) := by
    have h := HR4.out.wrote 1 rfl (wrote_setRow V4 g _ (L.map (Value.int .u8)).toArray _ k0)
    refine ⟨h.subl ((List.sublist_cons_self _ _).trans (List.sublist_cons_self _ _)), ?_⟩
    obtain ⟨i, -, hm, -⟩ := h
    exact hm.get 2 rfl
  rw [HA.out] at k1 hsz hone i1 HR5
  clear HR4
  go_wp2_with (first | (refine wpList_load_row rfl 25 (.tmp 3) (by with_reducible rfl) (g + 1) rfl 25 A (0, 0) _ k1 Tryz.underlying25 rfl i1 ?_) | (refine wpList_store_row rfl 25 (.tmp 2) (.tmp 8) (by with_reducible rfl) g A (by first | rfl | simp [Act.eval]) (by first | rfl | simp [Act.eval]) 25 _ k0 i1 (by rw [hsz]; rfl) hone ?_))
  refine bodyPost_ret (v := .agg A) ?_ rfl ⟨rfl, HR5.out.1⟩
  exact results_cell_row (p := 2) (ty := 25) rfl _ _ g 25 _ (0, 0) _ rfl HR5.out.2 Tryz.underlying25 rfl i1
end Go.Proofs.YtngegdamcfmonaaGreat

namespace Go.Proofs.YtngegdamcfmonaaGreat
open Go.RowKit
open Sm
open Cf
set_option linter.unusedVariables false
set_option maxRecDepth 20000

/-- Settings. -/
structure Cgf where
  ip : Int
  mac : List Int
  omac : List Int
  nmac : List Int
  key : List Int
  drain : Int
  ten : List Ten
structure CLen (c : Cgf) : Prop where
  mac : c.mac.length = 6
  omac : c.omac.length = 6
  nmac : c.nmac.length = 6
  key : c.key.length = 8
structure CIn (c : Cgf) : Prop where
  len : CLen c
  mac : IsBytes c.mac
  omac : IsBytes c.omac
  nmac : IsBytes c.nmac
  key : IsBytes c.key
/-- Their cells, the tenants the value v. -/
def cc (c : Cgf) (v : Value) : List Value := .int .u32 c.ip :: (c.mac.map (Value.int .u8) ++ (c.omac.map (Value.int .u8) ++ (c.nmac.map (Value.int .u8) ++ (c.key.map (Value.int .u8) ++ [.int .u32 c.drain, v]))))
theorem cc_len {c : Cgf} (h : CLen c) (v : Value) : (cc c v).length = 29 := by simp [cc, h.mac, h.omac, h.nmac, h.key]
def cfg0 : Cgf := ⟨0, [0, 0, 0, 0, 0, 0], [0, 0, 0, 0, 0, 0], [0, 0, 0, 0, 0, 0], [0, 0, 0, 0, 0, 0, 0, 0], 0, []⟩
theorem cfg0_len : CLen cfg0 := ⟨rfl, rfl, rfl, rfl⟩
abbrev cz : Array Value := (cc cfg0 nilV).toArray
theorem cset {t t' : Cgf} {p p' : Value} {o : Nat} {v : Value} (h : CLen t) (e : ∀ ip a b c d f g a1 b1 c1 d1 f1 g1 a2 b2 c2 d2 f2 g2 k1 k2 k3 k4 k5 k6 k7 k8 dr te,
    t = ⟨ip, [a, b, c, d, f, g], [a1, b1, c1, d1, f1, g1], [a2, b2, c2, d2, f2, g2], [k1, k2, k3, k4, k5, k6, k7, k8], dr, te⟩ → (cc t p).set o v = cc t' p') : (cc t p).set o v = cc t' p' := by
  obtain ⟨ip, mac, om, nm, key, dr, te⟩ := t
  obtain ⟨h1, h2, h3, h4⟩ := h
  obtain ⟨a, b, c, d, f, g, rfl⟩ := six6 h1
  obtain ⟨a1, b1, c1, d1, f1, g1, rfl⟩ := six6 h2
  obtain ⟨a2, b2, c2, d2, f2, g2, rfl⟩ := six6 h3
  obtain ⟨k1, k2, k3, k4, k5, k6, k7, k8, rfl⟩ := eight8 h4
  exact e ip a b c d f g a1 b1 c1 d1 f1 g1 a2 b2 c2 d2 f2 g2 k1 k2 k3 k4 k5 k6 k7 k8 dr te rfl
theorem cget {t : Cgf} {p : Value} {o : Nat} {v : Value} (h : CLen t) (e : ∀ ip a b c d f g a1 b1 c1 d1 f1 g1 a2 b2 c2 d2 f2 g2 k1 k2 k3 k4 k5 k6 k7 k8 dr te,
    t = ⟨ip, [a, b, c, d, f, g], [a1, b1, c1, d1, f1, g1], [a2, b2, c2, d2, f2, g2], [k1, k2, k3, k4, k5, k6, k7, k8], dr, te⟩ → (cc t p)[o]? = some v) : (cc t p)[o]? = some v := by
  obtain ⟨ip, mac, om, nm, key, dr, te⟩ := t
  obtain ⟨h1, h2, h3, h4⟩ := h
  obtain ⟨a, b, c, d, f, g, rfl⟩ := six6 h1
  obtain ⟨a1, b1, c1, d1, f1, g1, rfl⟩ := six6 h2
  obtain ⟨a2, b2, c2, d2, f2, g2, rfl⟩ := six6 h3
  obtain ⟨k1, k2, k3, k4, k5, k6, k7, k8, rfl⟩ := eight8 h4
  exact e ip a b c d f g a1 b1 c1 d1 f1 g1 a2 b2 c2 d2 f2 g2 k1 k2 k3 k4 k5 k6 k7 k8 dr te rfl
/-- A tenant's cells and blocks, its lists in blocks of the call's own. -/
abbrev Tz := Ten × Nat × Nat × Nat
def tcs (z : Tz) : List Value := tc z.1 (lv z.2.1 (ux z.1.pool)) (lv z.2.2.1 (px z.1.stat)) (lv z.2.2.2 (px z.1.twi))
def tbs (z : Tz) : List (Nat × Obj) := lb z.2.1 22 (ux z.1.pool) ++ (lb z.2.2.1 142 (px z.1.stat) ++ lb z.2.2.2 142 (px z.1.twi))
def tok (z : Tz) : Prop := TLen z.1 ∧ (z.1.pool.length ≤ 255 ∧ z.1.stat.length ≤ 255 ∧ z.1.twi.length ≤ 255)
/-- Tenants' blocks: all their cells in block h, and their lists'. -/
def tbk (h : Nat) : List Tz → List (Nat × Obj)
  | [] => []
  | z :: zs => (h, .cells ((z :: zs).flatMap tcs).toArray 33 (0, 0)) :: (z :: zs).flatMap tbs
theorem tbk_ne {h : Nat} {zs : List Tz} (e : zs ≠ []) : tbk h zs = (h, .cells (zs.flatMap tcs).toArray 33 (0, 0)) :: zs.flatMap tbs := by
  cases zs with
  | nil => exact absurd rfl e
  | cons z zs => rfl
theorem tcs_len {zs : List Tz} (h : ∀ z ∈ zs, tok z) : (zs.flatMap tcs).length = zs.length * 33 := by
  induction zs with
  | nil => rfl
  | cons z zs ih =>
    rw [List.flatMap_cons, List.length_append, ih (fun z hz => h z (List.mem_cons_of_mem _ hz)), List.length_cons, Nat.succ_mul]
    have : (tcs z).length = 33 := tc_len (h z (List.mem_cons_self ..)).1 _ _ _
    omega
/-- Settings that are being read. -/
def JC : St' Cgf := fun w c g T pre post V K => CLen c ∧ c.ten.length ≤ 255 ∧ ∃ h zs, zs.map Prod.fst = c.ten ∧ (∀ z ∈ zs, tok z) ∧
  Mem w V ((g, .cells (pre ++ (cc c (lv h (zs.map tcs)) ++ post)).toArray T (0, 0)) :: (tbk h zs ++ K))
theorem lens_C {β : Type} {w : World} (o : Nat) (ho : o < 29) (old : Cgf → Value) (nv : β → Value) (fs : Cgf → β → Cgf) (hget : ∀ t p, CLen t → (cc t p)[o]? = some (old t)) (hset : ∀ t y p, CLen t → (cc t p).set o (nv y) = cc (fs t y) p)
    (hk : ∀ t y, CLen t → CLen (fs t y)) (hp : ∀ t y, (fs t y).ten = t.ten) :
    ∀ t g T pre post V K, JC w t g T pre post V K → ∃ A M, Lens w JC o t g T pre post V K M A ∧ A[pre.length + o]? = some (old t) ∧
      ∀ y V', Mem w V' ((g, .cells (A.setIfInBounds (pre.length + o) (nv y)) T (0, 0)) :: M) → JC w (fs t y) g T pre post V' K := by
  rintro t g T pre post V K ⟨hl, hb, h, zs, hz, hok, hM⟩
  refine ⟨_, _, ⟨hM, fun q hq => List.mem_append_right _ hq, fun V' h => h.dropA⟩, get_mid _ _ _ o _ (hget _ _ hl), fun y V' hV => ?_⟩
  rw [set_mid _ _ _ o _ (by rw [cc_len hl]; exact ho), hset _ _ _ hl] at hV
  exact ⟨hk t y hl, by rw [hp]; exact hb, h, zs, by rw [hp]; exact hz, hok, hV⟩
theorem lens_CO {w : World} (o n : Nat) (fs : Cgf → List Int → Cgf) (hcut : ∀ t p, CLen t → ∃ a b c, a.length = o ∧ b.length = n ∧ cc t p = a ++ (b ++ c) ∧ ∀ y, cc (fs t y) p = a ++ (y.map (Value.int .u8) ++ c))
    (hk : ∀ t y, y.length = n → CLen t → CLen (fs t y)) (hp : ∀ t y, (fs t y).ten = t.ten) :
    ∀ t g T pre post V K, JC w t g T pre post V K → ∃ A M, Lens w JC o t g T pre post V K M A ∧ pre.length + o + n ≤ A.size ∧
      ∀ y V', y.length = n → IsBytes y → Mem w V' ((g, .cells (spl A (pre.length + o) y) T (0, 0)) :: M) → JC w (fs t y) g T pre post V' K := by
  rintro t g T pre post V K ⟨hl, hb, h, zs, hz, hok, hM⟩
  obtain ⟨a, b, c, ha, hbn, e, hfs⟩ := hcut t (lv h (zs.map tcs)) hl
  refine ⟨_, _, ⟨hM, fun q hq => List.mem_append_right _ hq, fun V' h => h.dropA⟩, ?_, fun y V' hy _ hV => ?_⟩
  · rw [e]; simp [ha, hbn]; omega
  · rw [e, ← ha, spl_mid pre a b c post y (by omega), ← hfs y] at hV
    exact ⟨hk t y hy hl, by rw [hp]; exact hb, h, zs, by rw [hp]; exact hz, hok, hV⟩
def tz0 : Tz := (ten0, 0, 0, 0)
theorem tz0_ok : tok tz0 := ⟨ten0_len, by decide, by decide, by decide⟩
theorem tbs_rep (m : Nat) : (List.replicate m tz0).flatMap tbs = [] := by
  induction m with
  | zero => rfl
  | succ m ih => rw [List.replicate_succ, List.flatMap_cons, ih]; rfl
theorem made_T (m : Nat) : madeCells (Value.agg (tc ten0 nilV nilV nilV).toArray).cells (m * 33) = ((List.replicate m tz0).flatMap tcs).toArray := by
  apply Array.toList_inj.mp
  have := madeCells_flat (Value.agg (tc ten0 nilV nilV nilV).toArray).cells m (by decide)
  rw [show (Value.agg (tc ten0 nilV nilV nilV).toArray).cells.size = 33 from rfl] at this
  rw [this]
  induction m with
  | zero => rfl
  | succ m ih =>
    have hm := madeCells_flat (Value.agg (tc ten0 nilV nilV nilV).toArray).cells m (by decide)
    rw [show (Value.agg (tc ten0 nilV nilV nilV).toArray).cells.size = 33 from rfl] at hm
    rw [List.replicate_succ, List.flatten_cons, ih hm, List.replicate_succ]
    rfl
def set_ten (c : Cgf) (m : Nat) : Cgf := if m = 0 then c else { c with ten := List.replicate m ten0 }
theorem lens_Cten {w : World} : ∀ t g T pre post V K, JC w t g T pre post V K → ∃ A M y, Lens w JC 28 t g T pre post V K M A ∧ A[pre.length + 28]? = some y ∧
      ∀ m V', m ≤ 255 → CMade_CT w V' g A T (pre.length + 28) M m → JC w (set_ten t m) g T pre post V' K := by
  rintro t g T pre post V K ⟨hl, hb, h, zs, hz, hok, hM⟩
  refine ⟨_, _, _, ⟨hM, fun q hq => List.mem_append_right _ hq, fun V' h => h.dropA⟩, get_mid _ _ _ 28 _ (cget (v := lv h (zs.map tcs)) hl (by rintro ip a b c d f g a1 b1 c1 d1 f1 g1 a2 b2 c2 d2 f2 g2 k1 k2 k3 k4 k5 k6 k7 k8 dr te rfl; rfl)), fun m V' hm hV => ?_⟩
  rcases hV with ⟨rfl, hV⟩ | ⟨h0, h', hV⟩
  · exact ⟨hl, hb, h, zs, hz, hok, hV⟩
  · rw [set_mid _ _ _ 28 _ (by rw [cc_len hl]; omega), made_T] at hV
    unfold set_ten
    rw [if_neg (by omega)]
    have hne : List.replicate m tz0 ≠ [] := by
      cases m with
      | zero => omega
      | succ m => simp [List.replicate_succ]
    refine ⟨⟨hl.mac, hl.omac, hl.nmac, hl.key⟩, by simpa using hm, h', List.replicate m tz0, by simp [tz0], fun z hz => by rw [(List.mem_replicate.mp hz).2]; exact tz0_ok, ?_⟩
    have e : (cc t (lv h (zs.map tcs))).set 28 (.slice (some ⟨h', 0, none⟩) m m) = cc { t with ten := List.replicate m ten0 } (lv h' ((List.replicate m tz0).map tcs)) := by
      rw [lv_one (h := h') (xs := (List.replicate m tz0).map tcs) (fun e => hne (List.map_eq_nil_iff.mp e)), List.length_map, List.length_replicate]
      exact cset hl (by rintro ip a b c d f g a1 b1 c1 d1 f1 g1 a2 b2 c2 d2 f2 g2 k1 k2 k3 k4 k5 k6 k7 k8 dr te rfl; rfl)
    rw [e] at hV
    rw [tbk_ne hne, tbs_rep]
    exact hV.subl ((List.sublist_append_right _ _).cons_cons _ |>.cons_cons _)
/-- Tenants that are being read, in block h. -/
def IMT (w : World) (h : Nat) (M : List (Nat × Obj)) (V : World) (ys : List Ten) : Prop := ∃ zs : List Tz, zs.map Prod.fst = ys ∧ (∀ z ∈ zs, tok z) ∧ Mem w V (tbk h zs ++ M)
theorem lens_Iten {w : World} : ∀ t g T pre post V K, JC w t g T pre post V K → t.ten.length ≤ 255 ∧ ∃ hb M sa sc, (0 < t.ten.length → sa = some ⟨hb, 0, none⟩) ∧ Sub K M ∧ (∀ V', Mem w V' M → Mem w V' K) ∧ V.cell? ⟨g, pre.length + 28, none⟩ = some (.slice sa t.ten.length sc) ∧
      IMT w hb M V t.ten ∧ ∀ ys V', ys.length = t.ten.length → IMT w hb M V' ys → JC w { t with ten := ys } g T pre post V' K := by
  rintro t g T pre post V K ⟨hl, hb, h, zs, hz, hok, hM⟩
  have hcell : V.cell? ⟨g, pre.length + 28, none⟩ = some (lv h (zs.map tcs)) := by
    rw [hM.cell 0 rfl]
    exact get_mid _ _ _ 28 _ (cget hl (by rintro ip a b c d f g a1 b1 c1 d1 f1 g1 a2 b2 c2 d2 f2 g2 k1 k2 k3 k4 k5 k6 k7 k8 dr te rfl; rfl))
  have hlen : zs.length = t.ten.length := by rw [← hz, List.length_map]
  obtain ⟨sa, sc, hs, hsa⟩ : ∃ sa sc, lv h (zs.map tcs) = .slice sa t.ten.length sc ∧ (0 < t.ten.length → sa = some ⟨h, 0, none⟩) := by
    rw [← hlen]
    cases zs with
    | nil => exact ⟨none, 0, rfl, fun h => by simp at h⟩
    | cons z zs => exact ⟨some ⟨h, 0, none⟩, (z :: zs).length, by rw [lv_one (by simp), List.length_map], fun _ => rfl⟩
  rw [hs] at hcell
  obtain ⟨G, hG⟩ : ∃ G : Nat × Obj, G = (g, .cells (pre ++ (cc t (lv h (zs.map tcs)) ++ post)).toArray T (0, 0)) := ⟨_, rfl⟩
  rw [← hG] at hM
  refine ⟨hb, h, G :: K, sa, sc, hsa, fun q hq => List.mem_cons_of_mem _ hq, fun V' hV => hV.sub, hcell, ⟨zs, hz, hok, hM.perm (List.perm_middle (l₁ := _)).symm⟩, ?_⟩
  rintro ys V' hy ⟨us, hu, huk, hV⟩
  refine ⟨⟨hl.mac, hl.omac, hl.nmac, hl.key⟩, by simp only [hy]; exact hb, h, us, hu, huk, ?_⟩
  have e : lv h (us.map tcs) = lv h (zs.map tcs) := lv_len (by rw [List.length_map, List.length_map, hlen, ← hy, ← hu, List.length_map])
  have e2 : cc { t with ten := ys } (lv h (us.map tcs)) = cc t (lv h (zs.map tcs)) := by rw [e]; rfl
  rw [e2, ← hG]
  exact hV.perm (List.perm_middle (l₁ := _))
/-- A tenant's cells, its lists whatever values. -/
abbrev Tv := Ten × Value × Value × Value
def zc (z : Tv) : List Value := tc z.1 z.2.1 z.2.2.1 z.2.2.2
def Rws (V : World) (z : Tv) : Prop := Rw V 1 z.2.1 (ux z.1.pool) ∧ Rw V 2 z.2.2.1 (px z.1.stat) ∧ Rw V 2 z.2.2.2 (px z.1.twi)
/-- Settings that lie at a place, their tenants the slice r.1, which are r.2. -/
def IC : Rp Cgf (Value × List Tv) := fun c r V g off => CIn c ∧ V.rangeAt g off (cc c r.1) ∧ r.2.map Prod.fst = c.ten ∧ Rw V 33 r.1 (r.2.map zc) ∧ ∀ z ∈ r.2, TIn z.1 ∧ Rws V z
theorem IC.cell {t : Cgf} {r : Value × List Tv} {V : World} {g off : Nat} (h : IC t r V g off) (o : Nat) {v : Value} (hv : (cc t r.1)[o]? = some v) : V.cell? ⟨g, off + o, none⟩ = some v := h.2.1 o v hv
theorem IC.row {t : Cgf} {r : Value × List Tv} {V : World} {g off : Nat} (h : IC t r V g off) (o : Nat) (x : List Int) (hb : IsBytes x) (hx : x.length ≤ 1000) (a c : List Value) (ha : a.length = o) (e : cc t r.1 = a ++ (x.map (Value.int .u8) ++ c)) :
    Row V (some ⟨g, off + o, none⟩) x := by
  refine ⟨hb, by omega, Or.inr ⟨g, off + o, rfl, fun i hi => ?_⟩⟩
  have := h.2.1 (o + i) (.int .u8 (x.getD i 0)) (by
    rw [e, List.getElem?_append_right (by omega), List.getElem?_append_left (by simp; omega), ha, Nat.add_sub_cancel_left]
    simp [hi])
  rw [Nat.add_assoc]; exact this
theorem rw_slice {V : World} {sz : Nat} {v : Value} {xs : List (List Value)} (h : Rw V sz v xs) : v.oneCell' = true := by
  obtain ⟨a, c, rfl, -⟩ := h; rfl
theorem zc_one {V : World} {z : Tv} (h : Rws V z) : (zc z).toArray.all (·.oneCell') = true := by
  apply all_oneCell_toArray
  intro v hv
  simp only [zc, tc, List.mem_cons, List.mem_append, List.mem_map, List.not_mem_nil, or_false] at hv
  rcases hv with rfl | rfl | ⟨x, _, rfl⟩ | rfl | ⟨x, _, rfl⟩ | ⟨x, _, rfl⟩ | rfl | rfl | rfl | rfl | rfl | rfl | rfl | rfl | rfl | rfl <;> first | rfl | exact rw_slice h.1 | exact rw_slice h.2.1 | exact rw_slice h.2.2
/-- Fields that are only written and read. -/
structure Fw {α ρ : Type} (w : World) (L : List (Nat × Obj)) (I : Rp α ρ) (J : St' α) (f : Fv) (s : Sp α) : Prop where
  ew : Ent f.kw
  er : Ent f.kr
  wr : ∀ K, Sub L K → ∀ x r g off, (∀ V, Mem w V K → I x r V g off) → ∀ v l V, Out w V v l K → l.length + (s.enc x).length ≤ 1000000000 →
    Calls Tryz.prog f.kw (#[v, .pointer (some ⟨g, off, none⟩)] ++ f.cw) V fun e V' => ∃ v', e = .returned v' ∧ Out w V' v' (l ++ s.enc x) K
  rd : ∀ K, Sub L K → ∀ x g T pre post a l c V, J w x g T pre post V K → Sl w a l c →
    Calls Tryz.prog f.kr (#[.slice a l.length c, .pointer (some ⟨g, pre.length, none⟩)] ++ f.cr) V (RPost w K (fun y V' => J w y g T pre post V' K) (s.dec l x))
theorem Fd.fw {α ρ : Type} {w : World} {L : List (Nat × Obj)} {I : Rp α ρ} {J : St' α} {f : Fv} {s : Sp α} (h : Fd w L I J f s) : Fw w L I J f s := ⟨h.ew, h.er, h.wr, h.rd⟩
theorem Fw.more {α ρ : Type} {w : World} {L K : List (Nat × Obj)} {I : Rp α ρ} {J : St' α} {f : Fv} {s : Sp α} (h : Fw w L I J f s) (hs : Sub L K) : Fw w K I J f s :=
  ⟨h.ew, h.er, fun M hM => h.wr M (hs.trans hM), fun M hM => h.rd M (hs.trans hM)⟩
inductive FwAll {α ρ : Type} (w : World) (L : List (Nat × Obj)) (I : Rp α ρ) (J : St' α) : List Fv → List (Sp α) → Prop
  | nil : FwAll w L I J [] []
  | cons {f : Fv} {s : Sp α} {fs : List Fv} {ss : List (Sp α)} : Fw w L I J f s → FwAll w L I J fs ss → FwAll w L I J (f :: fs) (s :: ss)
theorem FwAll.at_ {α ρ : Type} {w : World} {L : List (Nat × Obj)} {I : Rp α ρ} {J : St' α} {fs : List Fv} {ss : List (Sp α)} (h : FwAll w L I J fs ss) : ∀ i, i < fs.length → Fw w L I J (fs.getD i fv0) (ss.getD i sp0) := by
  induction h with
  | nil => intro i hi; simp at hi
  | cons h1 h2 ih =>
    intro i hi
    cases i with
    | zero => exact h1
    | succ i => exact ih i (by simpa using hi)
theorem FwAll.len {α ρ : Type} {w : World} {L : List (Nat × Obj)} {I : Rp α ρ} {J : St' α} {fs : List Fv} {ss : List (Sp α)} (h : FwAll w L I J fs ss) : fs.length = ss.length := by
  induction h with
  | nil => rfl
  | cons _ _ ih => simp [ih]
theorem fw_all_C {α ρ : Type} {w : World} {L : List (Nat × Obj)} {I : Rp α ρ} {J : St' α} (cb lb n : Nat) (fs : List Fv) (ss : List (Sp α)) (hn : fs.length = n) (hn2 : n ≤ 1000)
    (mc : (cb, .cells #[.slice (some ⟨lb, 0, none⟩) n n] 119 (0, 0)) ∈ L) (ml : (lb, .cells (fs.flatMap Fv.cells).toArray 71 (0, 0)) ∈ L)
    (hfs : FwAll w L I J fs ss) (hst : ∀ x g T pre post V V' K, J w x g T pre post V K → Below V.heap.size V V' → J w x g T pre post V' K) (hJM : ∀ x g T pre post V K, J w x g T pre post V K → Mem w V K) :
    Fw w L I J (fvAll_C cb) (spAll ss) := by
  have hss : ss.length = n := by rw [← hfs.len]; exact hn
  have hcell : ∀ K, Sub L K → ∀ V, Mem w V K → V.cell? ⟨cb, 0, none⟩ = some (.slice (some ⟨lb, 0, none⟩) n n) := fun K hK V hV => by rw [mem_box hV (hK _ mc)]; rfl
  have hcells : ∀ K, Sub L K → ∀ V, Mem w V K → ∀ i, i < n → V.cell? ⟨lb, i * 3, none⟩ = some (.func (.func (fs.getD i fv0).kw) #[] (fs.getD i fv0).cw) ∧
      V.cell? ⟨lb, i * 3 + 1, none⟩ = some (.func (.func (fs.getD i fv0).kr) #[] (fs.getD i fv0).cr) ∧ V.cell? ⟨lb, i * 3 + 2, none⟩ = some (.func (.func (fs.getD i fv0).ks) #[] (fs.getD i fv0).cs) := by
    intro K hK V hV i hi
    obtain ⟨h1, h2, h3⟩ := flat_get fs i (by omega)
    refine ⟨?_, ?_, ?_⟩
    · rw [mem_box hV (hK _ ml)]; simpa using h1
    · rw [mem_box hV (hK _ ml)]; simpa using h2
    · rw [mem_box hV (hK _ ml)]; simpa using h3
  refine ⟨enters_of Tryz.func93 (by kernel_rfl) rfl, enters_of Tryz.func94 (by kernel_rfl) rfl, ?_, ?_⟩
  · intro K hK x r g off hx v l V hO hb
    have := awr_C (H := fun v l V => Out w V v l K) (fun v l V V' h hB => h.after hB) ⟨g, off, none⟩ cb lb n hn2 (fun i => (fs.getD i fv0).kw) (fun i => (fs.getD i fv0).kr) (fun i => (fs.getD i fv0).ks) (fun i => (fs.getD i fv0).cw) (fun i => (fs.getD i fv0).cr) (fun i => (fs.getD i fv0).cs)
      (fun v l V h => hcell K hK V h.mem) (fun v l V h => hcells K hK V h.mem) (fun i => (ss.getD i sp0).enc x) (fun i hi => (hfs.at_ i (by omega)).ew) (fun i hi v l V h hb => (hfs.at_ i (by omega)).wr K hK x r g off hx v l V h hb) v l V hO (by simp only [spAll, hss] at hb; exact hb)
    simp only [spAll, hss]
    exact this
  · intro K hK x g T pre post a l c V hj hS
    have := ard_C (w := w) (L := K) (J := fun y V => J w y g T pre post V K) (fun y V V' h hB => hst y g T pre post V V' K h hB) ⟨g, pre.length, none⟩ cb lb n hn2 (fun i => (fs.getD i fv0).kw) (fun i => (fs.getD i fv0).kr) (fun i => (fs.getD i fv0).ks) (fun i => (fs.getD i fv0).cw) (fun i => (fs.getD i fv0).cr) (fun i => (fs.getD i fv0).cs)
      (fun y V h => hcell K hK V (hJM _ _ _ _ _ _ _ h)) (fun y V h => hcells K hK V (hJM _ _ _ _ _ _ _ h)) (fun i => (ss.getD i sp0).dec) (fun i hi => (hfs.at_ i (by omega)).er) (fun i hi y l a c V h hS => (hfs.at_ i (by omega)).rd K hK y g T pre post a l c V h hS) x l a c V hj hS
    simp only [spAll, hss]
    exact this
end Go.Proofs.YtngegdamcfmonaaGreat

namespace Go.Proofs.YtngegdamcfmonaaGreat
open Go.RowKit
open Sm
open Cf
set_option linter.unusedVariables false
set_option maxRecDepth 20000

/-- The bytes e, read at x, are x'; no part of them is read. -/
def RB {σ : Type} (dec : List Int → σ → Option (σ × List Int)) (e : List Int) (x x' : σ) : Prop := (∀ r, dec (e ++ r) x = some (x', r)) ∧ ∀ l, l <+: e → l.length < e.length → dec l x = none
/-- One behind the other, from i on. -/
def catF (enc : Nat → List Int) : Nat → Nat → List Int
  | _, 0 => []
  | i, m + 1 => enc i ++ catF enc (i + 1) m
theorem catF_snoc (enc : Nat → List Int) : ∀ m i, catF enc i (m + 1) = catF enc i m ++ enc (i + m)
  | 0, i => by simp [catF]
  | m + 1, i => by
    rw [catF, catF_snoc enc m (i + 1), catF, List.append_assoc, show i + 1 + m = i + (m + 1) by omega]
theorem cat_eq (enc : Nat → List Int) : ∀ n, cat enc n = catF enc 0 n
  | 0 => rfl
  | n + 1 => by rw [cat, cat_eq enc n, catF_snoc, Nat.zero_add]
theorem sq_rb {σ : Type} {dec : Nat → List Int → σ → Option (σ × List Int)} {enc : Nat → List Int} {Inv : Nat → σ → Prop} : ∀ m i x, (∀ k, i ≤ k → k < i + m → ∀ x, Inv k x → ∃ x', RB (dec k) (enc k) x x' ∧ Inv (k + 1) x') → Inv i x →
    ∃ x', RB (sq dec i m) (catF enc i m) x x' ∧ Inv (i + m) x'
  | 0, i, x, _, h => ⟨x, ⟨fun r => rfl, fun l h1 h2 => by simp [catF] at h2⟩, h⟩
  | m + 1, i, x, H, h => by
    obtain ⟨x1, ⟨h1, h2⟩, h3⟩ := H i (Nat.le_refl _) (by omega) x h
    obtain ⟨x2, ⟨k1, k2⟩, k3⟩ := sq_rb m (i + 1) x1 (fun k a b => H k (by omega) (by omega)) h3
    refine ⟨x2, ⟨fun r => ?_, fun l hl hs => ?_⟩, by rw [show i + (m + 1) = i + 1 + m by omega]; exact k3⟩
    · rw [catF, List.append_assoc, sq, h1]
      exact k1 r
    · rw [catF] at hl hs
      by_cases hc : l.length < (enc i).length
      · have : l <+: enc i := List.prefix_of_prefix_length_le hl (List.prefix_append _ _) (by omega)
        rw [sq, h2 l this hc]
      · have hp : enc i <+: l := List.prefix_of_prefix_length_le (List.prefix_append _ _) hl (by omega)
        obtain ⟨l2, rfl⟩ := hp
        rw [sq, h1]
        refine k2 l2 ((List.prefix_append_right_inj _).mp hl) ?_
        simp only [List.length_append] at hs
        omega
theorem rb_num {α : Type} (sz : Nat) (fg : α → Int) (fs : α → Int → α) (t x : α) : RB (spNum sz fg fs).dec ((spNum sz fg fs).enc t) x (fs x (num (be sz (fg t)))) := by
  have hl := be_len sz (fg t)
  refine ⟨fun r => ?_, fun l h1 h2 => ?_⟩
  · simp only [spNum]
    rw [if_neg (by rw [List.length_append, hl]; omega), List.take_left' hl, List.drop_left' hl]
  · simp only [spNum] at h2 ⊢
    rw [if_pos (by omega)]
theorem rb_oct {α : Type} (n : Nat) (fg : α → List Int) (fs : α → List Int → α) (t x : α) (hl : (fg t).length = n) : RB (spOct n fg fs).dec ((spOct n fg fs).enc t) x (fs x (fg t)) := by
  refine ⟨fun r => ?_, fun l h1 h2 => ?_⟩
  · simp only [spOct]
    rw [if_neg (by rw [List.length_append, hl]; omega), List.take_left' hl, List.drop_left' hl]
  · simp only [spOct] at h2 ⊢
    rw [if_pos (by omega)]
theorem rb_cnt {α : Type} (fl : α → Nat) (fs : α → Nat → α) (t x : α) : RB (spCnt fl fs).dec ((spCnt fl fs).enc t) x (fs x (min (fl t) 255)) := by
  refine ⟨fun r => ?_, fun l h1 h2 => ?_⟩
  · simp only [spCnt, List.cons_append, List.nil_append, Int.toNat_natCast]
  · simp only [spCnt, List.length_cons, List.length_nil] at h2 ⊢
    have : l = [] := List.eq_nil_of_length_eq_zero (by omega)
    subst this
    rfl
theorem rb_txt {α : Type} (fg : α → ByteArray) (fs : α → ByteArray → α) (t x : α) (hl : (sb (fg t)).length = (fg t).size) : RB (spTxt fg fs).dec ((spTxt fg fs).enc t) x (fs x (strOfNums ((sb (fg t)).take 255))) := by
  have hn : ((sb (fg t)).take 255).length = min (fg t).size 255 := by rw [List.length_take, hl, Nat.min_comm]
  refine ⟨fun r => ?_, fun l h1 h2 => ?_⟩
  · simp only [spTxt, nm, List.cons_append, dtxt, Int.toNat_natCast]
    rw [if_neg (by rw [List.length_append, hn]; omega), List.take_left' hn, List.drop_left' hn]
    rfl
  · simp only [spTxt, nm] at h1 h2 ⊢
    cases l with
    | nil => rfl
    | cons b r =>
      obtain ⟨e, h3⟩ := List.cons_prefix_cons.mp h1
      subst e
      simp only [List.length_cons, hn] at h2
      simp only [dtxt, Int.toNat_natCast]
      rw [if_pos (by omega)]
      rfl
theorem rb_itm {α β : Type} [DecidableEq β] (d : β) (se : Sp β) (sv : β → β) (hse : ∀ y z, RB se.dec (se.enc y) z (sv y)) (fl : α → List β) (fs : α → List β → α) (t x : α) (hx : (fl x).length = min (fl t).length 255) :
    RB (spItm d se fl fs).dec ((spItm d se fl fs).enc t) x (fs x (((fl t).take 255).map sv)) := by
  obtain ⟨ys, ⟨h1, h2⟩, h3, h4⟩ := sq_rb (dec := itd d se) (enc := fun i => se.enc ((fl t).getD i d)) (Inv := fun k ys => ys.length = min (fl t).length 255 ∧ ∀ i, i < k → ys[i]? = some (sv ((fl t).getD i d))) (min (fl t).length 255) 0 (fl x)
    (fun k _ hk xs ⟨g1, g2⟩ => by
      obtain ⟨e1, e2⟩ := hse ((fl t).getD k d) (xs.getD k d)
      refine ⟨xs.set k (sv ((fl t).getD k d)), ⟨fun r => by simp only [itd, e1, Option.map_some], fun l a b => by simp only [itd, e2 l a b, Option.map_none]⟩, by rw [List.length_set]; exact g1, fun i hi => ?_⟩
      rw [List.getElem?_set]
      by_cases e : k = i
      · subst e
        rw [if_pos rfl, if_pos (by omega)]
      · rw [if_neg e]
        exact g2 i (by omega)) ⟨hx, fun i hi => by omega⟩
  have hys : ys = ((fl t).take 255).map sv := by
    apply List.ext_getElem?
    intro i
    rw [List.getElem?_map, List.getElem?_take]
    by_cases hi : i < min (fl t).length 255
    · rw [h4 i (by omega), if_pos (by omega), List.getD, List.getElem?_eq_getElem (by omega)]
      rfl
    · rw [List.getElem?_eq_none (by omega)]
      split
      · rw [List.getElem?_eq_none (by omega)]; rfl
      · rfl
  subst hys
  refine ⟨fun r => ?_, fun l a b => ?_⟩
  · simp only [spItm]
    rw [hx, cat_eq, h1]
    rfl
  · simp only [spItm] at a b ⊢
    rw [cat_eq] at a b
    rw [hx, h2 l a b]
    rfl
end Go.Proofs.YtngegdamcfmonaaGreat

