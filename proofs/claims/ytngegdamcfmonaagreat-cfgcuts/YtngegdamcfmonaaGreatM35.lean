/-
  Settings as bytes: the program's whole (lych/api.Tenant): what all bytes are.
  Settings as bytes: changes: the program's changeName and Change.
  Settings as bytes: what is written is read back, and no part of it is read.
-/
import Derived.Test.YtngegdamcfmonaaGreatM33
import Derived.Test.YtngegdamcfmonaaGreatM20
namespace Go.Proofs.YtngegdamcfmonaaGreat
open Go.RowKit
open Sm
open Cf
set_option linter.unusedVariables false
set_option maxRecDepth 20000

set_option maxHeartbeats 8000000 in
theorem whole_T {α ρ : Type} {w W : World} {E L : List (Nat × Obj)} {I : Rp α ρ} {J : St' α} {f : Fv} {s : Sp α} {a : Option Addr} {l : List Int} {c : Nat} (h : Mem w W (E ++ L)) (er : Ent f.kr)
    (hrd : ∀ K, Sub E K → ∀ x g T pre post a l c V, J w x g T pre post V K → Sl w a l c → Calls Tryz.prog f.kr (#[.slice a l.length c, .pointer (some ⟨g, pre.length, none⟩)] ++ f.cr) V (RPost w K (fun y V' => J w y g T pre post V' K) (s.dec l x)))
    (hS : Sl w a l c) (x0 : α) (hz : ∀ g V K, Mem w V ((g, .cells tz 33 (0, 0)) :: K) → J w x0 g 33 [] [] V K) (Q : α → World → Value → Prop) (hJM : ∀ x V K, J w x (W.heap.size + 1 + 1) 33 [] [] V K → Mem w V K)
    (hfin : ∀ x g rb z V K, Sub (E ++ L) K → J w x g 33 [] [] V ((rb, .cells z 33 (0, 0)) :: K) → ∃ tl, V.heap[g]? = some (.cells tl 33 (0, 0)) ∧ tl.size = 33 ∧ tl.all (·.oneCell') = true ∧ V.heap[rb]? = some (.cells z 33 (0, 0)) ∧ Mem w (V.setRow rb tl) ((rb, .cells tl 33 (0, 0)) :: K) ∧ Q x (V.setRow rb tl) (.agg tl)) :
    Calls Tryz.prog 44 #[f.val, .slice a l.length c] W fun e W' => Mem w W' (E ++ L) ∧ match s.dec l x0 with
      | some (x, []) => ∃ v, e = .returned (.tuple #[v, .int .i64 0]) ∧ Q x W' v
      | _ => e = .returned (.tuple #[.agg tz, .int .i64 70]) := by
  obtain ⟨k1, k2, k3, c1, c2, c3⟩ := f
  obtain ⟨bf, hbf⟩ : ∃ bf, W.heap.size = bf := ⟨_, rfl⟩
  rw [hbf] at hJM
  have hM0 : Mem w ((((W.alloc (.cells #[.func (.func k1) #[] c1, .func (.func k2) #[] c2, .func (.func k3) #[] c3] 79)).alloc (.cells tz 33)).alloc (.cells tz 33)).alloc (.cells tz 33))
      ((bf + 1 + 1, .cells tz 33 (0, 0)) :: (bf + 1, .cells tz 33 (0, 0)) :: (bf + 1 + 1 + 1, .cells tz 33 (0, 0)) :: (bf, .cells #[.func (.func k1) #[] c1, .func (.func k2) #[] c2, .func (.func k3) #[] c3] 79 (0, 0)) :: (E ++ L)) := by
    have h1 := (((h.push bf (.cells #[.func (.func k1) #[] c1, .func (.func k2) #[] c2, .func (.func k3) #[] c3] 79 (0, 0)) hbf.symm).push (bf + 1) (.cells tz 33 (0, 0)) (by simp; omega)).push (bf + 1 + 1) (.cells tz 33 (0, 0)) (by simp; omega)).push (bf + 1 + 1 + 1) (.cells tz 33 (0, 0)) (by simp; omega)
    refine h1.perm ?_
    classical
    rw [List.perm_iff_count]
    intro q
    simp only [List.count_append, List.count_cons, List.count_nil]
    omega
  have hJ0 := hz (bf + 1 + 1) _ _ hM0
  have CR := hrd ((bf + 1, .cells tz 33 (0, 0)) :: (bf + 1 + 1 + 1, .cells tz 33 (0, 0)) :: (bf, .cells #[.func (.func k1) #[] c1, .func (.func k2) #[] c2, .func (.func k3) #[] c3] 79 (0, 0)) :: (E ++ L)) (fun q hq => List.mem_cons_of_mem _ (List.mem_cons_of_mem _ (List.mem_cons_of_mem _ (List.mem_append_left _ hq)))) x0 (bf + 1 + 1) 33 [] [] a l c _ hJ0 hS
  have eg : ∀ args V, (callFunc k2 args).run Tryz.prog V = .ok (.enter k2 args) V := er
  simp only [List.length_nil] at CR
  obtain ⟨R, hR⟩ : ∃ R, s.dec l x0 = R := ⟨_, rfl⟩
  rw [hR] at CR ⊢
  simp only [Fv.val]
  have HFIN := hfin
  have HF : Hid (∀ x g rb z V K, Sub (E ++ L) K → J w x g 33 [] [] V ((rb, .cells z 33 (0, 0)) :: K) → ∃ tl, V.heap[g]? = some (.cells tl 33 (0, 0)) ∧ tl.size = 33 ∧ tl.all (·.oneCell') = true ∧ V.heap[rb]? = some (.cells z 33 (0, 0)) ∧ Mem w (V.setRow rb tl) ((rb, .cells tl 33 (0, 0)) :: K) ∧ Q x (V.setRow rb tl) (.agg tl)) := hfin
  clear hrd hfin HFIN hz hJ0 hM0 hR h er
  have hsz : (Tryz.prog.info? 33).map (·.size) = some (tz).size := by kernel_rfl
  generalize l.length = n at *
  have key : ∀ V M, Mem w V ((bf + 1, .cells tz 33 (0, 0)) :: (bf + 1 + 1 + 1, .cells tz 33 (0, 0)) :: M) → V.heap[bf + 1]? = some (.cells tz 33 (0, 0)) ∧ V.heap[bf + 1 + 1 + 1]? = some (.cells tz 33 (0, 0)) ∧ Mem w (V.setRow (bf + 1) tz) ((bf + 1, .cells tz 33 (0, 0)) :: (bf + 1 + 1 + 1, .cells tz 33 (0, 0)) :: M) := by
    intro V M hV
    exact ⟨hV.get 0 rfl, hV.get 1 rfl, hV.wrote 0 rfl (wrote_setRow V (bf + 1) _ _ _ (hV.get 0 rfl))⟩
  have KY : Hid (∀ V M, Mem w V ((bf + 1, .cells tz 33 (0, 0)) :: (bf + 1 + 1 + 1, .cells tz 33 (0, 0)) :: M) → V.heap[bf + 1]? = some (.cells tz 33 (0, 0)) ∧ V.heap[bf + 1 + 1 + 1]? = some (.cells tz 33 (0, 0)) ∧ Mem w (V.setRow (bf + 1) tz) ((bf + 1, .cells tz 33 (0, 0)) :: (bf + 1 + 1 + 1, .cells tz 33 (0, 0)) :: M)) := key
  clear key
  have hzone : (tz : Array Value).all (·.oneCell') = true := by kernel_rfl
  have hsub : ∀ V A, Mem w V ((bf + 1, A) :: (bf + 1 + 1 + 1, .cells tz 33 (0, 0)) :: (bf, .cells #[.func (.func k1) #[] c1, .func (.func k2) #[] c2, .func (.func k3) #[] c3] 79 (0, 0)) :: (E ++ L)) → Mem w V (E ++ L) := fun V A h => h.sub.sub.sub
  have HS : Hid (∀ V A, Mem w V ((bf + 1, A) :: (bf + 1 + 1 + 1, .cells tz 33 (0, 0)) :: (bf, .cells #[.func (.func k1) #[] c1, .func (.func k2) #[] c2, .func (.func k3) #[] c3] 79 (0, 0)) :: (E ++ L)) → Mem w V (E ++ L)) := hsub
  clear hsub
  cases R with
  | none =>
    go_enter Tryz.func44, Tryz.ntmps44
    go_wp2_with fail
    refine CR.mono ?_
    rintro e V ⟨rfl, hM⟩
    obtain ⟨g1, g2, hM4⟩ := KY.out V _ hM
    clear CR
    go_wp2_with (first | (refine wpList_load_row rfl 33 (.tmp 7) (by with_reducible rfl) (bf + 1 + 1 + 1) rfl 33 _ (0, 0) _ g2 Tryz.underlying33 rfl hsz ?_) | (refine wpList_store_row rfl 33 (.tmp 4) (.tmp 24) (by with_reducible rfl) (bf + 1) tz rfl rfl 33 _ g1 hsz rfl hzone ?_))
    refine bodyPost_ret (v := .tuple #[.agg tz, .int .i64 70]) ?_ rfl ⟨HS.out _ _ hM4, rfl⟩
    exact results_two' (p := 4) (q := 5) (ty := 33) rfl _ _ (bf + 1) _ rfl (run_loadVar_row _ _ 33 33 _ (0, 0) _ (hM4.get 0 rfl) Tryz.underlying33 rfl hsz)
  | some y =>
    obtain ⟨x, l'⟩ := y
    cases l' with
    | nil =>
      go_enter Tryz.func44, Tryz.ntmps44
      go_wp2_with fail
      refine CR.mono ?_
      rintro e V ⟨a2, c2', rfl, hS2, hJ⟩
      obtain ⟨tl, hg, htl, hone, hgr, hM4, hQ⟩ := HF.out _ _ _ _ _ _ (fun q hq => List.mem_cons_of_mem _ (List.mem_cons_of_mem _ hq)) hJ
      have hi33 : (Tryz.prog.info? 33).map (·.size) = some tl.size := by rw [htl]; kernel_rfl
      have HQ : Hid (Q x (V.setRow (bf + 1) tl) (.agg tl)) := hQ
      clear CR hJ hS2 HF hQ KY
      go_wp2_with (first | (refine wpList_load_row rfl 33 (.tmp 6) (by with_reducible rfl) (bf + 1 + 1) rfl 33 tl (0, 0) _ hg Tryz.underlying33 rfl hi33 ?_) | (refine wpList_store_row rfl 33 (.tmp 4) (.tmp 25) (by with_reducible rfl) (bf + 1) tl rfl rfl 33 _ hgr hi33 (by rw [htl]; rfl) hone ?_))
      refine bodyPost_ret (v := .tuple #[.agg tl, .int .i64 0]) ?_ rfl ⟨HS.out _ _ hM4, _, rfl, HQ.out⟩
      exact results_two' (p := 4) (q := 5) (ty := 33) rfl _ _ (bf + 1) _ rfl (run_loadVar_row _ _ 33 33 _ (0, 0) _ (hM4.get 0 rfl) Tryz.underlying33 rfl hi33)
    | cons b r =>
      go_enter Tryz.func44, Tryz.ntmps44
      go_wp2_with fail
      refine CR.mono ?_
      rintro e V ⟨a2, c2', rfl, hS2, hJ⟩
      have hM := hJM _ _ _ hJ
      obtain ⟨g1, g2, hM4⟩ := KY.out V _ hM
      have hpos : (0 : Int) < ((b :: r).length : Int) := by simp only [List.length_cons]; omega
      clear CR hJ hS2 HF hM
      generalize (b :: r).length = m at *
      go_wp2_with (first | (refine wpList_load_row rfl 33 (.tmp 7) (by with_reducible rfl) (bf + 1 + 1 + 1) rfl 33 _ (0, 0) _ g2 Tryz.underlying33 rfl hsz ?_) | (refine wpList_store_row rfl 33 (.tmp 4) (.tmp 24) (by with_reducible rfl) (bf + 1) tz rfl rfl 33 _ g1 hsz rfl hzone ?_))
      refine bodyPost_ret (v := .tuple #[.agg tz, .int .i64 70]) ?_ rfl ⟨HS.out _ _ hM4, rfl⟩
      exact results_two' (p := 4) (q := 5) (ty := 33) rfl _ _ (bf + 1) _ rfl (run_loadVar_row _ _ 33 33 _ (0, 0) _ (hM4.get 0 rfl) Tryz.underlying33 rfl hsz)
end Go.Proofs.YtngegdamcfmonaaGreat

namespace Go.Proofs.YtngegdamcfmonaaGreat
open Go.RowKit
open Sm
open Cf
set_option linter.unusedVariables false
set_option maxRecDepth 20000

/-- A change. -/
structure Chg where
  put : Bool
  name : ByteArray
  t : Ten
def hc (h : Chg) (p s q : Value) : List Value := .bool h.put :: .string h.name :: tc h.t p s q
def HV (V : World) (v : Value) (h : Chg) : Prop := TLen h.t ∧ ∃ p s q, v = .agg (hc h p s q).toArray ∧ Rw V 1 p (ux h.t.pool) ∧ Rw V 2 s (px h.t.stat) ∧ Rw V 2 q (px h.t.twi)
abbrev hz0 : Array Value := (hc ⟨false, ByteArray.empty, ten0⟩ nilV nilV nilV).toArray
def IH : Rp ByteArray Unit := fun s _ V g off => s.size ≤ 140737488351232 ∧ V.cell? ⟨g, off + 1, none⟩ = some (.string s)
def JH : St' ByteArray := fun w s g T pre post V K => Mem w V ((g, .cells (pre ++ (hc ⟨false, s, ten0⟩ nilV nilV nilV ++ post)).toArray T (0, 0)) :: K)
def spN : Sp ByteArray := spTxt id (fun _ y => y)
theorem acc_change (V : World) (g off : Nat) : Calls Tryz.prog 90 #[.pointer (some ⟨g, off, none⟩)] V fun e V' => e = .returned (.pointer (some ⟨g, off + 1, none⟩)) ∧ V = V' := by
  go_enter Tryz.func90, Tryz.ntmps90
  go_wp2
  go_ret
  exact ⟨rfl, rfl⟩
theorem lens_H {w : World} : ∀ x g T pre post V K, JH w x g T pre post V K → ∃ A M, Lens w JH 1 x g T pre post V K M A ∧ A[pre.length + 1]? = some (.string (id x)) ∧
      ∀ y V', Mem w V' ((g, .cells (A.setIfInBounds (pre.length + 1) (.string y)) T (0, 0)) :: M) → JH w y g T pre post V' K := by
  intro x g T pre post V K h
  refine ⟨_, K, ⟨h, Sub.refl _, fun V' h => h⟩, get_mid _ _ _ 1 _ rfl, fun y V' hV => ?_⟩
  rw [set_mid _ _ _ 1 _ (by simp [hc])] at hV
  exact hV
set_option maxHeartbeats 2000000 in
theorem changeName_any {w W : World} {L : List (Nat × Obj)} (h : Mem w W L) :
    Calls Tryz.prog 34 #[] W fun e W' => ∃ f E, e = .returned f.val ∧ Mem w W' (E ++ L) ∧ Fd w E IH JH f spN := by
  have h0 : Mem w (W.alloc (.cells #[.nilFunc, .nilFunc, .nilFunc] 86)) ((W.heap.size, .cells #[.nilFunc, .nilFunc, .nilFunc] 86 (0, 0)) :: L) := (h.push W.heap.size _ rfl).perm List.perm_append_comm
  have C := mk_Txt_H h0 90
  obtain ⟨rb, hrb⟩ : ∃ rb, W.heap.size = rb := ⟨_, rfl⟩
  rw [hrb] at C
  go_enter Tryz.func34, Tryz.ntmps34
  go_wp2_with fail
  refine C.mono ?_
  rintro e V ⟨bo, rfl, hM⟩
  have hM2 : Mem w V ((rb, .cells #[.nilFunc, .nilFunc, .nilFunc] 86 (0, 0)) :: ((bo, .cells #[.func (.func 90) #[] #[]] 159 (0, 0)) :: L)) := hM.perm (List.Perm.swap _ _ _)
  have HF : Hid (Fd w ([(bo, .cells #[.func (.func 90) #[] #[]] 159 (0, 0))]) IH JH (fvTxt_H bo) spN) :=
    fd_Txt_H bo 90 1 id (fun _ y => y) (by simp) (enters_of Tryz.func90 (by kernel_rfl) rfl) acc_change (fun x r V g off h => h) lens_H
  clear C h0 hM h
  generalize fvTxt_H bo = f at HF
  obtain ⟨k1, k2, k3, c1, c2, c3⟩ := f
  have hM3 := hM2.put3 (.func (.func k1) #[] c1) (.func (.func k2) #[] c2) (.func (.func k3) #[] c3)
  have e0 : V.cell? ⟨rb, 0, none⟩ = some .nilFunc := hM2.cell 0 rfl 0
  have e1 : V.cell? ⟨rb, 1, none⟩ = some .nilFunc := hM2.cell 0 rfl 1
  have e2 : V.cell? ⟨rb, 2, none⟩ = some .nilFunc := hM2.cell 0 rfl 2
  have e3 := hM2.free 0 rfl
  clear hM2
  simp only [Fv.val]
  go_wp2_with fail
  refine bodyPost_ret (v := .agg #[.func (.func k1) #[] c1, .func (.func k2) #[] c2, .func (.func k3) #[] c3]) ?_ rfl ⟨⟨k1, k2, k3, c1, c2, c3⟩, [_, _], rfl, hM3, HF.out.more (fun q hq => List.mem_cons_of_mem _ hq)⟩
  exact results_cell_row (p := 0) (ty := 86) rfl _ _ rb 86 _ (0, 0) _ rfl (hM3.get 0 rfl) Tryz.underlying86 rfl (by kernel_rfl)
/-- A change's bytes. -/
def henc (h : Chg) : List Int := if h.put then 1 :: tenc h.t else 0 :: nm h.name
theorem out_lit {w V : World} {K : List (Nat × Obj)} (h : Mem w V K) (x : Int) (hx : 0 ≤ x ∧ x ≤ 255) : Out w (V.alloc (.cells #[.int .u8 x] 5)) (.slice (some ⟨V.heap.size, 0, none⟩) 1 1) [x] K := by
  refine ⟨bytes_cons hx bytes_nil, rfl, Or.inr ⟨V.heap.size, 1, #[.int .u8 x], rfl, (h.push V.heap.size _ rfl).perm List.perm_append_comm, Nat.le_refl _, by decide, rfl, rfl⟩⟩
theorem Out.none {w V : World} {u : Value} {l : List Int} : ∀ K, Out w V u l K → Out w V u l [] := by
  intro K
  induction K with
  | nil => exact id
  | cons p K ih => exact fun h => ih h.drop
set_option maxHeartbeats 4000000 in
theorem cfgChange_any {w : World} {v : Value} {h : Chg} (hv : HV w v h) (hi : TIn h.t) (hn : h.name.size ≤ 140737488351232) (hb : (henc h).length ≤ 1000000000) :
    Calls Tryz.prog 15 #[v] w fun e w' => ∃ u, e = .returned u ∧ Out w w' u (henc h) [] := by
  obtain ⟨-, p, s, q, rfl, h1, h2, h3⟩ := hv
  obtain ⟨put, name, t⟩ := h
  simp only at hi hn h1 h2 h3
  have hM0 : Mem w (w.alloc (.cells (hc ⟨put, name, t⟩ p s q).toArray 35)) [(w.heap.size, .cells (hc ⟨put, name, t⟩ p s q).toArray 35 (0, 0))] := (Mem.nil w).push1 rfl
  obtain ⟨g, hg⟩ : ∃ g, w.heap.size = g := ⟨_, rfl⟩
  have d0 : (w.alloc (.cells (hc ⟨put, name, t⟩ p s q).toArray 35)).cell? ⟨g, 0, none⟩ = some (.bool put) := by rw [← hg]; exact hM0.cell 0 rfl 0
  rw [hg] at hM0
  cases put with
  | true =>
    have C := tenant_any hM0
    have HI := fun K (hm : (g, Obj.cells ([Value.bool true, Value.string name] ++ (tc t p s q ++ [])).toArray 35 (0, 0)) ∈ K) => IT_box (w := w) hi h1 h2 h3 hm
    simp only [List.append_nil, List.length_cons, List.length_nil] at HI
    have HII : Hid (∀ K, (g, Obj.cells (hc ⟨true, name, t⟩ p s q).toArray 35 (0, 0)) ∈ K → ∀ V, Mem w V K → IT t (p, s, q) V g 2) := HI
    have hb' : (1 + (tenc t).length) ≤ 1000000000 := by simp [henc] at hb; omega
    simp only [henc, if_true]
    clear HI hM0 h1 h2 h3 hi hb
    generalize hc ⟨true, name, t⟩ p s q = tl at C HII d0
    go_enter Tryz.func15, Tryz.ntmps15
    go_wp2_with fail
    refine C.mono ?_
    rintro e V ⟨⟨k1, k2, k3, c1, c2, c3⟩, E, rfl, hM, hF⟩
    have CW := hF.wr (E ++ [(g, .cells tl.toArray 35 (0, 0))]) (fun q hq => List.mem_append_left _ hq) t (p, s, q) g 2 (HII.out _ (by simp)) _ [1] _ (out_lit hM 1 (by omega)) hb'
    have eg : ∀ args V, (callFunc k1 args).run Tryz.prog V = .ok (.enter k1 args) V := hF.ew
    have hfd : ∀ V, (Instr.field 79 (.agg #[.func (.func k1) #[] c1, .func (.func k2) #[] c2, .func (.func k3) #[] c3]) 0).run Tryz.prog V = .ok (.func (.func k1) #[] c1) V := fun V => by kernel_rfl
    simp only at CW
    simp only [Fv.val]
    clear hF HII C hM
    go_wp2_with fail
    refine CW.mono ?_
    rintro e V2 ⟨u, rfl, hO⟩
    go_wp2_with fail
    go_ret
    exact ⟨u, rfl, hO.none⟩
  | false =>
    have C := changeName_any hM0
    have HII : Hid (∀ K, (g, Obj.cells (hc ⟨false, name, t⟩ p s q).toArray 35 (0, 0)) ∈ K → ∀ V, Mem w V K → IH name () V g 0) := fun K hm V hV => ⟨hn, by rw [mem_box hV hm]; rfl⟩
    have hb' : (1 + (nm name).length) ≤ 1000000000 := by simp [henc] at hb; omega
    simp only [henc]
    clear hM0 h1 h2 h3 hi hb
    generalize hc ⟨false, name, t⟩ p s q = tl at C HII d0
    go_enter Tryz.func15, Tryz.ntmps15
    go_wp2_with fail
    refine C.mono ?_
    rintro e V ⟨⟨k1, k2, k3, c1, c2, c3⟩, E, rfl, hM, hF⟩
    have CW := hF.wr (E ++ [(g, .cells tl.toArray 35 (0, 0))]) (fun q hq => List.mem_append_left _ hq) name () g 0 (HII.out _ (by simp)) _ [0] _ (out_lit hM 0 (by omega)) hb'
    have eg : ∀ args V, (callFunc k1 args).run Tryz.prog V = .ok (.enter k1 args) V := hF.ew
    have hfd : ∀ V, (Instr.field 86 (.agg #[.func (.func k1) #[] c1, .func (.func k2) #[] c2, .func (.func k3) #[] c3]) 0).run Tryz.prog V = .ok (.func (.func k1) #[] c1) V := fun V => by kernel_rfl
    simp only at CW
    simp only [Fv.val]
    clear hF HII C hM
    go_wp2_with fail
    refine CW.mono ?_
    rintro e V2 ⟨u, rfl, hO⟩
    go_wp2_with fail
    go_ret
    exact ⟨u, rfl, hO.none⟩
end Go.Proofs.YtngegdamcfmonaaGreat

namespace Go.Proofs.YtngegdamcfmonaaGreat
open Go.RowKit
open Sm
open Cf
set_option linter.unusedVariables false
set_option maxRecDepth 20000

/-- The bytes e, read at x, are x'; no part of them is read. -/
def RB {σ : Type} (dec : List Int → σ → Option (σ × List Int)) (e : List Int) (x x' : σ) : Prop := (∀ r, dec (e ++ r) x = some (x', r)) ∧ ∀ l, l <+: e → l.length < e.length → dec l x = none
/-- One behind the other, from i on. -/
def catF (enc : Nat → List Int) : Nat → Nat → List Int
  | _, 0 => []
  | i, m + 1 => enc i ++ catF enc (i + 1) m
theorem catF_snoc (enc : Nat → List Int) : ∀ m i, catF enc i (m + 1) = catF enc i m ++ enc (i + m)
  | 0, i => by simp [catF]
  | m + 1, i => by
    rw [catF, catF_snoc enc m (i + 1), catF, List.append_assoc, show i + 1 + m = i + (m + 1) by omega]
theorem cat_eq (enc : Nat → List Int) : ∀ n, cat enc n = catF enc 0 n
  | 0 => rfl
  | n + 1 => by rw [cat, cat_eq enc n, catF_snoc, Nat.zero_add]
theorem sq_rb {σ : Type} {dec : Nat → List Int → σ → Option (σ × List Int)} {enc : Nat → List Int} {Inv : Nat → σ → Prop} : ∀ m i x, (∀ k, i ≤ k → k < i + m → ∀ x, Inv k x → ∃ x', RB (dec k) (enc k) x x' ∧ Inv (k + 1) x') → Inv i x →
    ∃ x', RB (sq dec i m) (catF enc i m) x x' ∧ Inv (i + m) x'
  | 0, i, x, _, h => ⟨x, ⟨fun r => rfl, fun l h1 h2 => by simp [catF] at h2⟩, h⟩
  | m + 1, i, x, H, h => by
    obtain ⟨x1, ⟨h1, h2⟩, h3⟩ := H i (Nat.le_refl _) (by omega) x h
    obtain ⟨x2, ⟨k1, k2⟩, k3⟩ := sq_rb m (i + 1) x1 (fun k a b => H k (by omega) (by omega)) h3
    refine ⟨x2, ⟨fun r => ?_, fun l hl hs => ?_⟩, by rw [show i + (m + 1) = i + 1 + m by omega]; exact k3⟩
    · rw [catF, List.append_assoc, sq, h1]
      exact k1 r
    · rw [catF] at hl hs
      by_cases hc : l.length < (enc i).length
      · have : l <+: enc i := List.prefix_of_prefix_length_le hl (List.prefix_append _ _) (by omega)
        rw [sq, h2 l this hc]
      · have hp : enc i <+: l := List.prefix_of_prefix_length_le (List.prefix_append _ _) hl (by omega)
        obtain ⟨l2, rfl⟩ := hp
        rw [sq, h1]
        refine k2 l2 ((List.prefix_append_right_inj _).mp hl) ?_
        simp only [List.length_append] at hs
        omega
theorem rb_num {α : Type} (sz : Nat) (fg : α → Int) (fs : α → Int → α) (t x : α) : RB (spNum sz fg fs).dec ((spNum sz fg fs).enc t) x (fs x (num (be sz (fg t)))) := by
  have hl := be_len sz (fg t)
  refine ⟨fun r => ?_, fun l h1 h2 => ?_⟩
  · simp only [spNum]
    rw [if_neg (by rw [List.length_append, hl]; omega), List.take_left' hl, List.drop_left' hl]
  · simp only [spNum] at h2 ⊢
    rw [if_pos (by omega)]
theorem rb_oct {α : Type} (n : Nat) (fg : α → List Int) (fs : α → List Int → α) (t x : α) (hl : (fg t).length = n) : RB (spOct n fg fs).dec ((spOct n fg fs).enc t) x (fs x (fg t)) := by
  refine ⟨fun r => ?_, fun l h1 h2 => ?_⟩
  · simp only [spOct]
    rw [if_neg (by rw [List.length_append, hl]; omega), List.take_left' hl, List.drop_left' hl]
  · simp only [spOct] at h2 ⊢
    rw [if_pos (by omega)]
theorem rb_cnt {α : Type} (fl : α → Nat) (fs : α → Nat → α) (t x : α) : RB (spCnt fl fs).dec ((spCnt fl fs).enc t) x (fs x (min (fl t) 255)) := by
  refine ⟨fun r => ?_, fun l h1 h2 => ?_⟩
  · simp only [spCnt, List.cons_append, List.nil_append, Int.toNat_natCast]
  · simp only [spCnt, List.length_cons, List.length_nil] at h2 ⊢
    have : l = [] := List.eq_nil_of_length_eq_zero (by omega)
    subst this
    rfl
theorem rb_txt {α : Type} (fg : α → ByteArray) (fs : α → ByteArray → α) (t x : α) (hl : (sb (fg t)).length = (fg t).size) : RB (spTxt fg fs).dec ((spTxt fg fs).enc t) x (fs x (strOfNums ((sb (fg t)).take 255))) := by
  have hn : ((sb (fg t)).take 255).length = min (fg t).size 255 := by rw [List.length_take, hl, Nat.min_comm]
  refine ⟨fun r => ?_, fun l h1 h2 => ?_⟩
  · simp only [spTxt, nm, List.cons_append, dtxt, Int.toNat_natCast]
    rw [if_neg (by rw [List.length_append, hn]; omega), List.take_left' hn, List.drop_left' hn]
    rfl
  · simp only [spTxt, nm] at h1 h2 ⊢
    cases l with
    | nil => rfl
    | cons b r =>
      obtain ⟨e, h3⟩ := List.cons_prefix_cons.mp h1
      subst e
      simp only [List.length_cons, hn] at h2
      simp only [dtxt, Int.toNat_natCast]
      rw [if_pos (by omega)]
      rfl
theorem rb_itm {α β : Type} [DecidableEq β] (d : β) (se : Sp β) (sv : β → β) (hse : ∀ y z, RB se.dec (se.enc y) z (sv y)) (fl : α → List β) (fs : α → List β → α) (t x : α) (hx : (fl x).length = min (fl t).length 255) :
    RB (spItm d se fl fs).dec ((spItm d se fl fs).enc t) x (fs x (((fl t).take 255).map sv)) := by
  obtain ⟨ys, ⟨h1, h2⟩, h3, h4⟩ := sq_rb (dec := itd d se) (enc := fun i => se.enc ((fl t).getD i d)) (Inv := fun k ys => ys.length = min (fl t).length 255 ∧ ∀ i, i < k → ys[i]? = some (sv ((fl t).getD i d))) (min (fl t).length 255) 0 (fl x)
    (fun k _ hk xs ⟨g1, g2⟩ => by
      obtain ⟨e1, e2⟩ := hse ((fl t).getD k d) (xs.getD k d)
      refine ⟨xs.set k (sv ((fl t).getD k d)), ⟨fun r => by simp only [itd, e1, Option.map_some], fun l a b => by simp only [itd, e2 l a b, Option.map_none]⟩, by rw [List.length_set]; exact g1, fun i hi => ?_⟩
      rw [List.getElem?_set]
      by_cases e : k = i
      · subst e
        rw [if_pos rfl, if_pos (by omega)]
      · rw [if_neg e]
        exact g2 i (by omega)) ⟨hx, fun i hi => by omega⟩
  have hys : ys = ((fl t).take 255).map sv := by
    apply List.ext_getElem?
    intro i
    rw [List.getElem?_map, List.getElem?_take]
    by_cases hi : i < min (fl t).length 255
    · rw [h4 i (by omega), if_pos (by omega), List.getD, List.getElem?_eq_getElem (by omega)]
      rfl
    · rw [List.getElem?_eq_none (by omega)]
      split
      · rw [List.getElem?_eq_none (by omega)]; rfl
      · rfl
  subst hys
  refine ⟨fun r => ?_, fun l a b => ?_⟩
  · simp only [spItm]
    rw [hx, cat_eq, h1]
    rfl
  · simp only [spItm] at a b ⊢
    rw [cat_eq] at a b
    rw [hx, h2 l a b]
    rfl
end Go.Proofs.YtngegdamcfmonaaGreat

