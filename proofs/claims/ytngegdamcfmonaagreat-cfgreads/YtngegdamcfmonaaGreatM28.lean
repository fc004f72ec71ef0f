/-
  Settings as bytes: the fields of a tenant, each as the program makes it.
-/
import Derived.Test.YtngegdamcfmonaaGreatM27
import Derived.Test.YtngegdamcfmonaaGreatM21
import Derived.Test.YtngegdamcfmonaaGreatM22
import Derived.Test.YtngegdamcfmonaaGreatM23
import Derived.Test.YtngegdamcfmonaaGreatM20
namespace Go.Proofs.YtngegdamcfmonaaGreat
open Go.RowKit
open Sm
open Cf
set_option linter.unusedVariables false
set_option maxRecDepth 20000

theorem fits16 : ∀ q, 0 ≤ q → q < 256 ^ 2 → IntKind.u16.wrap q = q := fun q h0 h1 => wrap16_small q h0 (by omega)
theorem fits64 (n : Nat) (hn : n ≤ 4) : ∀ q, 0 ≤ q → q < 256 ^ n → IntKind.i64.wrap q = q := by
  intro q h0 h1
  refine wrap64n (by omega) ?_
  have : (256 : Int) ^ n ≤ 256 ^ 4 := by
    match n, hn with
    | 0, _ => decide
    | 1, _ => decide
    | 2, _ => decide
    | 3, _ => decide
    | 4, _ => decide
  have e : (256 : Int) ^ 4 = 4294967296 := by decide
  omega
def ttl (t : Ten) (p s q : Value) : List Value := [p, .int .u16 t.lo, .int .u16 t.hi, .int .i64 t.filter, s, q, .int .i64 t.sess, .int .i64 t.queue, .int .u32 t.rate, .int .u32 t.burst]
theorem swap_front {p a : Nat × Obj} {E L : List (Nat × Obj)} {w V : World} (h : Mem w V (a :: p :: (E ++ L))) : Mem w V (p :: ((a :: E) ++ L)) := h.perm (List.Perm.swap _ _ _)
theorem swap_front2 {p a b : Nat × Obj} {E L : List (Nat × Obj)} {w V : World} (h : Mem w V (a :: b :: p :: (E ++ L))) : Mem w V (p :: ((a :: b :: E) ++ L)) :=
  h.perm (by refine List.Perm.trans ((List.Perm.swap p b _).cons a) ?_; exact List.Perm.swap p a _)
theorem swap_app {p : Nat × Obj} {A E L : List (Nat × Obj)} {w V : World} (h : Mem w V (A ++ (p :: (E ++ L)))) : Mem w V (p :: ((A ++ E) ++ L)) :=
  h.perm (by rw [List.append_assoc]; exact List.perm_middle (l₁ := A))
theorem IT.cell {t : Ten} {r : Value × Value × Value} {V : World} {g off : Nat} (h : IT t r V g off) (o : Nat) {v : Value} (hv : (tc t r.1 r.2.1 r.2.2)[o]? = some v) : V.cell? ⟨g, off + o, none⟩ = some v := h.2.1 o v hv
theorem IT.row {t : Ten} {r : Value × Value × Value} {V : World} {g off : Nat} (h : IT t r V g off) (o : Nat) (x : List Int) (hb : IsBytes x) (hx : x.length ≤ 1000) (a c : List Value) (ha : a.length = o) (e : tc t r.1 r.2.1 r.2.2 = a ++ (x.map (Value.int .u8) ++ c)) :
    Row V (some ⟨g, off + o, none⟩) x := by
  refine ⟨hb, by omega, Or.inr ⟨g, off + o, rfl, fun i hi => ?_⟩⟩
  have := h.2.1 (o + i) (.int .u8 (x.getD i 0)) (by
    rw [e, List.getElem?_append_right (by omega), List.getElem?_append_left (by simp; omega), ha, Nat.add_sub_cancel_left]
    simp [hi])
  rw [Nat.add_assoc]; exact this
def spName : Sp Ten := spTxt (fun t => t.name) (fun t y => { t with name := y })
theorem c_Name {w V : World} {p : Nat × Obj} {E L : List (Nat × Obj)} (h : Mem w V (p :: (E ++ L))) :
    Calls Tryz.prog 65 #[.func (.func 66) #[] #[]] V fun e V' => ∃ f E', e = .returned f.val ∧ Mem w V' (p :: (E' ++ L)) ∧ Sub E E' ∧ Fd w E' IT JT f spName := by
  refine (mk_Txt_T h 66).mono ?_
  rintro e V' ⟨bo, rfl, hM⟩
  exact ⟨_, _ :: E, rfl, swap_front hM, fun q hq => List.mem_cons_of_mem _ hq, fd_Txt_T bo 66 0 _ _ (List.mem_cons_self ..) (enters_of Tryz.func66 (by kernel_rfl) rfl) acc_Name (fun t r V g off h => ⟨by have := h.1.name; omega, h.cell 0 (tget h.1.len (by rintro n vn a b c d f g x y vt a1 b1 c1 d1 f1 g1 a2 b2 c2 d2 f2 g2 po lo hi fi st tw se qu ra bu rfl; rfl))⟩) (lens_T 0 (by omega) (fun t => .string t.name) (fun y => .string y) (fun t y => { t with name := y }) (fun t p s q h => tget h (by rintro n vn a b c d f g x y vt a1 b1 c1 d1 f1 g1 a2 b2 c2 d2 f2 g2 po lo hi fi st tw se qu ra bu rfl; rfl)) (fun t y p s q h => tset h (by rintro n vn a b c d f g x y vt a1 b1 c1 d1 f1 g1 a2 b2 c2 d2 f2 g2 po lo hi fi st tw se qu ra bu rfl; rfl)) (fun t y h => ⟨h.key, h.vmac, h.host⟩) (fun t y => ⟨rfl, rfl, rfl⟩))⟩
def spVni : Sp Ten := spNum 4 (fun t => t.vni) (fun t y => { t with vni := y })
theorem c_Vni {w V : World} {p : Nat × Obj} {E L : List (Nat × Obj)} (h : Mem w V (p :: (E ++ L))) :
    Calls Tryz.prog 67 #[.int .i64 4, .func (.func 68) #[] #[]] V fun e V' => ∃ f E', e = .returned f.val ∧ Mem w V' (p :: (E' ++ L)) ∧ Sub E E' ∧ Fd w E' IT JT f spVni := by
  refine (mk_num_TU h 4 68).mono ?_
  rintro e V' ⟨bs, bo, rfl, hM⟩
  exact ⟨_, _ :: _ :: E, rfl, swap_front2 hM, fun q hq => List.mem_cons_of_mem _ (List.mem_cons_of_mem _ hq), fd_num_TU bs bo 4 68 1 (by omega) fits32 _ _ (List.mem_cons_self ..) (List.mem_cons_of_mem _ (List.mem_cons_self ..)) (enters_of Tryz.func68 (by kernel_rfl) rfl) acc_Vni (fun t r V g off h => h.cell 1 (tget h.1.len (by rintro n vn a b c d f g x y vt a1 b1 c1 d1 f1 g1 a2 b2 c2 d2 f2 g2 po lo hi fi st tw se qu ra bu rfl; rfl))) (lens_T 1 (by omega) (fun t => .int .u32 t.vni) (fun y => .int .u32 y) (fun t y => { t with vni := y }) (fun t p s q h => tget h (by rintro n vn a b c d f g x y vt a1 b1 c1 d1 f1 g1 a2 b2 c2 d2 f2 g2 po lo hi fi st tw se qu ra bu rfl; rfl)) (fun t y p s q h => tset h (by rintro n vn a b c d f g x y vt a1 b1 c1 d1 f1 g1 a2 b2 c2 d2 f2 g2 po lo hi fi st tw se qu ra bu rfl; rfl)) (fun t y h => ⟨h.key, h.vmac, h.host⟩) (fun t y => ⟨rfl, rfl, rfl⟩))⟩
def spKey : Sp Ten := spOct 8 (fun t => t.key) (fun t y => { t with key := y })
theorem c_Key {w V : World} {p : Nat × Obj} {E L : List (Nat × Obj)} (h : Mem w V (p :: (E ++ L))) :
    Calls Tryz.prog 69 #[.func (.func 70) #[] #[]] V fun e V' => ∃ f E', e = .returned f.val ∧ Mem w V' (p :: (E' ++ L)) ∧ Sub E E' ∧ Fd w E' IT JT f spKey := by
  refine (mk_Oct_T h 70).mono ?_
  rintro e V' ⟨bo, rfl, hM⟩
  refine ⟨_, _ :: E, rfl, swap_front hM, fun q hq => List.mem_cons_of_mem _ hq, fd_Oct_T bo 8 70 2 (by omega) (by omega) _ _ (List.mem_cons_self ..) (enters_of Tryz.func70 (by kernel_rfl) rfl) acc_Key (fun t r V g off h => ⟨h.1.len.key, h.row 2 t.key h.1.key (by rw [h.1.len.key]; omega) [.string t.name, .int .u32 t.vni] _ rfl rfl⟩) ?_⟩
  exact lens_TO 2 8 (fun t y => { t with key := y }) (fun t p s q h => ⟨[.string t.name, .int .u32 t.vni], t.key.map (Value.int .u8), _, rfl, (by rw [List.length_map]; exact h.key), rfl, fun y => rfl⟩) (fun t y hy h => ⟨hy, h.vmac, h.host⟩) (fun t y => ⟨rfl, rfl, rfl⟩)
def spVtep : Sp Ten := spNum 4 (fun t => t.vtep) (fun t y => { t with vtep := y })
theorem c_Vtep {w V : World} {p : Nat × Obj} {E L : List (Nat × Obj)} (h : Mem w V (p :: (E ++ L))) :
    Calls Tryz.prog 67 #[.int .i64 4, .func (.func 71) #[] #[]] V fun e V' => ∃ f E', e = .returned f.val ∧ Mem w V' (p :: (E' ++ L)) ∧ Sub E E' ∧ Fd w E' IT JT f spVtep := by
  refine (mk_num_TU h 4 71).mono ?_
  rintro e V' ⟨bs, bo, rfl, hM⟩
  exact ⟨_, _ :: _ :: E, rfl, swap_front2 hM, fun q hq => List.mem_cons_of_mem _ (List.mem_cons_of_mem _ hq), fd_num_TU bs bo 4 71 10 (by omega) fits32 _ _ (List.mem_cons_self ..) (List.mem_cons_of_mem _ (List.mem_cons_self ..)) (enters_of Tryz.func71 (by kernel_rfl) rfl) acc_Vtep (fun t r V g off h => h.cell 10 (tget h.1.len (by rintro n vn a b c d f g x y vt a1 b1 c1 d1 f1 g1 a2 b2 c2 d2 f2 g2 po lo hi fi st tw se qu ra bu rfl; rfl))) (lens_T 10 (by omega) (fun t => .int .u32 t.vtep) (fun y => .int .u32 y) (fun t y => { t with vtep := y }) (fun t p s q h => tget h (by rintro n vn a b c d f g x y vt a1 b1 c1 d1 f1 g1 a2 b2 c2 d2 f2 g2 po lo hi fi st tw se qu ra bu rfl; rfl)) (fun t y p s q h => tset h (by rintro n vn a b c d f g x y vt a1 b1 c1 d1 f1 g1 a2 b2 c2 d2 f2 g2 po lo hi fi st tw se qu ra bu rfl; rfl)) (fun t y h => ⟨h.key, h.vmac, h.host⟩) (fun t y => ⟨rfl, rfl, rfl⟩))⟩
def spVtepMac : Sp Ten := spOct 6 (fun t => t.vmac) (fun t y => { t with vmac := y })
theorem c_VtepMac {w V : World} {p : Nat × Obj} {E L : List (Nat × Obj)} (h : Mem w V (p :: (E ++ L))) :
    Calls Tryz.prog 69 #[.func (.func 72) #[] #[]] V fun e V' => ∃ f E', e = .returned f.val ∧ Mem w V' (p :: (E' ++ L)) ∧ Sub E E' ∧ Fd w E' IT JT f spVtepMac := by
  refine (mk_Oct_T h 72).mono ?_
  rintro e V' ⟨bo, rfl, hM⟩
  refine ⟨_, _ :: E, rfl, swap_front hM, fun q hq => List.mem_cons_of_mem _ hq, fd_Oct_T bo 6 72 11 (by omega) (by omega) _ _ (List.mem_cons_self ..) (enters_of Tryz.func72 (by kernel_rfl) rfl) acc_VtepMac (fun t r V g off h => ⟨h.1.len.vmac, h.row 11 t.vmac h.1.vmac (by rw [h.1.len.vmac]; omega) (.string t.name :: .int .u32 t.vni :: (t.key.map (Value.int .u8) ++ [.int .u32 t.vtep])) (t.host.map (Value.int .u8) ++ ttl t r.1 r.2.1 r.2.2) (by simp [h.1.len.key]) (by simp [tc, ttl])⟩) ?_⟩
  exact lens_TO 11 6 (fun t y => { t with vmac := y }) (fun t p s q h => ⟨(.string t.name :: .int .u32 t.vni :: (t.key.map (Value.int .u8) ++ [.int .u32 t.vtep])), t.vmac.map (Value.int .u8), (t.host.map (Value.int .u8) ++ ttl t p s q), (by simp [h.key]), (by rw [List.length_map]; exact h.vmac), (by simp [tc, ttl]), fun y => (by simp [tc, ttl])⟩) (fun t y hy h => ⟨h.key, hy, h.host⟩) (fun t y => ⟨rfl, rfl, rfl⟩)
def spHost : Sp Ten := spOct 6 (fun t => t.host) (fun t y => { t with host := y })
theorem c_Host {w V : World} {p : Nat × Obj} {E L : List (Nat × Obj)} (h : Mem w V (p :: (E ++ L))) :
    Calls Tryz.prog 69 #[.func (.func 73) #[] #[]] V fun e V' => ∃ f E', e = .returned f.val ∧ Mem w V' (p :: (E' ++ L)) ∧ Sub E E' ∧ Fd w E' IT JT f spHost := by
  refine (mk_Oct_T h 73).mono ?_
  rintro e V' ⟨bo, rfl, hM⟩
  refine ⟨_, _ :: E, rfl, swap_front hM, fun q hq => List.mem_cons_of_mem _ hq, fd_Oct_T bo 6 73 17 (by omega) (by omega) _ _ (List.mem_cons_self ..) (enters_of Tryz.func73 (by kernel_rfl) rfl) acc_Host (fun t r V g off h => ⟨h.1.len.host, h.row 17 t.host h.1.host (by rw [h.1.len.host]; omega) (.string t.name :: .int .u32 t.vni :: (t.key.map (Value.int .u8) ++ .int .u32 t.vtep :: t.vmac.map (Value.int .u8))) (ttl t r.1 r.2.1 r.2.2) (by simp [h.1.len.key, h.1.len.vmac]) (by simp [tc, ttl])⟩) ?_⟩
  exact lens_TO 17 6 (fun t y => { t with host := y }) (fun t p s q h => ⟨(.string t.name :: .int .u32 t.vni :: (t.key.map (Value.int .u8) ++ .int .u32 t.vtep :: t.vmac.map (Value.int .u8))), t.host.map (Value.int .u8), (ttl t p s q), (by simp [h.key, h.vmac]), (by rw [List.length_map]; exact h.host), (by simp [tc, ttl]), fun y => (by simp [tc, ttl])⟩) (fun t y hy h => ⟨h.key, h.vmac, hy⟩) (fun t y => ⟨rfl, rfl, rfl⟩)
def spLo : Sp Ten := spNum 2 (fun t => t.lo) (fun t y => { t with lo := y })
theorem c_Lo {w V : World} {p : Nat × Obj} {E L : List (Nat × Obj)} (h : Mem w V (p :: (E ++ L))) :
    Calls Tryz.prog 74 #[.int .i64 2, .func (.func 75) #[] #[]] V fun e V' => ∃ f E', e = .returned f.val ∧ Mem w V' (p :: (E' ++ L)) ∧ Sub E E' ∧ Fd w E' IT JT f spLo := by
  refine (mk_num_TH h 2 75).mono ?_
  rintro e V' ⟨bs, bo, rfl, hM⟩
  exact ⟨_, _ :: _ :: E, rfl, swap_front2 hM, fun q hq => List.mem_cons_of_mem _ (List.mem_cons_of_mem _ hq), fd_num_TH bs bo 2 75 24 (by omega) fits16 _ _ (List.mem_cons_self ..) (List.mem_cons_of_mem _ (List.mem_cons_self ..)) (enters_of Tryz.func75 (by kernel_rfl) rfl) acc_Lo (fun t r V g off h => h.cell 24 (tget h.1.len (by rintro n vn a b c d f g x y vt a1 b1 c1 d1 f1 g1 a2 b2 c2 d2 f2 g2 po lo hi fi st tw se qu ra bu rfl; rfl))) (lens_T 24 (by omega) (fun t => .int .u16 t.lo) (fun y => .int .u16 y) (fun t y => { t with lo := y }) (fun t p s q h => tget h (by rintro n vn a b c d f g x y vt a1 b1 c1 d1 f1 g1 a2 b2 c2 d2 f2 g2 po lo hi fi st tw se qu ra bu rfl; rfl)) (fun t y p s q h => tset h (by rintro n vn a b c d f g x y vt a1 b1 c1 d1 f1 g1 a2 b2 c2 d2 f2 g2 po lo hi fi st tw se qu ra bu rfl; rfl)) (fun t y h => ⟨h.key, h.vmac, h.host⟩) (fun t y => ⟨rfl, rfl, rfl⟩))⟩
def spHi : Sp Ten := spNum 2 (fun t => t.hi) (fun t y => { t with hi := y })
theorem c_Hi {w V : World} {p : Nat × Obj} {E L : List (Nat × Obj)} (h : Mem w V (p :: (E ++ L))) :
    Calls Tryz.prog 74 #[.int .i64 2, .func (.func 76) #[] #[]] V fun e V' => ∃ f E', e = .returned f.val ∧ Mem w V' (p :: (E' ++ L)) ∧ Sub E E' ∧ Fd w E' IT JT f spHi := by
  refine (mk_num_TH h 2 76).mono ?_
  rintro e V' ⟨bs, bo, rfl, hM⟩
  exact ⟨_, _ :: _ :: E, rfl, swap_front2 hM, fun q hq => List.mem_cons_of_mem _ (List.mem_cons_of_mem _ hq), fd_num_TH bs bo 2 76 25 (by omega) fits16 _ _ (List.mem_cons_self ..) (List.mem_cons_of_mem _ (List.mem_cons_self ..)) (enters_of Tryz.func76 (by kernel_rfl) rfl) acc_Hi (fun t r V g off h => h.cell 25 (tget h.1.len (by rintro n vn a b c d f g x y vt a1 b1 c1 d1 f1 g1 a2 b2 c2 d2 f2 g2 po lo hi fi st tw se qu ra bu rfl; rfl))) (lens_T 25 (by omega) (fun t => .int .u16 t.hi) (fun y => .int .u16 y) (fun t y => { t with hi := y }) (fun t p s q h => tget h (by rintro n vn a b c d f g x y vt a1 b1 c1 d1 f1 g1 a2 b2 c2 d2 f2 g2 po lo hi fi st tw se qu ra bu rfl; rfl)) (fun t y p s q h => tset h (by rintro n vn a b c d f g x y vt a1 b1 c1 d1 f1 g1 a2 b2 c2 d2 f2 g2 po lo hi fi st tw se qu ra bu rfl; rfl)) (fun t y h => ⟨h.key, h.vmac, h.host⟩) (fun t y => ⟨rfl, rfl, rfl⟩))⟩
def spFilter : Sp Ten := spNum 1 (fun t => t.filter) (fun t y => { t with filter := y })
theorem c_Filter {w V : World} {p : Nat × Obj} {E L : List (Nat × Obj)} (h : Mem w V (p :: (E ++ L))) :
    Calls Tryz.prog 77 #[.int .i64 1, .func (.func 78) #[] #[]] V fun e V' => ∃ f E', e = .returned f.val ∧ Mem w V' (p :: (E' ++ L)) ∧ Sub E E' ∧ Fd w E' IT JT f spFilter := by
  refine (mk_num_TI h 1 78).mono ?_
  rintro e V' ⟨bs, bo, rfl, hM⟩
  exact ⟨_, _ :: _ :: E, rfl, swap_front2 hM, fun q hq => List.mem_cons_of_mem _ (List.mem_cons_of_mem _ hq), fd_num_TI bs bo 1 78 26 (by omega) (fits64 1 (by omega)) _ _ (List.mem_cons_self ..) (List.mem_cons_of_mem _ (List.mem_cons_self ..)) (enters_of Tryz.func78 (by kernel_rfl) rfl) acc_Filter (fun t r V g off h => h.cell 26 (tget h.1.len (by rintro n vn a b c d f g x y vt a1 b1 c1 d1 f1 g1 a2 b2 c2 d2 f2 g2 po lo hi fi st tw se qu ra bu rfl; rfl))) (lens_T 26 (by omega) (fun t => .int .i64 t.filter) (fun y => .int .i64 y) (fun t y => { t with filter := y }) (fun t p s q h => tget h (by rintro n vn a b c d f g x y vt a1 b1 c1 d1 f1 g1 a2 b2 c2 d2 f2 g2 po lo hi fi st tw se qu ra bu rfl; rfl)) (fun t y p s q h => tset h (by rintro n vn a b c d f g x y vt a1 b1 c1 d1 f1 g1 a2 b2 c2 d2 f2 g2 po lo hi fi st tw se qu ra bu rfl; rfl)) (fun t y h => ⟨h.key, h.vmac, h.host⟩) (fun t y => ⟨rfl, rfl, rfl⟩))⟩
def spSess : Sp Ten := spNum 2 (fun t => t.sess) (fun t y => { t with sess := y })
theorem c_Sess {w V : World} {p : Nat × Obj} {E L : List (Nat × Obj)} (h : Mem w V (p :: (E ++ L))) :
    Calls Tryz.prog 77 #[.int .i64 2, .func (.func 79) #[] #[]] V fun e V' => ∃ f E', e = .returned f.val ∧ Mem w V' (p :: (E' ++ L)) ∧ Sub E E' ∧ Fd w E' IT JT f spSess := by
  refine (mk_num_TI h 2 79).mono ?_
  rintro e V' ⟨bs, bo, rfl, hM⟩
  exact ⟨_, _ :: _ :: E, rfl, swap_front2 hM, fun q hq => List.mem_cons_of_mem _ (List.mem_cons_of_mem _ hq), fd_num_TI bs bo 2 79 29 (by omega) (fits64 2 (by omega)) _ _ (List.mem_cons_self ..) (List.mem_cons_of_mem _ (List.mem_cons_self ..)) (enters_of Tryz.func79 (by kernel_rfl) rfl) acc_Sess (fun t r V g off h => h.cell 29 (tget h.1.len (by rintro n vn a b c d f g x y vt a1 b1 c1 d1 f1 g1 a2 b2 c2 d2 f2 g2 po lo hi fi st tw se qu ra bu rfl; rfl))) (lens_T 29 (by omega) (fun t => .int .i64 t.sess) (fun y => .int .i64 y) (fun t y => { t with sess := y }) (fun t p s q h => tget h (by rintro n vn a b c d f g x y vt a1 b1 c1 d1 f1 g1 a2 b2 c2 d2 f2 g2 po lo hi fi st tw se qu ra bu rfl; rfl)) (fun t y p s q h => tset h (by rintro n vn a b c d f g x y vt a1 b1 c1 d1 f1 g1 a2 b2 c2 d2 f2 g2 po lo hi fi st tw se qu ra bu rfl; rfl)) (fun t y h => ⟨h.key, h.vmac, h.host⟩) (fun t y => ⟨rfl, rfl, rfl⟩))⟩
def spQueue : Sp Ten := spNum 2 (fun t => t.queue) (fun t y => { t with queue := y })
theorem c_Queue {w V : World} {p : Nat × Obj} {E L : List (Nat × Obj)} (h : Mem w V (p :: (E ++ L))) :
    Calls Tryz.prog 77 #[.int .i64 2, .func (.func 80) #[] #[]] V fun e V' => ∃ f E', e = .returned f.val ∧ Mem w V' (p :: (E' ++ L)) ∧ Sub E E' ∧ Fd w E' IT JT f spQueue := by
  refine (mk_num_TI h 2 80).mono ?_
  rintro e V' ⟨bs, bo, rfl, hM⟩
  exact ⟨_, _ :: _ :: E, rfl, swap_front2 hM, fun q hq => List.mem_cons_of_mem _ (List.mem_cons_of_mem _ hq), fd_num_TI bs bo 2 80 30 (by omega) (fits64 2 (by omega)) _ _ (List.mem_cons_self ..) (List.mem_cons_of_mem _ (List.mem_cons_self ..)) (enters_of Tryz.func80 (by kernel_rfl) rfl) acc_Queue (fun t r V g off h => h.cell 30 (tget h.1.len (by rintro n vn a b c d f g x y vt a1 b1 c1 d1 f1 g1 a2 b2 c2 d2 f2 g2 po lo hi fi st tw se qu ra bu rfl; rfl))) (lens_T 30 (by omega) (fun t => .int .i64 t.queue) (fun y => .int .i64 y) (fun t y => { t with queue := y }) (fun t p s q h => tget h (by rintro n vn a b c d f g x y vt a1 b1 c1 d1 f1 g1 a2 b2 c2 d2 f2 g2 po lo hi fi st tw se qu ra bu rfl; rfl)) (fun t y p s q h => tset h (by rintro n vn a b c d f g x y vt a1 b1 c1 d1 f1 g1 a2 b2 c2 d2 f2 g2 po lo hi fi st tw se qu ra bu rfl; rfl)) (fun t y h => ⟨h.key, h.vmac, h.host⟩) (fun t y => ⟨rfl, rfl, rfl⟩))⟩
def spRate : Sp Ten := spNum 4 (fun t => t.rate) (fun t y => { t with rate := y })
theorem c_Rate {w V : World} {p : Nat × Obj} {E L : List (Nat × Obj)} (h : Mem w V (p :: (E ++ L))) :
    Calls Tryz.prog 67 #[.int .i64 4, .func (.func 81) #[] #[]] V fun e V' => ∃ f E', e = .returned f.val ∧ Mem w V' (p :: (E' ++ L)) ∧ Sub E E' ∧ Fd w E' IT JT f spRate := by
  refine (mk_num_TU h 4 81).mono ?_
  rintro e V' ⟨bs, bo, rfl, hM⟩
  exact ⟨_, _ :: _ :: E, rfl, swap_front2 hM, fun q hq => List.mem_cons_of_mem _ (List.mem_cons_of_mem _ hq), fd_num_TU bs bo 4 81 31 (by omega) fits32 _ _ (List.mem_cons_self ..) (List.mem_cons_of_mem _ (List.mem_cons_self ..)) (enters_of Tryz.func81 (by kernel_rfl) rfl) acc_Rate (fun t r V g off h => h.cell 31 (tget h.1.len (by rintro n vn a b c d f g x y vt a1 b1 c1 d1 f1 g1 a2 b2 c2 d2 f2 g2 po lo hi fi st tw se qu ra bu rfl; rfl))) (lens_T 31 (by omega) (fun t => .int .u32 t.rate) (fun y => .int .u32 y) (fun t y => { t with rate := y }) (fun t p s q h => tget h (by rintro n vn a b c d f g x y vt a1 b1 c1 d1 f1 g1 a2 b2 c2 d2 f2 g2 po lo hi fi st tw se qu ra bu rfl; rfl)) (fun t y p s q h => tset h (by rintro n vn a b c d f g x y vt a1 b1 c1 d1 f1 g1 a2 b2 c2 d2 f2 g2 po lo hi fi st tw se qu ra bu rfl; rfl)) (fun t y h => ⟨h.key, h.vmac, h.host⟩) (fun t y => ⟨rfl, rfl, rfl⟩))⟩
def spBurst : Sp Ten := spNum 4 (fun t => t.burst) (fun t y => { t with burst := y })
theorem c_Burst {w V : World} {p : Nat × Obj} {E L : List (Nat × Obj)} (h : Mem w V (p :: (E ++ L))) :
    Calls Tryz.prog 67 #[.int .i64 4, .func (.func 82) #[] #[]] V fun e V' => ∃ f E', e = .returned f.val ∧ Mem w V' (p :: (E' ++ L)) ∧ Sub E E' ∧ Fd w E' IT JT f spBurst := by
  refine (mk_num_TU h 4 82).mono ?_
  rintro e V' ⟨bs, bo, rfl, hM⟩
  exact ⟨_, _ :: _ :: E, rfl, swap_front2 hM, fun q hq => List.mem_cons_of_mem _ (List.mem_cons_of_mem _ hq), fd_num_TU bs bo 4 82 32 (by omega) fits32 _ _ (List.mem_cons_self ..) (List.mem_cons_of_mem _ (List.mem_cons_self ..)) (enters_of Tryz.func82 (by kernel_rfl) rfl) acc_Burst (fun t r V g off h => h.cell 32 (tget h.1.len (by rintro n vn a b c d f g x y vt a1 b1 c1 d1 f1 g1 a2 b2 c2 d2 f2 g2 po lo hi fi st tw se qu ra bu rfl; rfl))) (lens_T 32 (by omega) (fun t => .int .u32 t.burst) (fun y => .int .u32 y) (fun t y => { t with burst := y }) (fun t p s q h => tget h (by rintro n vn a b c d f g x y vt a1 b1 c1 d1 f1 g1 a2 b2 c2 d2 f2 g2 po lo hi fi st tw se qu ra bu rfl; rfl)) (fun t y p s q h => tset h (by rintro n vn a b c d f g x y vt a1 b1 c1 d1 f1 g1 a2 b2 c2 d2 f2 g2 po lo hi fi st tw se qu ra bu rfl; rfl)) (fun t y h => ⟨h.key, h.vmac, h.host⟩) (fun t y => ⟨rfl, rfl, rfl⟩))⟩
def spPool : Sp Ten := spCnt (fun t => t.pool.length) set_pool
theorem c_Pool {w V : World} {p : Nat × Obj} {E L : List (Nat × Obj)} (h : Mem w V (p :: (E ++ L))) :
    Calls Tryz.prog 83 #[.func (.func 61) #[] #[]] V fun e V' => ∃ f E', e = .returned f.val ∧ Mem w V' (p :: (E' ++ L)) ∧ Sub E E' ∧ Fd w E' IT JT f spPool := by
  refine (mk_Cnt_TU h 61).mono ?_
  rintro e V' ⟨bo, rfl, hM⟩
  refine ⟨_, _ :: E, rfl, swap_front hM, fun q hq => List.mem_cons_of_mem _ hq, fd_Cnt_TU bo 61 23 _ _ (List.mem_cons_self ..) (enters_of Tryz.func61 (by kernel_rfl) rfl) acc_Pool (fun r => r.1) (fun t r V g off h => ⟨?_, h.cell 23 (tget h.1.len (by rintro n vn a b c d f g x y vt a1 b1 c1 d1 f1 g1 a2 b2 c2 d2 f2 g2 po lo hi fi st tw se qu ra bu rfl; rfl))⟩) lens_Cpool⟩
  obtain ⟨a, c, e, h1, h2, h3, -⟩ := h.2.2.1
  have hl : (ux t.pool).length = t.pool.length := by simp [ux]
  rw [hl] at e h1
  exact ⟨a, c, e, h1, h2, h3⟩
def spStatics : Sp Ten := spCnt (fun t => t.stat.length) set_stat
theorem c_Statics {w V : World} {p : Nat × Obj} {E L : List (Nat × Obj)} (h : Mem w V (p :: (E ++ L))) :
    Calls Tryz.prog 84 #[.func (.func 62) #[] #[]] V fun e V' => ∃ f E', e = .returned f.val ∧ Mem w V' (p :: (E' ++ L)) ∧ Sub E E' ∧ Fd w E' IT JT f spStatics := by
  refine (mk_Cnt_TP h 62).mono ?_
  rintro e V' ⟨bo, rfl, hM⟩
  refine ⟨_, _ :: E, rfl, swap_front hM, fun q hq => List.mem_cons_of_mem _ hq, fd_Cnt_TP bo 62 27 _ _ (List.mem_cons_self ..) (enters_of Tryz.func62 (by kernel_rfl) rfl) acc_Statics (fun r => r.2.1) (fun t r V g off h => ⟨?_, h.cell 27 (tget h.1.len (by rintro n vn a b c d f g x y vt a1 b1 c1 d1 f1 g1 a2 b2 c2 d2 f2 g2 po lo hi fi st tw se qu ra bu rfl; rfl))⟩) lens_Cstat⟩
  obtain ⟨a, c, e, h1, h2, h3, -⟩ := h.2.2.2.1
  have hl : (px t.stat).length = t.stat.length := by simp [px]
  rw [hl] at e h1
  exact ⟨a, c, e, h1, h2, h3⟩
def spTwices : Sp Ten := spCnt (fun t => t.twi.length) set_twi
theorem c_Twices {w V : World} {p : Nat × Obj} {E L : List (Nat × Obj)} (h : Mem w V (p :: (E ++ L))) :
    Calls Tryz.prog 84 #[.func (.func 63) #[] #[]] V fun e V' => ∃ f E', e = .returned f.val ∧ Mem w V' (p :: (E' ++ L)) ∧ Sub E E' ∧ Fd w E' IT JT f spTwices := by
  refine (mk_Cnt_TP h 63).mono ?_
  rintro e V' ⟨bo, rfl, hM⟩
  refine ⟨_, _ :: E, rfl, swap_front hM, fun q hq => List.mem_cons_of_mem _ hq, fd_Cnt_TP bo 63 28 _ _ (List.mem_cons_self ..) (enters_of Tryz.func63 (by kernel_rfl) rfl) acc_Twices (fun r => r.2.2) (fun t r V g off h => ⟨?_, h.cell 28 (tget h.1.len (by rintro n vn a b c d f g x y vt a1 b1 c1 d1 f1 g1 a2 b2 c2 d2 f2 g2 po lo hi fi st tw se qu ra bu rfl; rfl))⟩) lens_Ctwi⟩
  obtain ⟨a, c, e, h1, h2, h3, -⟩ := h.2.2.2.2
  have hl : (px t.twi).length = t.twi.length := by simp [px]
  rw [hl] at e h1
  exact ⟨a, c, e, h1, h2, h3⟩
def spPoolI : Sp Ten := spItm 0 spU (fun t => t.pool) (fun t y => { t with pool := y })
theorem c_PoolI {w V : World} {p : Nat × Obj} {E L : List (Nat × Obj)} (h : Mem w V (p :: (E ++ L))) (fi : Fv) (hfi : Fd w E IU JU fi spU) :
    Calls Tryz.prog 85 #[.func (.func 61) #[] #[], fi.val] V fun e V' => ∃ f E', e = .returned f.val ∧ Mem w V' (p :: (E' ++ L)) ∧ Sub E E' ∧ Fd w E' IT JT f spPoolI := by
  refine (mk_Itm_TU h 61 fi).mono ?_
  rintro e V' ⟨bo, bi, rfl, hM⟩
  exact ⟨_, _ :: _ :: E, rfl, swap_front2 hM, fun q hq => List.mem_cons_of_mem _ (List.mem_cons_of_mem _ hq), fd_Itm_TU bo bi 61 23 _ _ fi spU spU_eq (hfi.more (fun q hq => List.mem_cons_of_mem _ (List.mem_cons_of_mem _ hq))) (List.mem_cons_self ..) (List.mem_cons_of_mem _ (List.mem_cons_self ..)) (enters_of Tryz.func61 (by kernel_rfl) rfl) acc_Pool (fun r => r.1) (fun t r V g off h => ⟨h.1.pool, h.2.2.1, h.cell 23 (tget h.1.len (by rintro n vn a b c d f g x y vt a1 b1 c1 d1 f1 g1 a2 b2 c2 d2 f2 g2 po lo hi fi st tw se qu ra bu rfl; rfl))⟩) lens_Ipool⟩
def spStaticsI : Sp Ten := spItm (0, 0) spP (fun t => t.stat) (fun t y => { t with stat := y })
theorem c_StaticsI {w V : World} {p : Nat × Obj} {E L : List (Nat × Obj)} (h : Mem w V (p :: (E ++ L))) (fi : Fv) (hfi : Fd w E IP JP fi spP) :
    Calls Tryz.prog 87 #[.func (.func 62) #[] #[], fi.val] V fun e V' => ∃ f E', e = .returned f.val ∧ Mem w V' (p :: (E' ++ L)) ∧ Sub E E' ∧ Fd w E' IT JT f spStaticsI := by
  refine (mk_Itm_TP h 62 fi).mono ?_
  rintro e V' ⟨bo, bi, rfl, hM⟩
  exact ⟨_, _ :: _ :: E, rfl, swap_front2 hM, fun q hq => List.mem_cons_of_mem _ (List.mem_cons_of_mem _ hq), fd_Itm_TP bo bi 62 27 _ _ fi spP spP_eq (hfi.more (fun q hq => List.mem_cons_of_mem _ (List.mem_cons_of_mem _ hq))) (List.mem_cons_self ..) (List.mem_cons_of_mem _ (List.mem_cons_self ..)) (enters_of Tryz.func62 (by kernel_rfl) rfl) acc_Statics (fun r => r.2.1) (fun t r V g off h => ⟨h.1.stat, h.2.2.2.1, h.cell 27 (tget h.1.len (by rintro n vn a b c d f g x y vt a1 b1 c1 d1 f1 g1 a2 b2 c2 d2 f2 g2 po lo hi fi st tw se qu ra bu rfl; rfl))⟩) lens_Istat⟩
def spTwicesI : Sp Ten := spItm (0, 0) spP (fun t => t.twi) (fun t y => { t with twi := y })
theorem c_TwicesI {w V : World} {p : Nat × Obj} {E L : List (Nat × Obj)} (h : Mem w V (p :: (E ++ L))) (fi : Fv) (hfi : Fd w E IP JP fi spP) :
    Calls Tryz.prog 87 #[.func (.func 63) #[] #[], fi.val] V fun e V' => ∃ f E', e = .returned f.val ∧ Mem w V' (p :: (E' ++ L)) ∧ Sub E E' ∧ Fd w E' IT JT f spTwicesI := by
  refine (mk_Itm_TP h 63 fi).mono ?_
  rintro e V' ⟨bo, bi, rfl, hM⟩
  exact ⟨_, _ :: _ :: E, rfl, swap_front2 hM, fun q hq => List.mem_cons_of_mem _ (List.mem_cons_of_mem _ hq), fd_Itm_TP bo bi 63 28 _ _ fi spP spP_eq (hfi.more (fun q hq => List.mem_cons_of_mem _ (List.mem_cons_of_mem _ hq))) (List.mem_cons_self ..) (List.mem_cons_of_mem _ (List.mem_cons_self ..)) (enters_of Tryz.func63 (by kernel_rfl) rfl) acc_Twices (fun r => r.2.2) (fun t r V g off h => ⟨h.1.twi, h.2.2.2.2, h.cell 28 (tget h.1.len (by rintro n vn a b c d f g x y vt a1 b1 c1 d1 f1 g1 a2 b2 c2 d2 f2 g2 po lo hi fi st tw se qu ra bu rfl; rfl))⟩) lens_Itwi⟩
theorem c_address {w V : World} {p : Nat × Obj} {E L : List (Nat × Obj)} (h : Mem w V (p :: (E ++ L))) :
    Calls Tryz.prog 86 #[] V fun e V' => ∃ f E', e = .returned f.val ∧ Mem w V' (p :: (E' ++ L)) ∧ Sub E E' ∧ Fd w E' IU JU f spU := by
  refine (address_any h).mono ?_
  rintro e V' ⟨f, A, rfl, hM, hF⟩
  exact ⟨f, A ++ E, rfl, swap_app hM, fun q hq => List.mem_append_right _ hq, hF.more (fun q hq => List.mem_append_left _ hq)⟩
theorem c_pair {w V : World} {p : Nat × Obj} {E L : List (Nat × Obj)} (h : Mem w V (p :: (E ++ L))) :
    Calls Tryz.prog 88 #[] V fun e V' => ∃ f E', e = .returned f.val ∧ Mem w V' (p :: (E' ++ L)) ∧ Sub E E' ∧ Fd w E' IP JP f spP := by
  refine (pair_any h).mono ?_
  rintro e V' ⟨f, A, rfl, hM, hF⟩
  exact ⟨f, A ++ E, rfl, swap_app hM, fun q hq => List.mem_append_right _ hq, hF.more (fun q hq => List.mem_append_left _ hq)⟩
/-- A tenant's fields, in their order. -/
def tsp : List (Sp Ten) := [spName, spVni, spKey, spVtep, spVtepMac, spHost, spLo, spHi, spFilter, spSess, spQueue, spRate, spBurst, spPool, spStatics, spTwices, spPoolI, spStaticsI, spTwicesI]
def spT : Sp Ten := spAll tsp
end Go.Proofs.YtngegdamcfmonaaGreat

