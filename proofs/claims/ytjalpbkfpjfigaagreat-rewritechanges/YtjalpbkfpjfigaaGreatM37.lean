/-
  The statements' seat: the packet of few numbers, as a list of bytes.
  rewrite.putPorts and rewrite.innerChanged, whatever they are handed.
-/
import Derived.Test.YtjalpbkfpjfigaaGreatM26
import Derived.Test.YtjalpbkfpjfigaaGreatM35
namespace Go.Proofs.YtjalpbkfpjfigaaGreat
open Go.RowKit
open Sm
set_option linter.unusedVariables false
namespace Sm
structure Pa where
  pr : Int
  s : Int
  d : Int
  fr : Int
  tp : Int
  fl : Int
  ttl : Int
  er : Int
  n : Int
  sp : Int
structure Pa.Ok (P : Pa) : Prop where
  pr : 0 ≤ P.pr ∧ P.pr ≤ 255
  s : 0 ≤ P.s ∧ P.s ≤ 255
  d : 0 ≤ P.d ∧ P.d ≤ 255
  fr : 0 ≤ P.fr ∧ P.fr ≤ 255
  tp : 0 ≤ P.tp ∧ P.tp ≤ 255
  fl : 0 ≤ P.fl ∧ P.fl ≤ 255
  ttl : 0 ≤ P.ttl ∧ P.ttl ≤ 255
  er : 0 ≤ P.er ∧ P.er ≤ 255
  n : 0 ≤ P.n ∧ P.n ≤ 255
  sp : 0 ≤ P.sp ∧ P.sp ≤ 255
def psrc (P : Pa) (side k : Int) : Int := if side = 0 then insd P.s else outsd P.s k
def pdst (P : Pa) (side k : Int) : Int := if side = 0 then outsd P.d k else outsd (5 + P.d % 3) k
/-- The packet itself, and the one within an error, which goes the other way. -/
def pk0 (P : Pa) (side k : Int) : Pk :=
  ⟨0, 64, prt P.pr, P.n, 2, 0, psrc P side k, pdst P side k, [], bodyb (prt P.pr) (psrc P side k) (pdst P side k) (ports P.fr) (ports P.tp) P.fl P.n⟩
def pin (P : Pa) (side k : Int) : Pk :=
  ⟨0, 3, prt P.pr, 0, 0, 0, pdst P side k, psrc P side k, [], bodyb (prt P.pr) (pdst P side k) (psrc P side k) (ports P.tp) (ports P.fr) P.fl P.n⟩
def etyp (n : Int) : Int := if n % 3 = 0 then 3 else if n % 3 = 1 then 11 else 12
def perr (P : Pa) (side k : Int) : Mg := msl ⟨etyp P.n, 0, 0, 0, ipOut (pin P side k)⟩
def pk1 (P : Pa) (side k : Int) : Pk :=
  if P.er % 5 = 4 then ⟨0, 64, 1, P.n, 2, 0, psrc P side k, pdst P side k, [], mgOut (perr P side k)⟩ else pk0 P side k
/-- What the Ttl turns. -/
def pkt (P : Pa) (p : Pk) : Pk :=
  if P.ttl % 16 = 0 then ⟨p.tos, P.ttl / 16 % 3, p.proto, p.id, p.flags, p.off, p.src, p.dst, p.opts, p.body⟩
  else if P.ttl % 16 = 1 then ⟨p.tos, p.ttl, p.proto, p.id, 1, p.off, p.src, p.dst, p.opts, p.body⟩
  else if P.ttl % 16 = 2 then ⟨p.tos, p.ttl, p.proto, p.id, p.flags, 5, p.src, p.dst, p.opts, p.body⟩
  else if P.ttl % 16 = 3 then ⟨p.tos, p.ttl, 47, p.id, p.flags, p.off, p.src, p.dst, p.opts, p.body⟩
  else if P.ttl % 16 = 4 then ⟨p.tos, p.ttl, p.proto, p.id, p.flags, p.off, p.src, p.dst, [1, 1, 1, 1], p.body⟩ else p
def pk2 (P : Pa) (side k : Int) : Pk := pkt P (pk1 P side k)
/-- One bit turned. -/
def spoil (P : Pa) (b : List Int) : List Int :=
  if P.sp % 8 = 7 ∧ 0 < b.length then b.set (P.sp % b.length).toNat (bits .xor .u8 (b.getD (P.sp % b.length).toNat 0) (IntKind.u8.wrap (2 ^ (P.n % 8).toNat))) else b
def pktb (P : Pa) (side k : Int) : List Int := spoil P (ipOut (pk2 P side k))

theorem bodyb_ok {pr src dst fr tp fl n : Int} (hf : 0 ≤ fr ∧ fr ≤ 65535) (ht : 0 ≤ tp ∧ tp ≤ 65535) (hfl : 0 ≤ fl ∧ fl ≤ 255) (hn : 0 ≤ n ∧ n ≤ 255) : IsBytes (bodyb pr src dst fr tp fl n) ∧ (bodyb pr src dst fr tp fl n).length ≤ 65535 := by
  have h23 := and23_range hfl.1 hfl.2
  unfold bodyb
  split
  · refine udOut_facts ?_
    unfold bdDg
    have r := usum_range src dst ⟨fr, tp, 0, dat n⟩
    split
    · exact ⟨hf, ht, r, dat_bytes n⟩
    · exact ⟨hf, ht, ⟨by simp only; omega, by simp only; omega⟩, dat_bytes n⟩
  · split
    · have := tcOut_facts (q := bdSg src dst fr tp fl n) ⟨hf, ht, ⟨hn.1, by simp only [bdSg, Sg.at, bdSg0]; omega⟩, ⟨by simp [bdSg, Sg.at, bdSg0], by simp [bdSg, Sg.at, bdSg0]⟩, h23, ⟨by simp [bdSg, Sg.at, bdSg0], by simp [bdSg, Sg.at, bdSg0]⟩, tsum_range _ _ _, ⟨by simp [bdSg, Sg.at, bdSg0], by simp [bdSg, Sg.at, bdSg0]⟩, by
        simp only [bdSg, Sg.at, bdSg0]
        split
        · repeat (first | exact bytes_nil | refine bytes_cons ⟨by decide, by decide⟩ ?_)
        · exact bytes_nil, dat_bytes n⟩
      exact ⟨this.1, by omega⟩
    · have := mgOut_facts (q := bdMg fr fl n) (msl_ok ⟨by simp only; split <;> omega, by simp only; omega, by simp only; omega, by simp only; omega, dat_bytes n⟩)
      exact ⟨this.1, by omega⟩
theorem prt_range (k : Int) : 0 ≤ prt k ∧ prt k ≤ 255 := by rcases prt_kind k with h | h | h <;> omega
theorem psrc_range {P : Pa} (h : P.Ok) {side k : Int} (hk : 0 ≤ k ∧ k ≤ 255) : 0 ≤ psrc P side k ∧ psrc P side k ≤ 4294967295 := by
  unfold psrc; split
  · exact insd_range h.s.1
  · exact outsd_range hk.1 hk.2
theorem pdst_range {P : Pa} (h : P.Ok) {side k : Int} (hk : 0 ≤ k ∧ k ≤ 255) : 0 ≤ pdst P side k ∧ pdst P side k ≤ 4294967295 := by
  unfold pdst; split <;> exact outsd_range hk.1 hk.2
theorem pk0_ok {P : Pa} (h : P.Ok) {side k : Int} (hk : 0 ≤ k ∧ k ≤ 255) : (pk0 P side k).Ok := by
  have hn := h.n
  exact ⟨by simp [pk0], by simp [pk0], prt_range _, ⟨hn.1, by simp only [pk0]; omega⟩, by simp [pk0], by simp [pk0], psrc_range h hk, pdst_range h hk, bytes_nil, (bodyb_ok (ports_range h.fr.1 h.fr.2) (ports_range h.tp.1 h.tp.2) h.fl h.n).1⟩
theorem pin_ok {P : Pa} (h : P.Ok) {side k : Int} (hk : 0 ≤ k ∧ k ≤ 255) : (pin P side k).Ok :=
  ⟨by simp [pin], by simp [pin], prt_range _, by simp [pin], by simp [pin], by simp [pin], pdst_range h hk, psrc_range h hk, bytes_nil, (bodyb_ok (ports_range h.tp.1 h.tp.2) (ports_range h.fr.1 h.fr.2) h.fl h.n).1⟩
theorem etyp_range (n : Int) : 0 ≤ etyp n ∧ etyp n ≤ 255 := by
  unfold etyp
  split
  · omega
  · split <;> omega
theorem perr_ok {P : Pa} (h : P.Ok) {side k : Int} (hk : 0 ≤ k ∧ k ≤ 255) : (perr P side k).Ok :=
  msl_ok ⟨etyp_range _, by simp, by simp, by simp, (ipOut_bytes (pin_ok h hk)).1⟩
theorem pk1_ok {P : Pa} (h : P.Ok) {side k : Int} (hk : 0 ≤ k ∧ k ≤ 255) : (pk1 P side k).Ok := by
  have h0 := pk0_ok (side := side) h hk
  unfold pk1
  split
  · exact ⟨h0.tos, h0.ttl, by simp, h0.id, h0.flags, h0.off, h0.src, h0.dst, h0.opts, (mgOut_facts (perr_ok h hk)).1⟩
  · exact h0
theorem pkt_ok {P : Pa} (h : P.Ok) {p : Pk} (hp : p.Ok) : (pkt P p).Ok := by
  have ht := h.ttl
  obtain ⟨h1, h2, h3, h4, h5, h6, h7, h8, h9, h10⟩ := hp
  unfold pkt
  split
  · exact ⟨h1, ⟨by simp only; omega, by simp only; omega⟩, h3, h4, h5, h6, h7, h8, h9, h10⟩
  · split
    · exact ⟨h1, h2, h3, h4, by simp, h6, h7, h8, h9, h10⟩
    · split
      · exact ⟨h1, h2, h3, h4, h5, by simp, h7, h8, h9, h10⟩
      · split
        · exact ⟨h1, h2, by simp, h4, h5, h6, h7, h8, h9, h10⟩
        · split
          · exact ⟨h1, h2, h3, h4, h5, h6, h7, h8, by repeat (first | exact bytes_nil | refine bytes_cons ⟨by decide, by decide⟩ ?_), h10⟩
          · exact ⟨h1, h2, h3, h4, h5, h6, h7, h8, h9, h10⟩
theorem pk2_ok {P : Pa} (h : P.Ok) {side k : Int} (hk : 0 ≤ k ∧ k ≤ 255) : (pk2 P side k).Ok := pkt_ok h (pk1_ok h hk)
end Sm
end Go.Proofs.YtjalpbkfpjfigaaGreat

namespace Go.Proofs.YtjalpbkfpjfigaaGreat
open Go.RowKit
open Sm
set_option linter.unusedVariables false
set_option maxRecDepth 20000

set_option maxHeartbeats 4000000 in
theorem putP_any {W : World} {B g cap n c : Nat} {l : List Int} (h : OwnB W B g cap l) (hb : IsBytes l) (hn : l.length = n) (h20 : 20 ≤ n) (h8 : hdl l + 8 ≤ n) (hl : n ≤ 70000) (hc : n ≤ c) (s d : Int) (s0 : 0 ≤ s) (s1 : s ≤ 65535) (d0 : 0 ≤ d) (d1 : d ≤ 65535) :
    Calls Tryz.prog 73 #[.slice (some ⟨g, 0, none⟩) n c, .int .u16 s, .int .u16 d] W fun e w' => e = .returned (.tuple #[]) ∧ OwnB w' B g cap (putP l s d) ∧ Only g W w' := by
  have hh := xhead_any (c := c) (h.row hb (by omega)) hn (by omega)
  have he := xecho_any (c := c) (h.row hb (by omega)) hn h20
  have HF : Hid (putP l s d = if l.getD 9 0 = 1 then putw l (hdl l + 4) s else putw (putw l (hdl l) s) (hdl l + 2) d) := rfl
  have HO : Hid (OwnB W B g cap l) := h
  have HR : Hid ((0 ≤ s ∧ s ≤ 65535) ∧ (0 ≤ d ∧ d ≤ 65535)) := ⟨⟨s0, s1⟩, d0, d1⟩
  generalize hdl l = H at *
  generalize putP l s d = R at *
  have HL : Hid (l.length = n ∧ H + 8 ≤ n ∧ n ≤ c) := ⟨hn, h8, hc⟩
  have b0 : (0 : Int) ≤ H := by omega
  have b1 : (H : Int) ≤ n := by omega
  have b2 : (H : Int) ≤ c := by omega
  have b3 : (n : Int) ≤ c := by omega
  have b4 : H ≤ n := by omega
  have b5 : H ≤ c := by omega
  have b6 : (4 : Int) ≤ ((n - H : Nat) : Int) := by omega
  have b7 : ((n - H : Nat) : Int) ≤ ((c - H : Nat) : Int) := by omega
  have b8 : (4 : Int) ≤ ((c - H : Nat) : Int) := by omega
  have b9 : (2 : Int) ≤ ((n - H : Nat) : Int) := by omega
  have n1 : ¬ c = H := by omega
  have n2 : ¬ c - H = 4 := by omega
  have n3 : ¬ c - H = 2 := by omega
  have n4 : ¬ c - H = 0 := by omega
  have n5 : ¬ H = c := by omega
  clear h hb hn h20 h8 hl hc s0 s1 d0 d1
  by_cases hz : l.getD 9 0 = 1
  · rw [if_pos hz] at HF
    simp only [hz, decide_true] at he
    go_enter Tryz.func73, Tryz.ntmps73
    go_wp2_with fail
    refine hh.mono ?_
    rintro e w1 ⟨rfl, rfl⟩
    go_wp2_with fail
    refine he.mono ?_
    rintro e w1 ⟨rfl, rfl⟩
    go_wp2_with fail
    refine (put_own HO.out (H + 4) (by have := HL.out; omega) (n - H - 4) (c - H - 4) (by have := HL.out; omega) _ HR.out.1.1 HR.out.1.2).mono ?_
    rintro e w9 ⟨rfl, hop, hon⟩
    rw [← HF.out] at hop
    have HZ : Hid (OwnB w9 B g cap R ∧ Only g W w9) := ⟨hop, hon⟩
    clear hop hon
    go_wp2_with fail
    refine bodyPost_ret (v := .tuple #[]) (results_none (by rfl) _ _ _) rfl ?_
    exact ⟨rfl, HZ.out⟩
  · rw [if_neg hz] at HF
    simp only [hz, decide_false] at he
    go_enter Tryz.func73, Tryz.ntmps73
    go_wp2_with fail
    refine hh.mono ?_
    rintro e w1 ⟨rfl, rfl⟩
    go_wp2_with fail
    refine he.mono ?_
    rintro e w1 ⟨rfl, rfl⟩
    go_wp2_with fail
    refine (put_own HO.out H (by have := HL.out; omega) (n - H) (c - H) (by have := HL.out; omega) _ HR.out.1.1 HR.out.1.2).mono ?_
    rintro e w8 ⟨rfl, hop, hon⟩
    have HY : Hid (OwnB w8 B g cap (putw l H s) ∧ Only g W w8) := ⟨hop, hon⟩
    clear hop hon
    go_wp2_with fail
    refine (put_own HY.out.1 (H + 2) (by rw [putw_len]; have := HL.out; omega) (n - H - 2) (c - H - 2) (by have := HL.out; omega) _ HR.out.2.1 HR.out.2.2).mono ?_
    rintro e w9 ⟨rfl, hop, hon⟩
    rw [← HF.out] at hop
    have HZ : Hid (OwnB w9 B g cap R ∧ Only g W w9) := ⟨hop, HY.out.2.trans hon⟩
    clear hop hon
    go_wp2_with fail
    go_end0
    exact ⟨rfl, HZ.out⟩
end Go.Proofs.YtjalpbkfpjfigaaGreat

