/-
  The packets of few numbers carry what the document asks.
-/
import Derived.Test.YtjalpbkfpjfigaaM36
namespace Go.Proofs.Ytjalpbkfpjfigaa
open Go.RowKit
open Sm
set_option linter.unusedVariables false
namespace Sm
theorem dat_le (n : Int) (h : 0 ≤ n) : (dat n).length ≤ 15 := by rw [dat_len n h]; omega
theorem bodyb_kd {K : Pk} {fr tp fl n : Int} (hp : K.proto = 17 ∨ K.proto = 6 ∨ K.proto = 1) (hb : K.body = bodyb K.proto K.src K.dst fr tp fl n) (hf : 0 ≤ fr ∧ fr ≤ 65535) (ht : 0 ≤ tp ∧ tp ≤ 65535) (hfl : 0 ≤ fl ∧ fl ≤ 255) (hn : 0 ≤ n ∧ n ≤ 255) :
    Kd K ∧ 8 ≤ K.body.length ∧ K.body.length ≤ 60 := by
  have hd := dat_le n hn.1
  have h23 := and23_range hfl.1 hfl.2
  rcases hp with hp | hp | hp
  · have eb : K.body = udOut (bdDg K.src K.dst fr tp fl n) := by rw [hb, hp]; rfl
    have hbd : (bdDg K.src K.dst fr tp fl n).body = dat n := by unfold bdDg; split <;> rfl
    have hlen : (bdDg K.src K.dst fr tp fl n).body.length ≤ 65527 := by rw [hbd]; omega
    have hok : (bdDg K.src K.dst fr tp fl n).Ok := by
      unfold bdDg
      have r := usum_range K.src K.dst ⟨fr, tp, 0, dat n⟩
      split
      · exact ⟨hf, ht, r, dat_bytes n⟩
      · exact ⟨hf, ht, ⟨by simp only; omega, by simp only; omega⟩, dat_bytes n⟩
    rw [udOut_fits hlen] at eb
    refine ⟨Or.inl ⟨hp, _, eb, hok, hlen, ?_⟩, by rw [eb, udb_len]; omega, by rw [eb, udb_len, hbd]; omega⟩
    unfold bdDg
    split
    · exact Or.inr rfl
    · exact Or.inl rfl
  · have eb : K.body = tcOut (bdSg K.src K.dst fr tp fl n) := by rw [hb, hp]; rfl
    have ho : (bdSg0 fr tp fl n).opts.length = 0 ∨ (bdSg0 fr tp fl n).opts.length = 4 := by
      simp only [bdSg0]; split
      · exact Or.inr rfl
      · exact Or.inl rfl
    have hF : TFits (bdSg K.src K.dst fr tp fl n) := ⟨by show (bdSg0 fr tp fl n).opts.length % 4 = 0; omega, by show (bdSg0 fr tp fl n).opts.length ≤ 40; omega, by show 20 + (bdSg0 fr tp fl n).opts.length + (dat n).length ≤ 65515; omega⟩
    have hok : (bdSg K.src K.dst fr tp fl n).Ok := ⟨hf, ht, ⟨hn.1, by simp only [bdSg, Sg.at, bdSg0]; omega⟩, ⟨by simp [bdSg, Sg.at, bdSg0], by simp [bdSg, Sg.at, bdSg0]⟩, h23, ⟨by simp [bdSg, Sg.at, bdSg0], by simp [bdSg, Sg.at, bdSg0]⟩, tsum_range _ _ _, ⟨by simp [bdSg, Sg.at, bdSg0], by simp [bdSg, Sg.at, bdSg0]⟩, by
        simp only [bdSg, Sg.at, bdSg0]
        split
        · repeat (first | exact bytes_nil | refine bytes_cons ⟨by decide, by decide⟩ ?_)
        · exact bytes_nil, dat_bytes n⟩
    rw [tcOut_fits hF] at eb
    have hl : (tcb (bdSg K.src K.dst fr tp fl n)).length = 20 + (bdSg0 fr tp fl n).opts.length + (dat n).length := by rw [tcb_len]; rfl
    exact ⟨Or.inr (Or.inl ⟨hp, _, eb, hok, hF, rfl⟩), by rw [eb, hl]; omega, by rw [eb, hl]; omega⟩
  · have eb : K.body = mgOut (bdMg fr fl n) := by rw [hb, hp]; rfl
    have hlen : (bdMg fr fl n).body.length ≤ 65507 := by show (dat n).length ≤ 65507; omega
    have hok : (bdMg fr fl n).Ok := msl_ok ⟨by simp only; split <;> omega, by simp only; omega, by simp only; omega, by simp only; omega, dat_bytes n⟩
    rw [mgOut_fits hlen] at eb
    have hl : (mgb (bdMg fr fl n)).length = 8 + (dat n).length := by rw [mgb_len]; rfl
    refine ⟨Or.inr (Or.inr ⟨hp, _, eb, hok, hlen, rfl, Or.inl ?_⟩), by rw [eb, hl]; omega, by rw [eb, hl]; omega⟩
    show mecho (msl ⟨if and8 fl 1 ≠ 0 then 0 else 8, 0, 0, fr * 65536 + n, dat n⟩) = true
    unfold mecho msl Mg.at
    simp only
    split <;> rfl
theorem kd_ok {P : Pa} (h : P.Ok) (side k : Int) (hk : 0 ≤ k ∧ k ≤ 255) :
    (Kd (pk0 P side k) ∧ 8 ≤ (pk0 P side k).body.length ∧ (pk0 P side k).body.length ≤ 60) ∧ (Kd (pin P side k) ∧ 8 ≤ (pin P side k).body.length ∧ (pin P side k).body.length ≤ 60) :=
  ⟨bodyb_kd (K := pk0 P side k) (prt_kind _) rfl (ports_range h.fr.1 h.fr.2) (ports_range h.tp.1 h.tp.2) h.fl h.n, bodyb_kd (K := pin P side k) (prt_kind _) rfl (ports_range h.tp.1 h.tp.2) (ports_range h.fr.1 h.fr.2) h.fl h.n⟩
theorem pin_fits {P : Pa} (h : P.Ok) (side k : Int) (hk : 0 ≤ k ∧ k ≤ 255) : Fits (pin P side k) := by
  have := (kd_ok h side k hk).2.2
  exact ⟨by simp [pin], by simp [pin], by simp [pin], by simp [pin], by show 20 + 0 + (pin P side k).body.length ≤ 65535; omega⟩
/-- What is carried stands behind the header. -/
theorem ipb_body {K : Pk} (f : Fits K) (i : Nat) : (ipb K).getD (20 + K.opts.length + i) 0 = K.body.getD i 0 := by
  unfold ipb
  rw [getD_append, hdw_len, if_neg (by omega)]
  congr 1
  omega
theorem mgb_head (m : Mg) : (mgb m).getD 0 0 = m.typ ∧ (mgb m).getD 1 0 = m.code := ⟨rfl, rfl⟩
/-- A packet that stands in an error. -/
theorem kd_in {K : Pk} (hK : K.Ok) (f : Fits K) (k : Kd K) (h8 : 8 ≤ K.body.length) (he : ∀ m, K.proto = 1 → K.body = mgb m → m.Ok → mecho m = true) : inOk (ipb K) = true := by
  have hl := ipb_len K
  have hh := ipb_hdl f []
  rw [List.append_nil] at hh
  have h9 : (ipb K).getD 9 0 = K.proto := by have := ipb_get K [] 9 (by omega); rw [List.append_nil] at this; rw [this]; rfl
  have h0 : (ipb K).getD 0 0 / 16 = 4 := by
    have := ipb_get K [] 0 (by omega); rw [List.append_nil] at this; rw [this]
    have := f.o40
    show (64 + ((20 + K.opts.length : Nat) : Int) / 4) / 16 = 4
    omega
  have e1 : inHead (ipb K) = true := by
    unfold inHead
    rw [hh, hl, h0]
    simp
    omega
  have e2 : inKind (ipb K) = true := by
    unfold inKind
    rw [h9, hh]
    rcases k with ⟨hp, -⟩ | ⟨hp, -⟩ | ⟨hp, m, hb, hm, hn, -⟩
    · simp [hp]
    · simp [hp]
    · have e0 := ipb_body f 0
      have e1 := ipb_body f 1
      rw [Nat.add_zero] at e0
      rw [hb] at e0 e1
      rw [e0, e1, (mgb_head m).1, (mgb_head m).2]
      have := he m hp hb hm
      unfold mecho at this
      simp at this
      simp [hp, this]
  unfold inOk
  rw [e1, e2]; rfl
theorem pin_in {P : Pa} (h : P.Ok) (side k : Int) (hk : 0 ≤ k ∧ k ≤ 255) : inOk (ipb (pin P side k)) = true := by
  have hkd := (kd_ok h side k hk).2
  refine kd_in (pin_ok h hk) (pin_fits h side k hk) hkd.1 hkd.2.1 ?_
  intro m hp hb hm
  have hp' : prt P.pr = 1 := hp
  have eb : (pin P side k).body = mgOut (bdMg (ports P.tp) P.fl P.n) := by show bodyb (prt P.pr) _ _ _ _ _ _ = _; rw [hp']; rfl
  have hl : (bdMg (ports P.tp) P.fl P.n).body.length ≤ 65507 := by show (dat P.n).length ≤ 65507; have := dat_le P.n h.n.1; omega
  rw [mgOut_fits hl, hb] at eb
  have q0 := congrArg (fun l => l.getD 0 0) eb
  have q1 := congrArg (fun l => l.getD 1 0) eb
  simp only [(mgb_head _).1, (mgb_head _).2] at q0 q1
  unfold mecho
  rw [q0, q1]
  show (decide ((if and8 P.fl 1 ≠ 0 then (0 : Int) else 8) = 8 ∨ (if and8 P.fl 1 ≠ 0 then (0 : Int) else 8) = 0) && decide ((0 : Int) = 0)) = true
  split <;> rfl
theorem etyp_kind (n : Int) : etyp n = 3 ∨ etyp n = 11 ∨ etyp n = 12 := by
  unfold etyp
  split
  · left; rfl
  · split
    · right; left; rfl
    · right; right; rfl
theorem pk1_kd {P : Pa} (h : P.Ok) (side k : Int) (hk : 0 ≤ k ∧ k ≤ 255) : Kd (pk1 P side k) ∧ (pk1 P side k).body.length ≤ 300 ∧ Fits (pk1 P side k) := by
  have hkd := kd_ok h side k hk
  unfold pk1
  by_cases e : P.er % 5 = 4
  · rw [if_pos e]
    have fp := pin_fits h side k hk
    have hl : (ipOut (pin P side k)).length ≤ 80 := by rw [ipOut_fits fp, ipb_len]; have := hkd.2.2; show 20 + 0 + (pin P side k).body.length ≤ 80; omega
    have hlen : (perr P side k).body.length ≤ 65507 := by show (ipOut (pin P side k)).length ≤ 65507; omega
    have hm : (mgOut (perr P side k)).length ≤ 88 := by rw [mgOut_fits hlen, mgb_len]; show 8 + (ipOut (pin P side k)).length ≤ 88; omega
    refine ⟨Or.inr (Or.inr ⟨rfl, perr P side k, mgOut_fits hlen, perr_ok h hk, hlen, rfl, Or.inr ?_⟩), by simp only; omega, ⟨by simp, by simp, by simp, by simp, by simp only [List.length_nil]; omega⟩⟩
    have ht := etyp_kind P.n
    refine ⟨?_, ?_, ?_⟩
    · show (decide (etyp P.n = 8 ∨ etyp P.n = 0) && decide ((0 : Int) = 0)) = false
      rcases ht with h | h | h <;> rw [h] <;> rfl
    · show decide (etyp P.n = 3 ∨ etyp P.n = 11 ∨ etyp P.n = 12) = true
      exact decide_eq_true ht
    · show inOk (ipOut (pin P side k)) = true
      rw [ipOut_fits fp]
      exact pin_in h side k hk
  · rw [if_neg e]
    exact ⟨hkd.1.1, by omega, ⟨by simp [pk0], by simp [pk0], by simp [pk0], by simp [pk0], by show 20 + 0 + (pk0 P side k).body.length ≤ 65535; omega⟩⟩
/-- Ttl 9, none spoilt. -/
theorem pktb_nine {P : Pa} (h : P.Ok) (side k : Int) (hk : 0 ≤ k ∧ k ≤ 255) (ht : 5 ≤ P.ttl % 16) (hs : P.sp % 8 ≠ 7) : pktb P side k = ipb (pk1 P side k) := by
  have f := (pk1_kd h side k hk).2.2
  unfold pktb spoil pk2 pkt
  rw [if_neg (by omega), if_neg (by omega), if_neg (by omega), if_neg (by omega), if_neg (by omega), if_neg (by omega), ipOut_fits f]
end Sm
end Go.Proofs.Ytjalpbkfpjfigaa

