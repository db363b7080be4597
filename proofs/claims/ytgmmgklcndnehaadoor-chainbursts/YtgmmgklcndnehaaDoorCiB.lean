/- Plain mathematics of layer 19: a burst under way; the disk behind a flush; what is read of its image. -/
import Derived.Test.YtgmmgklcndnehaaDoorCiA
import Derived.Test.YtgmmgklcndnehaaDoorGzAG
namespace Go.Proofs.YtgmmgklcndnehaaDoor
open Go.RowKit
set_option linter.unusedVariables false
set_option maxRecDepth 4000

theorem flush_calm {d : Dk} (hd : d.down = false) (hl : d.left = 0) : flushE d = 0 ∧ flushD d = { d with sure := layAll (fun _ => 64) 0 d.pend d.sure, pend := [], ops := d.ops + 1 } := by
  constructor
  · simp [flushE, hd, workE, hl]
  · simp [flushD, hd, hl, settleD, workD]
theorem bit_byte (v : Int) (j : Nat) (h0 : 0 ≤ v) (h1 : v ≤ 255) (hj : j < 8) : bits BinOp.xor IntKind.u8 v ((2 : Int) ^ j % 256) = ((v.toNat ^^^ 2 ^ j : Nat) : Int) := by
  have : j = 0 ∨ j = 1 ∨ j = 2 ∨ j = 3 ∨ j = 4 ∨ j = 5 ∨ j = 6 ∨ j = 7 := by omega
  have e := fun b (hb : 0 ≤ b) (hb1 : b < 256) => u8_xor v b h0 (by omega) hb hb1
  rcases this with rfl | rfl | rfl | rfl | rfl | rfl | rfl | rfl
  · exact e 1 (by decide) (by decide)
  · exact e 2 (by decide) (by decide)
  · exact e 4 (by decide) (by decide)
  · exact e 8 (by decide) (by decide)
  · exact e 16 (by decide) (by decide)
  · exact e 32 (by decide) (by decide)
  · exact e 64 (by decide) (by decide)
  · exact e 128 (by decide) (by decide)
theorem shr_bit (m k : Nat) : ((m : Int) / 2 ^ k).tmod 2 = ((m / 2 ^ k % 2 : Nat) : Int) := by
  have e : ((m : Int) / 2 ^ k) = ((m / 2 ^ k : Nat) : Int) := by simp
  rw [e, Int.tmod_eq_emod_of_nonneg (Int.natCast_nonneg _), Int.natCast_emod]
  rfl
/-- c is S, with e laid over it from bit a on. -/
structure BrC (S c : List Int) (a k e : Nat) : Prop where
  len : c.length = 64
  lt : e < 2 ^ k
  num : numB c = numB S ^^^ (e <<< a)
  same : e = 0 → c = S
  bytes : AllB c
theorem BrC.start {S : List Int} (h : AllB S) (hl : S.length = 64) (a : Nat) : BrC S S a 0 0 := ⟨hl, by decide, by simp, fun _ => rfl, h⟩
theorem BrC.skip {S c : List Int} {a k e : Nat} (h : BrC S c a k e) : BrC S c a (k + 1) e := ⟨h.len, by have := h.lt; rw [Nat.pow_succ]; omega, h.num, h.same, h.bytes⟩
theorem xor_pow_ne {e k : Nat} (h : e < 2 ^ k) : e ^^^ 2 ^ k ≠ 0 := fun q => by
  have h2 : e ^^^ 2 ^ k ^^^ 2 ^ k = 0 ^^^ 2 ^ k := by rw [q]
  rw [Nat.xor_assoc, Nat.xor_self, Nat.xor_zero, Nat.zero_xor] at h2
  omega
theorem BrC.next {S c : List Int} {a k e : Nat} (h : BrC S c a k e) {P q r : Nat} {v : Int} (hP : a + k = P) (h512 : P < 512) (hq : P / 8 = q) (hr : P % 8 = r) (hv : c.getD q 0 = v) :
    BrC S (c.set q (bits BinOp.xor IntKind.u8 v ((2 : Int) ^ r % 256))) a (k + 1) (e ^^^ 2 ^ k) := by
  subst hP hq hr hv
  have hlen := h.len
  have hq : (a + k) / 8 < c.length := by omega
  have hd : c.getD ((a + k) / 8) 0 = c[(a + k) / 8] := by rw [List.getD_eq_getElem?_getD, List.getElem?_eq_getElem hq]; rfl
  have hv := h.bytes _ (List.getElem_mem hq)
  have h2 := h.lt
  have hk : 2 ^ k < 2 ^ (k + 1) := by rw [Nat.pow_succ]; have := Nat.two_pow_pos k; omega
  have hj : (a + k) % 8 < 8 := Nat.mod_lt _ (by decide)
  have hpow : 2 ^ ((a + k) % 8) < 256 := by
    have : 2 ^ ((a + k) % 8) < 2 ^ 8 := Nat.pow_lt_pow_right (by decide) hj
    exact this
  rw [hd, bit_byte _ _ hv.1 hv.2 hj]
  refine ⟨by rw [List.length_set]; exact h.len, Nat.xor_lt_two_pow (by omega) hk, ?_, fun q => absurd q (xor_pow_ne h2), ?_⟩
  · rw [numB_set c _ _ (fun d hd => (h.bytes d hd).1) hq, h.num, Nat.shiftLeft_xor_distrib, Nat.xor_assoc]
    congr 2
    rw [Nat.shiftLeft_eq, Nat.shiftLeft_eq, ← Nat.pow_add, ← Nat.pow_add]
    congr 1
    omega
  · intro b hb
    rcases List.mem_or_eq_of_mem_set hb with hb | rfl
    · exact h.bytes b hb
    · have : c[(a + k) / 8].toNat ^^^ 2 ^ ((a + k) % 8) < 2 ^ 8 := Nat.xor_lt_two_pow (by omega) hpow
      omega

/-- The disk behind the flush. -/
theorem flushed {b L : List Int} {s C : Nat} {d : Dk} (hB : AllB b) (h2 : b.length ≤ 1680) (hC : cntC b.length = C) (hL : stepL s C = L) (hd : wrD (newD 32) (wrC b L) C = d) :
    flushE d = 0 ∧ (flushD d).n = 32 ∧ DkOk (flushD d) ∧ ∀ i (h : i < L.length), (flushD d).sure L[i].toNat = secC (pcC b i) (nxC L i) := by
  have c30 : C ≤ 30 := by rw [← hC]; unfold cntC; omega
  have hl : L.length = C := by rw [← hL, stepL_len]
  have ap : apC L = true := by rw [← hL]; exact stepL_ap c30
  have rng : ∀ x ∈ L, 1 ≤ x ∧ x ≤ 30 := fun x hx => by rw [← hL] at hx; exact stepL_rng x hx
  have e0 : d.down = false := by rw [← hd]; rfl
  have e1 : d.left = 0 := by rw [← hd]; rfl
  have en : d.n = 32 := by rw [← hd]; rfl
  have es : d.sure = fun _ => zeros := by rw [← hd]; rfl
  have ep : d.pend = ((wrC b L).take L.length).map (fun x => (⟨x.1.toNat, x.2⟩ : Wr)) := by rw [← hd, hl]; rfl
  have hw : ∀ x ∈ d.pend, x.at < d.n ∧ x.by.length = 64 ∧ AllB x.by := fun x hx => by
    rw [ep] at hx
    obtain ⟨y, hy, rfl⟩ := List.mem_map.1 hx
    obtain ⟨k, hk, rfl⟩ := List.mem_iff_getElem.1 (List.mem_of_mem_take hy)
    obtain ⟨o1, o2, o3, o4⟩ := wrC_ok hB ap hk
    have := rng _ o2
    exact ⟨by rw [en]; show (wrC b L)[k].1.toNat < 32; omega, o3, o4⟩
  have ok : DkOk d := ⟨by rw [en]; decide, fun i _ => by rw [es]; exact ⟨zeros_len, zeros_allB⟩, hw, by rw [e1]; decide⟩
  obtain ⟨f1, f2⟩ := flush_calm e0 e1
  refine ⟨f1, by rw [f2]; exact en, flushD_ok ok, fun i hi => ?_⟩
  rw [f2]
  have nd := wrC_nodup (b := b) ap
  rw [← ep] at nd
  have hi' : i < (wrC b L).length := by rw [wrC_len]; exact hi
  have hip : i < d.pend.length := by rw [ep]; simp [wrC_len]; exact hi
  have q := layAll_one d.pend 0 i hip d.sure nd (fun x hx => ⟨(hw x hx).2.1, by rw [es]; exact zeros_len⟩)
  have e2 : d.pend[i] = (⟨L[i].toNat, secC (pcC b i) (nxC L i)⟩ : Wr) := by
    simp only [ep, List.getElem_map, List.getElem_take, wrC_at, getD_at hi]
  rw [e2] at q
  exact q
theorem layD_read {σ : Nat → List Int} (hσ : ∀ i, i < 32 → (σ i).length = 64) {x : Int} (h0 : 1 ≤ x) (h1 : x ≤ 30) : readL (layD (secsL σ 32)) x = σ x.toNat := by
  have len := secsL_len hσ
  have hc : closedE (layD (secsL σ 32)) x = 0 := closedE_zero.2 ⟨rfl, by omega, by show x < (((secsL σ 32).length / 64 : Nat) : Int); rw [len]; omega⟩
  unfold readL
  rw [if_pos hc]
  exact secsL_part hσ (by omega)
/-- What is read of the turned image. -/
theorem burst_out {b L : List Int} {σ : Nat → List Int} (hσ : ∀ i, i < 32 → (σ i).length = 64 ∧ AllB (σ i)) (hlen : L.length = cntC b.length) (hap : apC L = true) (hf : ∀ x ∈ L, 1 ≤ x ∧ x ≤ 30) (hB : AllB b) (h1 : 1 ≤ b.length) (h2 : b.length ≤ 1680)
    (hrd : ∀ i (h : i < L.length), σ L[i].toNat = secC (pcC b i) (nxC L i)) {j t a e : Nat} {c : List Int} (hj : j < L.length) (ht : L[j].toNat = t) (hc : BrC (σ t) c a 32 e) (ha : a < 512) :
    (e = 0 → rdC (layD (secsL (updS σ t c) 32)) (L.getD 0 0) (b.length : Nat) = (b, L, 0, -1)) ∧ (e ≠ 0 → rdC (layD (secsL (updS σ t c) 32)) (L.getD 0 0) (b.length : Nat) = ([], [], 5, L[j])) := by
  have hu : ∀ i, i < 32 → (updS σ t c i).length = 64 := fun i hi => by
    unfold updS
    split
    · exact hc.len
    · exact (hσ i hi).1
  have ln : (layD (secsL (updS σ t c) 32)).n = 32 := by show (secsL (updS σ t c) 32).length / 64 = 32; rw [secsL_len hu]
  have fit : ∀ x ∈ L, x ≤ ((layD (secsL (updS σ t c) 32)).n : Int) - 2 := fun x hx => by rw [ln]; have := (hf x hx).2; omega
  constructor
  · intro e0
    rw [hc.same e0, updS_same] at *
    refine ChIn.read ⟨rfl, hlen, hap, fit, fun i hi => ?_, hB⟩ h1 (by omega)
    have r := hf _ (List.getElem_mem hi)
    rw [layD_read (fun i hi => (hσ i hi).1) r.1 r.2, hrd i hi]
  · intro e0
    have rj := hf _ (List.getElem_mem hj)
    refine ChPre.met (p := j) ⟨rfl, hlen, hap, fit, fun i hi hij => ?_, hB⟩ hj ?_ h1 (by omega)
    · have r := hf _ (List.getElem_mem hi)
      rw [layD_read hu r.1 r.2, updS, if_neg ?_, hrd i hi]
      intro q
      have := (List.pairwise_iff_getElem.1 (apC_iff.1 hap).2 i j hi hj hij)
      exact this (by omega)
    · rw [layD_read hu rj.1 rj.2, ht, updS, if_pos rfl]
      have t32 : t < 32 := by omega
      have es : σ t = secC (pcC b j) (nxC L j) := by rw [← ht]; exact hrd j hj
      exact sumOk_burst (hσ t t32).2 hc.bytes (hσ t t32).1 hc.len (by rw [es]; exact secC_sum (pcC_allB hB j) (pcC_le b j) _) hc.num (by have := hc.lt; omega) e0 ha
end Go.Proofs.YtgmmgklcndnehaaDoor
