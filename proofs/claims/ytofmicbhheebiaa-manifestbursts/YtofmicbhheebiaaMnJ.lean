/- Layer 21: bytes over which a burst is laid. -/
import Derived.Test.YtofmicbhheebiaaMnX
namespace Go.Proofs.Ytofmicbhheebiaa
open Go.RowKit
set_option linter.unusedVariables false
set_option maxRecDepth 4000

theorem cell_set {w : World} {g j : Nat} {u v : Value} (h : w.cell? ⟨g, j, none⟩ = some u) : (w.setCell ⟨g, j, none⟩ v).cell? ⟨g, j, none⟩ = some v := by
  simp only [World.cell?, World.setCell, Array.getElem?_modify] at h ⊢
  split at h
  · rename_i c t fr hh
    simp at h
    have hj : j < c.size := by
      have := h
      exact (Array.getElem?_eq_some_iff.1 this).1
    simp [hh, hj]
  · cases h
theorem cell_else {w : World} {g j k : Nat} {v : Value} (h : k ≠ j) : (w.setCell ⟨g, j, none⟩ v).cell? ⟨g, k, none⟩ = w.cell? ⟨g, k, none⟩ := by
  simp only [World.cell?, World.setCell, Array.getElem?_modify]
  rcases hh : w.heap[g]? with _ | o
  · simp
  · rcases o with ⟨c, t, fr⟩ | _ <;> simp [Ne.symm h]
theorem frozen_set {w : World} {g j k : Nat} {v : Value} : (w.setCell ⟨g, j, none⟩ v).frozen? ⟨g, k, none⟩ = w.frozen? ⟨g, k, none⟩ := by
  simp only [World.frozen?, World.setCell, Array.getElem?_modify]
  rcases hh : w.heap[g]? with _ | o
  · simp
  · rcases o with ⟨c, t, fr⟩ | _ <;> simp
/-- Under way: the bytes c in the block g are x with e laid over it from bit p on. -/
structure TurnedBy (w0 wr : World) (B g : Nat) (x : List Int) (p k : Nat) (c : List Int) (e : Nat) : Prop where
  len : c.length = x.length
  lt : e < 2 ^ k
  num : numB c = numB x ^^^ (e <<< p)
  within : e ≠ 0 → p < 8 * x.length
  bytes : AllB c
  cell : ∀ i, i < c.length → wr.cell? ⟨g, i, none⟩ = some (.int .u8 (c.getD i 0)) ∧ wr.frozen? ⟨g, i, none⟩ = false
  new : B ≤ g ∧ g < wr.heap.size
  below : Below B w0 wr
def Turned (w0 wr : World) (B g : Nat) (x : List Int) (p k : Nat) : Prop := ∃ (c : List Int) (e : Nat), TurnedBy w0 wr B g x p k c e
theorem turned_start {w0 w3 : World} {B base cap g : Nat} {x : List Int} (p : Nat) (hx : AllB x) (hb : B ≤ base) (h : OwnsB w3 base (some ⟨g, 0, none⟩) x cap) (hbel : Below B w0 w3) : Turned w0 w3 B g x p 0 := by
  have h' := h
  obtain ⟨_, ⟨h1, h2⟩ | ⟨g', c', cur, h1, hg, h2, _⟩⟩ := h
  · cases h1
  · cases h1
    refine ⟨x, 0, rfl, by decide, by simp, by simp, hx, fun i hi => ⟨?_, ?_⟩, ⟨by omega, (Array.getElem?_eq_some_iff.1 h2).1⟩, hbel⟩
    · rw [World.ownsRow.cellAt h' i (by omega)]
      simp [List.getD, hi]
    · simp [World.frozen?, h2]
theorem turned_skip {w0 wr : World} {B g : Nat} {x : List Int} {p k : Nat} (h : Turned w0 wr B g x p k) : Turned w0 wr B g x p (k + 1) := by
  obtain ⟨c, e, h⟩ := h
  have := h.lt
  exact ⟨c, e, { h with lt := by rw [Nat.pow_succ]; omega }⟩
theorem bit_byte (v : Int) (j : Nat) (h0 : 0 ≤ v) (h1 : v ≤ 255) (hj : j < 8) : bits BinOp.xor IntKind.u8 v ((2 : Int) ^ j % 256) = ((v.toNat ^^^ 2 ^ j : Nat) : Int) := by
  have : j = 0 ∨ j = 1 ∨ j = 2 ∨ j = 3 ∨ j = 4 ∨ j = 5 ∨ j = 6 ∨ j = 7 := by omega
  have e := fun b (hb : 0 ≤ b) (hb1 : b < 256) => u8_xor v b h0 (by omega) hb hb1
  rcases this with rfl | rfl | rfl | rfl | rfl | rfl | rfl | rfl
  · exact e 1 (by decide) (by decide)
  · exact e 2 (by decide) (by decide)
  · exact e 4 (by decide) (by decide)
  · exact e 8 (by decide) (by decide)
  · exact e 16 (by decide) (by decide)
  · exact e 32 (by decide) (by decide)
  · exact e 64 (by decide) (by decide)
  · exact e 128 (by decide) (by decide)
theorem turned_next {w0 wr : World} {B g : Nat} {x : List Int} {p k : Nat} {c : List Int} {e : Nat} (h : TurnedBy w0 wr B g x p k c e) (hin : p + k < 8 * x.length) (hq : (p + k) / 8 < c.length) :
    Turned w0 (wr.setCell ⟨g, (p + k) / 8, none⟩ (.int .u8 (bits BinOp.xor IntKind.u8 c[(p + k) / 8] ((2 : Int) ^ ((p + k) % 8) % 256)))) B g x p (k + 1) := by
  have hv := h.bytes _ (List.getElem_mem hq)
  have h2 := h.lt
  have hk : 2 ^ k < 2 ^ (k + 1) := by rw [Nat.pow_succ]; have := Nat.two_pow_pos k; omega
  have hj : (p + k) % 8 < 8 := Nat.mod_lt _ (by decide)
  have hpow : 2 ^ ((p + k) % 8) < 256 := by
    have : 2 ^ ((p + k) % 8) < 2 ^ 8 := Nat.pow_lt_pow_right (by decide) hj
    exact this
  rw [bit_byte _ _ hv.1 hv.2 hj]
  refine ⟨c.set ((p + k) / 8) ((c[(p + k) / 8].toNat ^^^ 2 ^ ((p + k) % 8) : Nat) : Int), e ^^^ 2 ^ k, by rw [List.length_set]; exact h.len, Nat.xor_lt_two_pow (by omega) hk, ?_, fun _ => by omega, ?_, ?_, ⟨h.new.1, by simpa using h.new.2⟩, h.below.setCell h.new.1 _⟩
  · rw [numB_set c _ _ (fun d hd => (h.bytes d hd).1) hq, h.num, Nat.shiftLeft_xor_distrib, Nat.xor_assoc]
    congr 2
    rw [Nat.shiftLeft_eq, Nat.shiftLeft_eq, ← Nat.pow_add, ← Nat.pow_add]
    congr 1
    omega
  · intro b hb
    rcases List.mem_or_eq_of_mem_set hb with hb | rfl
    · exact h.bytes b hb
    · have : c[(p + k) / 8].toNat ^^^ 2 ^ ((p + k) % 8) < 2 ^ 8 := Nat.xor_lt_two_pow (by omega) hpow
      omega
  · intro i hi
    rw [List.length_set] at hi
    obtain ⟨ha, hb⟩ := h.cell i hi
    refine ⟨?_, by rw [frozen_set]; exact hb⟩
    by_cases hiq : (p + k) / 8 = i
    · subst hiq
      rw [cell_set ha]
      simp [List.getD, hi]
    · rw [cell_else (Ne.symm hiq), ha]
      simp [List.getD, List.getElem?_set_ne hiq]
theorem shr_bit (m k : Nat) : ((m : Int) / 2 ^ k).tmod 2 = ((m / 2 ^ k % 2 : Nat) : Int) := by
  have e : ((m : Int) / 2 ^ k) = ((m / 2 ^ k : Nat) : Int) := by simp
  rw [e, Int.tmod_eq_emod_of_nonneg (Int.natCast_nonneg _), Int.natCast_emod]
  rfl
end Go.Proofs.Ytofmicbhheebiaa
