/- Plain mathematics of layer 14: where a live row's object lies, its pointer fields, and what they lead to. -/
import Derived.Test.YtebmegghojiegaaDoorAvM
namespace Go.Proofs.YtebmegghojiegaaDoor
open Go.RowKit
set_option linter.unusedVariables false

theorem ofI_fits {z : Int} (h0 : 0 ≤ ofI z) (h7 : ofI z < 7) : z ≤ sizeI (ofI z) := by
  rcases ofI_cases z with ⟨h, e⟩ | ⟨h1, h2, e⟩ | ⟨h1, h2, e⟩ | ⟨h1, h2, e⟩ | ⟨h1, h2, e⟩ | ⟨h1, h2, e⟩ | ⟨h1, h2, e⟩ | ⟨h1, h2, e⟩ | ⟨h1, h2, e⟩ <;> rw [e] at h0 h7 ⊢ <;> first | omega | (simp only [sizeI]; omega) | (simp [sizeI]; omega)
/-- A slot is told: where it lies. -/
theorem slot_in {V : Vw} {q : Nat} (h : Hold V q) (hq : 3 ≤ q) {x z : Int} (hs : slotB V.ts x z = true) : 0 ≤ x ∧ x + z ≤ V.bs.length ∧ x + 16 ≤ V.bs.length := by
  unfold slotB at hs
  obtain ⟨t, ht, hh⟩ := List.any_eq_true.1 hs
  obtain ⟨j, hj, rfl⟩ := List.getElem_of_mem ht
  rw [← tdD_at hj] at hh
  rw [Bool.and_eq_true, List.any_eq_true] at hh
  obtain ⟨h1, k, hk, h2⟩ := hh
  obtain ⟨hr, hpe⟩ := h.right hq j hj
  have hx := of_decide_eq_true h2
  have hf := of_decide_eq_true h1
  obtain ⟨k0, k1, _, _, p0⟩ := right_at hr hk
  have rt := newE_rt hr.1
  obtain ⟨f1, f2, f3, f4, f5, f6, f7, f8, f9, f10, f11⟩ := rt.facts
  have hb := (h.r1 (by omega)).2.2.2.1
  unfold atS at hx
  have n0 : 0 ≤ k * szI (tdD V.ts j).c (tdD V.ts j).s := Int.mul_nonneg (by omega) (by omega)
  have m : (k + 1) * szI (tdD V.ts j).c (tdD V.ts j).s ≤ (slN (tdD V.ts j).c : Int) * szI (tdD V.ts j).c (tdD V.ts j).s := Int.mul_le_mul_of_nonneg_right (by omega) (by omega)
  rw [Int.add_mul, Int.one_mul] at m
  have zz : z ≤ szI (tdD V.ts j).c (tdD V.ts j).s := by
    unfold szI
    by_cases c7 : (tdD V.ts j).c = 7
    · rw [if_pos c7, hf.2 c7]; exact Int.le_refl _
    · rw [if_neg c7, hf.1]
      exact ofI_fits (by rw [← hf.1]; exact rt.c0) (by rw [← hf.1]; have := rt.c7; omega)
  exact ⟨by omega, by omega, by omega⟩
/-- What the fourth rule says of a live row. -/
theorem Hold.live {V : Vw} {q : Nat} (h : Hold V q) (hq : 4 ≤ q) (i : Nat) (hi : i < V.rs.length) (hl : (rwD V.rs i).live = true) : 1 ≤ (rwD V.rs i).gen ∧ (rwD V.rs i).gen ≤ 65535 ∧ 0 ≤ (rwD V.rs i).kind ∧ (rwD V.rs i).kind < V.ks.length ∧ slotB V.ts (rwD V.rs i).pl (knD V.ks (rwD V.rs i).kind.toNat).s = true := by
  have := h 3 (by omega) i hi
  have : rule4 V i = true := this
  unfold rule4 at this
  rw [if_pos hl, Bool.and_eq_true, Bool.and_eq_true] at this
  have h1 := of_decide_eq_true this.1
  have h2 := of_decide_eq_true this.2.1
  have h3 := this.2.2
  unfold liesB at h3
  rw [Bool.and_eq_true] at h3
  have h4 := of_decide_eq_true h3.1
  exact ⟨h2, h1.2, h4.1, h4.2, h3.2⟩
theorem Hold.lies {V : Vw} {q : Nat} (h : Hold V q) (hq : 4 ≤ q) (i : Nat) (hi : i < V.rs.length) (hl : (rwD V.rs i).live = true) : 0 ≤ (rwD V.rs i).pl ∧ (rwD V.rs i).pl + (knD V.ks (rwD V.rs i).kind.toNat).s ≤ V.bs.length ∧ (rwD V.rs i).pl + 16 ≤ V.bs.length ∧ 1 ≤ (knD V.ks (rwD V.rs i).kind.toNat).s ∧ (knD V.ks (rwD V.rs i).kind.toNat).s ≤ 4096 ∧ placedB (knD V.ks (rwD V.rs i).kind.toNat).s 0 (knD V.ks (rwD V.rs i).kind.toNat).l = true ∧ (knD V.ks (rwD V.rs i).kind.toNat).l.length ≤ 16 := by
  obtain ⟨_, _, h3, h4, h5⟩ := h.live hq i hi hl
  obtain ⟨a1, a2, a3⟩ := slot_in h (by omega) h5
  obtain ⟨b1, b2, b3, b4⟩ := checkK_ok (h.r2 (by omega) (rwD V.rs i).kind.toNat (by omega))
  exact ⟨a1, a2, a3, b1, b2, b4, b3⟩
theorem placed_all {s : Int} : ∀ (l : List Int) (f : Int), placedB s f l = true → (∀ p ∈ l, f ≤ p ∧ p + 8 ≤ s) ∧ l.Pairwise (fun p q => p + 8 ≤ q)
  | [], _, _ => ⟨by simp, List.Pairwise.nil⟩
  | x :: l, f, h => by
    rw [placedB, Bool.and_eq_true] at h
    have h1 := of_decide_eq_true h.1
    obtain ⟨k1, k2⟩ := placed_all l (x + 8) h.2
    refine ⟨fun y hy => ?_, List.pairwise_cons.2 ⟨fun y hy => (k1 y hy).1, k2⟩⟩
    rcases List.mem_cons.1 hy with rfl | hy
    · omega
    · have := k1 y hy; omega
/-- No row has a place beyond the bytes. -/
theorem own_far {V : Vw} {q : Nat} (h : Hold V q) (hq : 4 ≤ q) {x : Int} (hx : x < 0 ∨ V.bs.length ≤ x) : ownI V.rs x = none := by
  cases e : ownI V.rs x with
  | none => rfl
  | some i =>
    obtain ⟨hi, h1, h2, _⟩ := own_some e
    have := h.lies hq i hi h1
    omega
theorem own_wrap {V : Vw} {q : Nat} (h : Hold V q) (hq : 4 ≤ q) (hb : V.bs.length ≤ 16384) {x : Int} (h0 : 0 ≤ x) (h1 : x ≤ 18446744073709551615) : ownI V.rs (IntKind.i64.wrap (IntKind.u64.wrap (x - V.base))) = ownI V.rs (x - V.base) := by
  have hg := (h.r1 (by omega)).2.2.1
  unfold goodR at hg
  by_cases e : x - V.base < 9223372036854775808
  · have : IntKind.i64.wrap (IntKind.u64.wrap (x - V.base)) = x - V.base := by
      rw [IntKind.wrap_u64, IntKind.wrap_i64]; omega
    rw [this]
  · rw [own_far h hq (x := x - V.base) (by omega), own_far h hq]
    rw [IntKind.wrap_u64, IntKind.wrap_i64]; omega
/-- The handle of the object at an address. -/
def nameH (V : Vw) (x : Int) : Nat := match ownI V.rs (x - V.base) with
  | some j => ofN ((j : Int) + 1) (rwD V.rs j).gen
  | none => 0
theorem ofN_pos {j : Nat} {g : Int} (h1 : j < 4096) (h2 : 1 ≤ g) (h3 : g ≤ 65535) : ofN ((j : Int) + 1) g ≠ 0 := by
  unfold ofN
  rw [if_pos ⟨by omega, by omega, h2, h3⟩]
  omega
theorem nameH_zero {V : Vw} {q : Nat} (h : Hold V q) (hq : 4 ≤ q) (hr : V.rs.length ≤ 300) (x : Int) : (nameH V x = 0) ↔ ownI V.rs (x - V.base) = none := by
  unfold nameH
  cases e : ownI V.rs (x - V.base) with
  | none => simp
  | some j =>
    obtain ⟨hj, h1, _⟩ := own_some e
    obtain ⟨g1, g2, _⟩ := h.live hq j hj h1
    have := ofN_pos (j := j) (g := (rwD V.rs j).gen) (by omega) g1 g2
    simp [this]
theorem word_cut {bs : List Int} {a z p : Nat} (hp : p + 8 ≤ z) : ((((bs.drop a).take z).drop p).take 8) = (bs.drop (a + p)).take 8 := by
  rw [List.drop_take, List.take_take, List.drop_drop, Nat.min_eq_left (by omega)]
end Go.Proofs.YtebmegghojiegaaDoor
