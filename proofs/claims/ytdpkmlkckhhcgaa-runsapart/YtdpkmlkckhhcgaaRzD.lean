/- What a copy and the units leave of one another. -/
import Derived.Test.YtdpkmlkckhhcgaaRzA
namespace Go.Proofs.Ytdpkmlkckhhcgaa
open Go.RowKit
set_option linter.unusedVariables false

theorem row_isL0 {w : World} {g : Nat} {xs : List (Nat × Nat)} (h : Row w g xs) : IsL w (some ⟨g, 0, none⟩) xs := by
  have := h.isL (l := xs) 0 (by simp)
  rwa [Nat.zero_mul] at this
/-- The units' blocks, while the copy rests. -/
def UnS (B mb mg Z2 Z4 : Nat) : Nat → Prop := fun k => Mine B mb mg k ∧ (k < Z2 ∨ Z4 ≤ k)
/-- The copy's. -/
def CpS (Z3 Z4 : Nat) : Nat → Prop := fun k => Z3 ≤ k ∧ k < Z4
/-- The copy's, while the units rest. -/
def CpT (Z3 Z4 Z7 : Nat) : Nat → Prop := fun k => CpS Z3 Z4 k ∨ Z7 ≤ k
/-- The units'. -/
def UnT (B mb mg Z2 Z4 Z7 : Nat) : Nat → Prop := fun k => UnS B mb mg Z2 Z4 k ∧ k < Z7

structure Ph1 (w1 wr : World) (Z2 Z3 Z4 b mb mg bc N : Nat) (f g : Nat → Bool) (a3 : Option Addr) : Prop where
  two : Two wr (UnS w1.heap.size mb mg Z2 Z4) b mb mg N g
  cp : IsR wr (CpS Z3 Z4) bc N f
  was : IsL wr a3 (freeL f N)
  wasb : freeL f N = [] ∨ ∃ ad : Addr, a3 = some ad ∧ Z2 ≤ ad.block ∧ ad.block < Z4
  low : Below w1.heap.size w1 wr
  g2 : w1.heap.size ≤ mg
  g3 : mg < Z2
  z1 : w1.heap.size ≤ Z2
  z2 : Z2 ≤ Z3
  z3 : Z3 ≤ Z4
  z4 : Z4 ≤ wr.heap.size
theorem ph1_start {w1 w2 w3 w4 : World} {b mb mg bc N : Nat} {f : Nat → Bool} {a3 : Option Addr} (P : Played w1 w2 b mb mg N f) (l3 : IsL w3 a3 (freeL f N)) (g3 : ∀ ad : Addr, a3 = some ad → w2.heap.size ≤ ad.block) (b3 : Below w2.heap.size w2 w3) (i4 : IsR w4 (fun k => w3.heap.size ≤ k) bc N f) (b4 : Below w3.heap.size w3 w4) :
    Ph1 w1 w4 w2.heap.size w3.heap.size w4.heap.size b mb mg bc N f f a3 := by
  have z1 := P.low.size
  have z2 := b3.size
  have z3 := b4.size
  have l2 := P.two.ref.lt
  refine ⟨⟨?_, (P.two.ref.keep b3).keep b4, fun h => h.1.2.1 rfl, fun h => h.1.2.2 rfl, fun i hi => ⟨⟨by omega, by omega, by omega⟩, .inr hi⟩⟩, ?_, l3.keep b4, ?_, (P.low.trans (b3.mono z1)).trans (b4.mono (by omega)), P.ge2, l2.2, z1, z2, z3, Nat.le_refl _⟩
  · exact ((P.two.isR.mono (T := UnS w1.heap.size mb mg w2.heap.size w4.heap.size) (fun i hi hs => ⟨hs, .inl hi⟩)).keep b3).keep b4
  · exact i4.mono (fun i hi hs => ⟨hs, hi⟩)
  · rcases l3 with e | ⟨bb, off, e, hs, _⟩
    · exact .inl e
    · exact .inr ⟨_, e, g3 _ e, by show bb < _; omega⟩
theorem Ph1.next {w1 wr w' : World} {Z2 Z3 Z4 b mb mg bc N : Nat} {f g g' : Nat → Bool} {a3 : Option Addr} (h : Ph1 w1 wr Z2 Z3 Z4 b mb mg bc N f g a3) (t : Two w' (UnS w1.heap.size mb mg Z2 Z4) b mb mg N g') (u : Tu (fun i => UnS w1.heap.size mb mg Z2 Z4 i ∨ i = mg) wr w') : Ph1 w1 w' Z2 Z3 Z4 b mb mg bc N f g' a3 := by
  have h2 := h.z2
  have h3 := h.z3
  have h4 := h.g3
  have hz := h.z4
  have h5 := u.size
  refine ⟨t, h.cp.same (fun i o ho hc => u.block i o ho ?_), ?_, h.wasb, h.low.trans (u.below ?_ h.low.size), h.g2, h.g3, h.z1, h.z2, h.z3, by omega⟩
  · rintro (hs | hs)
    · have := hs.2; have := hc.1; have := hc.2; omega
    · have := hc.1; omega
  · rcases h.wasb with e | ⟨ad, e, k1, k2⟩
    · exact .inl e
    · refine h.was.tu u (fun ad' e' => ?_)
      rw [e] at e'
      cases e'
      rintro (hs | hs)
      · have := hs.2; omega
      · omega
  · rintro i (hs | hs)
    · exact hs.1.1
    · rw [hs]; exact h.g2
theorem Ph1.keep {w1 wr w' : World} {Z2 Z3 Z4 b mb mg bc N : Nat} {f g : Nat → Bool} {a3 : Option Addr} (h : Ph1 w1 wr Z2 Z3 Z4 b mb mg bc N f g a3) (hb : Below wr.heap.size wr w') : Ph1 w1 w' Z2 Z3 Z4 b mb mg bc N f g a3 :=
  ⟨h.two.keep hb, h.cp.keep hb, h.was.keep hb, h.wasb, h.low.trans (hb.mono h.low.size), h.g2, h.g3, h.z1, h.z2, h.z3, Nat.le_trans h.z4 hb.size⟩
theorem belowN {w : World} (m : Nat) : Below w.heap.size w (w.drewN m) := ⟨rfl, rfl, rfl, Nat.le_refl _, fun _ _ => rfl⟩

structure Ph2 (w1 wr : World) (Z2 Z3 Z4 Z7 b mb mg bc N G : Nat) (g f : Nat → Bool) : Prop where
  cp : IsR wr (CpT Z3 Z4 Z7) bc N f
  og : IsR wr (UnT w1.heap.size mb mg Z2 Z4 Z7) b N g
  now : Row wr G (freeL g N)
  gg : Z4 ≤ G
  gl : G < Z7
  low : Below w1.heap.size w1 wr
  z1 : w1.heap.size ≤ Z2
  z2 : Z2 ≤ Z3
  z3 : Z3 ≤ Z4
  z4 : Z4 ≤ Z7
  z7 : Z7 ≤ wr.heap.size
theorem ph2_start {w1 wr : World} {Z2 Z3 Z4 b mb mg bc N G : Nat} {f g : Nat → Bool} {a3 : Option Addr} (h : Ph1 w1 wr Z2 Z3 Z4 b mb mg bc N f g a3) (r : Row wr G (freeL g N)) (hG : Z4 ≤ G) : Ph2 w1 wr Z2 Z3 Z4 wr.heap.size b mb mg bc N G g f :=
  ⟨h.cp.mono (fun i hi hs => .inl hs), h.two.isR.mono (fun i hi hs => ⟨hs, hi⟩), r, hG, r.lt, h.low, h.z1, h.z2, h.z3, h.z4, Nat.le_refl _⟩
theorem Ph2.hS {w1 wr : World} {Z2 Z3 Z4 Z7 b mb mg bc N G : Nat} {f g : Nat → Bool} (h : Ph2 w1 wr Z2 Z3 Z4 Z7 b mb mg bc N G g f) : ∀ i, wr.heap.size ≤ i → CpT Z3 Z4 Z7 i := fun i hi => .inr (Nat.le_trans h.z7 hi)
theorem Ph2.next {w1 wr w' : World} {Z2 Z3 Z4 Z7 b mb mg bc N G : Nat} {f f' g : Nat → Bool} (h : Ph2 w1 wr Z2 Z3 Z4 Z7 b mb mg bc N G g f) (i : IsR w' (CpT Z3 Z4 Z7) bc N f') (u : Tu (CpT Z3 Z4 Z7) wr w') : Ph2 w1 w' Z2 Z3 Z4 Z7 b mb mg bc N G g f' := by
  have h1 := h.z1
  have h2 := h.z2
  have h3 := h.z3
  have h4 := h.z4
  have h7 := h.z7
  have h8 := h.gg
  have h9 := h.gl
  have hu := u.size
  refine ⟨i, h.og.same (fun i o ho hr => u.block i o ho ?_), u.block G _ h.now ?_, h.gg, h.gl, h.low.trans (u.below ?_ h.low.size), h.z1, h.z2, h.z3, h.z4, by omega⟩
  · rintro (hs | hs)
    · have := hr.1.2; have := hs.1; have := hs.2; omega
    · have := hr.2; omega
  · rintro (hs | hs)
    · have := hs.1; have := hs.2; omega
    · omega
  · rintro i (hs | hs)
    · have := hs.1; omega
    · omega
theorem Ph2.keep {w1 wr w' : World} {Z2 Z3 Z4 Z7 b mb mg bc N G : Nat} {f g : Nat → Bool} (h : Ph2 w1 wr Z2 Z3 Z4 Z7 b mb mg bc N G g f) (hb : Below wr.heap.size wr w') : Ph2 w1 w' Z2 Z3 Z4 Z7 b mb mg bc N G g f :=
  ⟨h.cp.keep hb, h.og.keep hb, h.now.keep hb, h.gg, h.gl, h.low.trans (hb.mono h.low.size), h.z1, h.z2, h.z3, h.z4, Nat.le_trans h.z7 hb.size⟩
theorem Ph2.drew {w1 wr : World} {Z2 Z3 Z4 Z7 b mb mg bc N G : Nat} {f g : Nat → Bool} (h : Ph2 w1 wr Z2 Z3 Z4 Z7 b mb mg bc N G g f) : Ph2 w1 wr.drew Z2 Z3 Z4 Z7 b mb mg bc N G g f :=
  ⟨h.cp.drew, h.og.drew, h.now, h.gg, h.gl, h.low.drew, h.z1, h.z2, h.z3, h.z4, h.z7⟩
/-- What a block beyond is, counts for neither. -/
theorem Ph2.only {w1 wr w' : World} {Z2 Z3 Z4 Z7 b mb mg bc N G k : Nat} {f g : Nat → Bool} (h : Ph2 w1 wr Z2 Z3 Z4 Z7 b mb mg bc N G g f) (ho : Only k wr w') (hk : Z7 ≤ k) : IsR w' (UnT w1.heap.size mb mg Z2 Z4 Z7) b N g ∧ Row w' G (freeL g N) ∧ Below w1.heap.size w1 w' := by
  have h9 := h.gl
  have h1 := h.z1
  have h2 := h.z2
  have h3 := h.z3
  have h4 := h.z4
  have h7 := h.z7
  exact ⟨h.og.same (fun i o hi hr => by rw [ho.block i (by have := hr.2; omega)]; exact hi), ho.row h.now (by omega),
    h.low.trans ⟨ho.os, ho.tape, ho.output, Nat.le_of_eq ho.size.symm, fun i hi => ho.block i (by omega)⟩⟩
end Go.Proofs.Ytdpkmlkckhhcgaa
