/- Plain mathematics of layer 13: spans slid together. -/
import Derived.Test.YtbfamjnnlcopiaaGreatDoorGzAB
namespace Go.Proofs.YtbfamjnnlcopiaaGreatDoor
set_option linter.unusedVariables false
set_option maxRecDepth 4000

/-- A span that stands: its first page, its class, its bytes. -/
structure Sn where
  pg : Nat
  cl : Nat
  bts : Nat
/-- How many pages it has. -/
def Sn.k (s : Sn) : Nat := pgsN (s.cl : Int) (s.bts : Int)
/-- How many slots. -/
def Sn.sl (s : Sn) : Nat := slN (s.cl : Int)
/-- How many bytes a slot has. -/
def Sn.z (s : Sn) : Nat := (szI (s.cl : Int) (s.bts : Int)).toNat
/-- Where a slot begins. -/
def Sn.at (s : Sn) (i : Nat) : Nat := 256 * s.pg + i * s.z
/-- A span that may be. -/
structure Sn.Ok (s : Sn) : Prop where
  c7 : s.cl ≤ 7
  sm : s.cl < 7 → s.bts = 0
  lg : s.cl = 7 → ofI (s.bts : Int) = 7
theorem Sn.Ok.rt0 {s : Sn} (h : s.Ok) : Rt 0 (s.cl : Int) (s.bts : Int) :=
  ⟨by omega, by have := h.c7; omega, fun e => by have := h.sm (by omega); omega, fun e => h.lg (by omega), by omega, by have := pgsN_le (s.cl : Int) (s.bts : Int); omega⟩
theorem Sn.Ok.facts {s : Sn} (h : s.Ok) : 1 ≤ s.sl ∧ s.sl ≤ 16 ∧ 16 ≤ s.z ∧ s.z ≤ 4096 ∧ 1 ≤ s.k ∧ s.k ≤ 16 ∧ s.sl * s.z ≤ 256 * s.k ∧ szI (s.cl : Int) (s.bts : Int) = (s.z : Int) := by
  obtain ⟨f1, f2, f3, f4, f5, f6, f7, f8, _, _, f16⟩ := h.rt0.facts
  have hz : szI (s.cl : Int) (s.bts : Int) = (s.z : Int) := by unfold Sn.z; omega
  rw [hz] at f4 f5 f6 f16
  refine ⟨f1, f2, by omega, by omega, f7, f8, ?_, hz⟩
  have e : ((s.sl * s.z : Nat) : Int) ≤ ((256 * s.k : Nat) : Int) := by
    rw [Int.natCast_mul, Int.natCast_mul]; exact f6
  omega
theorem Sn.Ok.at_in {s : Sn} (h : s.Ok) {i : Nat} (hi : i < s.sl) : 256 * s.pg ≤ s.at i ∧ s.at i + s.z ≤ 256 * (s.pg + s.k) := by
  obtain ⟨_, _, _, _, _, _, f, _⟩ := h.facts
  have : (i + 1) * s.z ≤ s.sl * s.z := Nat.mul_le_mul_right _ hi
  rw [Nat.add_mul, Nat.one_mul] at this
  unfold Sn.at
  omega
/-- The i-th span. -/
def sn (m : List Sn) (i : Nat) : Sn := m.getD i ⟨0, 0, 0⟩
/-- Spans that stand in P pages. -/
structure Std (P : Nat) (m : List Sn) : Prop where
  ok : ∀ i, i < m.length → (sn m i).Ok
  top : ∀ i, i < m.length → (sn m i).pg + (sn m i).k ≤ P
  rise : ∀ i j, i < j → j < m.length → (sn m i).pg + (sn m i).k ≤ (sn m j).pg
  most : P ≤ 4096

/-- A move. -/
structure Mv where
  (fr to ln : Int)
/-- The spans of a class among the first k. -/
def ownU (c : Nat) (m : List Sn) : Nat → List Nat
  | 0 => []
  | k + 1 => ownU c m k ++ if (sn m k).cl = c then [k] else []
def ownL (c : Nat) (m : List Sn) : List Nat := ownU c m m.length
/-- The places below k that are in, rising. -/
def lsN (f : Nat → Bool) : Nat → List Nat
  | 0 => []
  | k + 1 => lsN f k ++ (if f k then [k] else [])
/-- The places of the slots that are taken of spans. -/
def fromU (m : List Sn) (F : Nat → Nat → Bool) (l : List Nat) : List Nat := l.flatMap (fun i => (lsN (F i) (sn m i).sl).map (sn m i).at)
def fromL (c : Nat) (m : List Sn) (F : Nat → Nat → Bool) : List Nat := fromU m F (ownL c m)
def updF (F : Nat → Nat → Bool) (i : Nat) (f : Nat → Bool) : Nat → Nat → Bool := fun k => if k = i then f else F k
def clrF (F : Nat → Nat → Bool) (l : List Nat) : Nat → Nat → Bool := fun i => if i ∈ l then fun _ => false else F i
/-- The first j slots taken. -/
def fillF (own : List Nat) (sl : Nat) (F : Nat → Nat → Bool) : Nat → Nat → Nat → Bool
  | 0 => F
  | j + 1 => updF (fillF own sl F j) (own.getD (j / sl) 0) (put (fillF own sl F j (own.getD (j / sl) 0)) (j % sl) true)
def clSl (c : Nat) : Nat := slN (c : Int)
/-- A class gathered: what is taken then, and its moves. -/
def gathF (c : Nat) (m : List Sn) (F : Nat → Nat → Bool) : Nat → Nat → Bool := fillF (ownL c m) (clSl c) (clrF F (ownL c m)) (fromL c m F).length
/-- The first c classes gathered. -/
def clsF (m : List Sn) (F : Nat → Nat → Bool) : Nat → Nat → Nat → Bool
  | 0 => F
  | c + 1 => gathF c m (clsF m F c)
/-- A span that is told. -/
structure Td where
  (p c s : Int) (l : List Int)
/-- Has a span slots that are taken? -/
def hasS (m : List Sn) (F : Nat → Nat → Bool) (i : Nat) : Bool := decide (cnt (F i) (sn m i).sl ≠ 0)
end Go.Proofs.YtbfamjnnlcopiaaGreatDoor

/- Plain mathematics of layer 13: the j-th live slot never lies ahead of the j-th slot; what is taken behind it. -/
namespace Go.Proofs.YtbfamjnnlcopiaaGreatDoor
set_option linter.unusedVariables false
set_option maxRecDepth 4000

theorem getD_eq {α : Type} {l : List α} {i : Nat} (d : α) (h : i < l.length) : l.getD i d = l[i] := by simp [List.getD_eq_getElem?_getD, List.getElem?_eq_getElem h]
end Go.Proofs.YtbfamjnnlcopiaaGreatDoor
