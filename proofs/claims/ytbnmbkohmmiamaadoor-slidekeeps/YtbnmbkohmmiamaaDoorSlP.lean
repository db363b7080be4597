/- Plain mathematics of layer 13: spans slid together. -/
import Derived.Test.YtbnmbkohmmiamaaDoorSpP
namespace Go.Proofs.YtbnmbkohmmiamaaDoor
set_option linter.unusedVariables false

/-- A span that stands: its first page, its class, its bytes. -/
structure Sn where
  pg : Nat
  cl : Nat
  bts : Nat
/-- How many pages it has. -/
def Sn.k (s : Sn) : Nat := pgsN (s.cl : Int) (s.bts : Int)
/-- How many slots. -/
def Sn.sl (s : Sn) : Nat := slN (s.cl : Int)
/-- How many bytes a slot has. -/
def Sn.z (s : Sn) : Nat := (szI (s.cl : Int) (s.bts : Int)).toNat
/-- Where a slot begins. -/
def Sn.at (s : Sn) (i : Nat) : Nat := 256 * s.pg + i * s.z
/-- A span that may be. -/
structure Sn.Ok (s : Sn) : Prop where
  c7 : s.cl ≤ 7
  sm : s.cl < 7 → s.bts = 0
  lg : s.cl = 7 → ofI (s.bts : Int) = 7
theorem Sn.Ok.rt0 {s : Sn} (h : s.Ok) : Rt 0 (s.cl : Int) (s.bts : Int) :=
  ⟨by omega, by have := h.c7; omega, fun e => by have := h.sm (by omega); omega, fun e => h.lg (by omega), by omega, by have := pgsN_le (s.cl : Int) (s.bts : Int); omega⟩
theorem Sn.Ok.facts {s : Sn} (h : s.Ok) : 1 ≤ s.sl ∧ s.sl ≤ 16 ∧ 16 ≤ s.z ∧ s.z ≤ 4096 ∧ 1 ≤ s.k ∧ s.k ≤ 16 ∧ s.sl * s.z ≤ 256 * s.k ∧ szI (s.cl : Int) (s.bts : Int) = (s.z : Int) := by
  obtain ⟨f1, f2, f3, f4, f5, f6, f7, f8, _, _, f16⟩ := h.rt0.facts
  have hz : szI (s.cl : Int) (s.bts : Int) = (s.z : Int) := by unfold Sn.z; omega
  rw [hz] at f4 f5 f6 f16
  refine ⟨f1, f2, by omega, by omega, f7, f8, ?_, hz⟩
  have e : ((s.sl * s.z : Nat) : Int) ≤ ((256 * s.k : Nat) : Int) := by
    rw [Int.natCast_mul, Int.natCast_mul]; exact f6
  omega
theorem Sn.at_lt {s : Sn} {i j : Nat} (h : i < j) : s.at i + s.z ≤ s.at j := by
  unfold Sn.at
  have : (i + 1) * s.z ≤ j * s.z := Nat.mul_le_mul_right _ h
  rw [Nat.add_mul, Nat.one_mul] at this
  omega
theorem Sn.Ok.at_in {s : Sn} (h : s.Ok) {i : Nat} (hi : i < s.sl) : 256 * s.pg ≤ s.at i ∧ s.at i + s.z ≤ 256 * (s.pg + s.k) := by
  obtain ⟨_, _, _, _, _, _, f, _⟩ := h.facts
  have : (i + 1) * s.z ≤ s.sl * s.z := Nat.mul_le_mul_right _ hi
  rw [Nat.add_mul, Nat.one_mul] at this
  unfold Sn.at
  omega
/-- The i-th span. -/
def sn (m : List Sn) (i : Nat) : Sn := m.getD i ⟨0, 0, 0⟩
/-- Spans that stand in P pages. -/
structure Std (P : Nat) (m : List Sn) : Prop where
  ok : ∀ i, i < m.length → (sn m i).Ok
  top : ∀ i, i < m.length → (sn m i).pg + (sn m i).k ≤ P
  rise : ∀ i j, i < j → j < m.length → (sn m i).pg + (sn m i).k ≤ (sn m j).pg
  most : P ≤ 4096

/-- A move. -/
structure Mv where
  (fr to ln : Int)
/-- The spans of a class among the first k. -/
def ownU (c : Nat) (m : List Sn) : Nat → List Nat
  | 0 => []
  | k + 1 => ownU c m k ++ if (sn m k).cl = c then [k] else []
def ownL (c : Nat) (m : List Sn) : List Nat := ownU c m m.length
theorem ownU_mem (c : Nat) (m : List Sn) (i : Nat) : ∀ k, i ∈ ownU c m k ↔ i < k ∧ (sn m i).cl = c
  | 0 => by simp [ownU]
  | k + 1 => by
    rw [ownU, List.mem_append, ownU_mem c m i k]
    by_cases h : (sn m k).cl = c
    · rw [if_pos h, List.mem_singleton]
      constructor
      · rintro (⟨h1, h2⟩ | rfl)
        · exact ⟨by omega, h2⟩
        · exact ⟨by omega, h⟩
      · rintro ⟨h1, h2⟩
        by_cases e : i = k
        · exact .inr e
        · exact .inl ⟨by omega, h2⟩
    · rw [if_neg h]
      constructor
      · rintro (⟨h1, h2⟩ | h1)
        · exact ⟨by omega, h2⟩
        · cases h1
      · rintro ⟨h1, h2⟩
        by_cases e : i = k
        · subst e; exact absurd h2 h
        · exact .inl ⟨by omega, h2⟩
theorem ownU_rises (c : Nat) (m : List Sn) : ∀ k, (ownU c m k).Pairwise (· < ·)
  | 0 => List.Pairwise.nil
  | k + 1 => by
    rw [ownU, List.pairwise_append]
    refine ⟨ownU_rises c m k, by split <;> simp, fun a ha b hb => ?_⟩
    have := ((ownU_mem c m a k).1 ha).1
    split at hb
    · simp at hb; omega
    · simp at hb
theorem ownU_len (c : Nat) (m : List Sn) : ∀ k, (ownU c m k).length ≤ k
  | 0 => Nat.le_refl _
  | k + 1 => by
    rw [ownU, List.length_append]; have := ownU_len c m k
    split <;> simp <;> omega
theorem own_lt {c : Nat} {m : List Sn} {r : Nat} (h : r < (ownL c m).length) : (ownL c m).getD r 0 < m.length ∧ (sn m ((ownL c m).getD r 0)).cl = c := by
  refine (ownU_mem c m _ _).1 ?_
  simp only [List.getD_eq_getElem?_getD, List.getElem?_eq_getElem h, Option.getD_some]
  exact List.getElem_mem h
theorem own_mono {c : Nat} {m : List Sn} {r q : Nat} (h : r < q) (hq : q < (ownL c m).length) : (ownL c m).getD r 0 < (ownL c m).getD q 0 := by
  have hr : r < (ownL c m).length := by omega
  simp only [List.getD_eq_getElem?_getD, List.getElem?_eq_getElem hr, List.getElem?_eq_getElem hq, Option.getD_some]
  exact (List.pairwise_iff_getElem.1 (ownU_rises c m m.length)) r q hr hq h
theorem own_inj {c : Nat} {m : List Sn} {r q : Nat} (hr : r < (ownL c m).length) (hq : q < (ownL c m).length) (h : (ownL c m).getD r 0 = (ownL c m).getD q 0) : r = q := by
  rcases Nat.lt_trichotomy r q with e | e | e
  · have := own_mono e hq; omega
  · exact e
  · have := own_mono e hr; omega

/-- The places below k that are in, rising. -/
def lsN (f : Nat → Bool) : Nat → List Nat
  | 0 => []
  | k + 1 => lsN f k ++ (if f k then [k] else [])
theorem lsL_N (f : Nat → Bool) : ∀ k, lsL f k = (lsN f k).map (fun (x : Nat) => (x : Int))
  | 0 => rfl
  | k + 1 => by rw [lsL, lsN, lsL_N f k, List.map_append]; split <;> rfl
theorem lsN_len (f : Nat → Bool) (k : Nat) : (lsN f k).length = cnt f k := by rw [← lsL_len, lsL_N, List.length_map]
theorem lsN_mem (f : Nat → Bool) (x : Nat) : ∀ k, x ∈ lsN f k ↔ x < k ∧ f x = true
  | 0 => by simp [lsN]
  | k + 1 => by
    rw [lsN, List.mem_append, lsN_mem f x k]
    by_cases h : f k = true
    · rw [if_pos h, List.mem_singleton]
      constructor
      · rintro (⟨h1, h2⟩ | rfl)
        · exact ⟨by omega, h2⟩
        · exact ⟨by omega, h⟩
      · rintro ⟨h1, h2⟩
        by_cases e : x = k
        · exact .inr e
        · exact .inl ⟨by omega, h2⟩
    · rw [if_neg h]
      constructor
      · rintro (⟨h1, h2⟩ | h1)
        · exact ⟨by omega, h2⟩
        · cases h1
      · rintro ⟨h1, h2⟩
        by_cases e : x = k
        · subst e; exact absurd h2 h
        · exact .inl ⟨by omega, h2⟩
theorem lsN_sub (f : Nat → Bool) : ∀ k, (lsN f k).Sublist (List.range k)
  | 0 => List.Sublist.refl _
  | k + 1 => by
    rw [lsN, List.range_succ]
    refine (lsN_sub f k).append ?_
    split
    · exact List.Sublist.refl _
    · exact List.nil_sublist _
theorem lsN_congr {f g : Nat → Bool} : ∀ {k : Nat}, (∀ i, i < k → f i = g i) → lsN f k = lsN g k
  | 0, _ => rfl
  | k + 1, h => by rw [lsN, lsN, lsN_congr (k := k) (fun i hi => h i (by omega)), h k (by omega)]
theorem lsN_upto : ∀ (n k : Nat), lsN (fun i => decide (i < n)) k = List.range (min n k)
  | n, 0 => by simp [lsN]
  | n, k + 1 => by
    rw [lsN, lsN_upto n k]
    by_cases h : k < n
    · rw [if_pos (by simpa using h), show min n k = k by omega, show min n (k + 1) = k + 1 by omega, List.range_succ]
    · rw [if_neg (by simpa using h), show min n k = min n (k + 1) by omega, List.append_nil]

/-- The places of the slots that are taken of spans. -/
def fromU (m : List Sn) (F : Nat → Nat → Bool) (l : List Nat) : List Nat := l.flatMap (fun i => (lsN (F i) (sn m i).sl).map (sn m i).at)
def fromL (c : Nat) (m : List Sn) (F : Nat → Nat → Bool) : List Nat := fromU m F (ownL c m)
/-- The place of the j-th slot of a class's spans. -/
def toJ (m : List Sn) (own : List Nat) (sl j : Nat) : Nat := (sn m (own.getD (j / sl) 0)).at (j % sl)
/-- What comes to another place: a move. -/
def mvIf (a b z : Nat) : List Mv := if a = b then [] else [⟨a, b, z⟩]
/-- The moves of the first j slots. -/
def mv1U (m : List Sn) (own frm : List Nat) (sl z : Nat) : Nat → List Mv
  | 0 => []
  | j + 1 => mv1U m own frm sl z j ++ mvIf (frm.getD j 0) (toJ m own sl j) z
def updF (F : Nat → Nat → Bool) (i : Nat) (f : Nat → Bool) : Nat → Nat → Bool := fun k => if k = i then f else F k
def clrF (F : Nat → Nat → Bool) (l : List Nat) : Nat → Nat → Bool := fun i => if i ∈ l then fun _ => false else F i
/-- The first j slots taken. -/
def fillF (own : List Nat) (sl : Nat) (F : Nat → Nat → Bool) : Nat → Nat → Nat → Bool
  | 0 => F
  | j + 1 => updF (fillF own sl F j) (own.getD (j / sl) 0) (put (fillF own sl F j (own.getD (j / sl) 0)) (j % sl) true)
def clSl (c : Nat) : Nat := slN (c : Int)
def clZ (c : Nat) : Nat := (sizeI (c : Int)).toNat
/-- A class gathered: what is taken then, and its moves. -/
def gathF (c : Nat) (m : List Sn) (F : Nat → Nat → Bool) : Nat → Nat → Bool := fillF (ownL c m) (clSl c) (clrF F (ownL c m)) (fromL c m F).length
def gathV (c : Nat) (m : List Sn) (F : Nat → Nat → Bool) : List Mv := mv1U m (ownL c m) (fromL c m F) (clSl c) (clZ c) (fromL c m F).length
/-- The first c classes gathered. -/
def clsF (m : List Sn) (F : Nat → Nat → Bool) : Nat → Nat → Nat → Bool
  | 0 => F
  | c + 1 => gathF c m (clsF m F c)
def clsV (m : List Sn) (F : Nat → Nat → Bool) : Nat → List Mv
  | 0 => []
  | c + 1 => clsV m F c ++ gathV c m (clsF m F c)
/-- A span that is told. -/
structure Td where
  (p c s : Int) (l : List Int)
/-- Has a span slots that are taken? -/
def hasS (m : List Sn) (F : Nat → Nat → Bool) (i : Nat) : Bool := decide (cnt (F i) (sn m i).sl ≠ 0)
/-- The page behind the first k spans that have. -/
def endU (m : List Sn) (F : Nat → Nat → Bool) : Nat → Nat
  | 0 => 0
  | k + 1 => endU m F k + if hasS m F k then (sn m k).k else 0
def tellOne (m : List Sn) (F : Nat → Nat → Bool) (k e : Nat) : Td := ⟨(e : Int), ((sn m k).cl : Int), ((sn m k).bts : Int), lsL (F k) (sn m k).sl⟩
def toldU (m : List Sn) (F : Nat → Nat → Bool) : Nat → List Td
  | 0 => []
  | k + 1 => toldU m F k ++ if hasS m F k then [tellOne m F k (endU m F k)] else []
def mv2U (m : List Sn) (F : Nat → Nat → Bool) : Nat → List Mv
  | 0 => []
  | k + 1 => mv2U m F k ++ if hasS m F k then mvIf (256 * (sn m k).pg) (256 * endU m F k) (256 * (sn m k).k) else []
/-- The plan. -/
def planT (m : List Sn) (F : Nat → Nat → Bool) : List Td := toldU m (clsF m F 7) m.length
def planV (m : List Sn) (F : Nat → Nat → Bool) : List Mv := clsV m F 7 ++ mv2U m (clsF m F 7) m.length
end Go.Proofs.YtbnmbkohmmiamaaDoor
