/- Plain mathematics of layer 13: spans slid together. -/
import Derived.Test.YtbfamjnnlcopiaaDoorGsA
namespace Go.Proofs.YtbfamjnnlcopiaaDoor
set_option linter.unusedVariables false
set_option maxRecDepth 4000

/-- A span that stands: its first page, its class, its bytes. -/
structure Sn where
  pg : Nat
  cl : Nat
  bts : Nat
/-- How many pages it has. -/
def Sn.k (s : Sn) : Nat := pgsN (s.cl : Int) (s.bts : Int)
/-- How many slots. -/
def Sn.sl (s : Sn) : Nat := slN (s.cl : Int)
/-- How many bytes a slot has. -/
def Sn.z (s : Sn) : Nat := (szI (s.cl : Int) (s.bts : Int)).toNat
/-- Where a slot begins. -/
def Sn.at (s : Sn) (i : Nat) : Nat := 256 * s.pg + i * s.z
/-- A span that may be. -/
structure Sn.Ok (s : Sn) : Prop where
  c7 : s.cl ≤ 7
  sm : s.cl < 7 → s.bts = 0
  lg : s.cl = 7 → ofI (s.bts : Int) = 7
theorem Sn.Ok.rt0 {s : Sn} (h : s.Ok) : Rt 0 (s.cl : Int) (s.bts : Int) :=
  ⟨by omega, by have := h.c7; omega, fun e => by have := h.sm (by omega); omega, fun e => h.lg (by omega), by omega, by have := pgsN_le (s.cl : Int) (s.bts : Int); omega⟩
theorem Sn.Ok.facts {s : Sn} (h : s.Ok) : 1 ≤ s.sl ∧ s.sl ≤ 16 ∧ 16 ≤ s.z ∧ s.z ≤ 4096 ∧ 1 ≤ s.k ∧ s.k ≤ 16 ∧ s.sl * s.z ≤ 256 * s.k ∧ szI (s.cl : Int) (s.bts : Int) = (s.z : Int) := by
  obtain ⟨f1, f2, f3, f4, f5, f6, f7, f8, _, _, f16⟩ := h.rt0.facts
  have hz : szI (s.cl : Int) (s.bts : Int) = (s.z : Int) := by unfold Sn.z; omega
  rw [hz] at f4 f5 f6 f16
  refine ⟨f1, f2, by omega, by omega, f7, f8, ?_, hz⟩
  have e : ((s.sl * s.z : Nat) : Int) ≤ ((256 * s.k : Nat) : Int) := by
    rw [Int.natCast_mul, Int.natCast_mul]; exact f6
  omega
theorem Sn.at_lt {s : Sn} {i j : Nat} (h : i < j) : s.at i + s.z ≤ s.at j := by
  unfold Sn.at
  have : (i + 1) * s.z ≤ j * s.z := Nat.mul_le_mul_right _ h
  rw [Nat.add_mul, Nat.one_mul] at this
  omega
theorem Sn.Ok.at_in {s : Sn} (h : s.Ok) {i : Nat} (hi : i < s.sl) : 256 * s.pg ≤ s.at i ∧ s.at i + s.z ≤ 256 * (s.pg + s.k) := by
  obtain ⟨_, _, _, _, _, _, f, _⟩ := h.facts
  have : (i + 1) * s.z ≤ s.sl * s.z := Nat.mul_le_mul_right _ hi
  rw [Nat.add_mul, Nat.one_mul] at this
  unfold Sn.at
  omega
/-- The i-th span. -/
def sn (m : List Sn) (i : Nat) : Sn := m.getD i ⟨0, 0, 0⟩
/-- Spans that stand in P pages. -/
structure Std (P : Nat) (m : List Sn) : Prop where
  ok : ∀ i, i < m.length → (sn m i).Ok
  top : ∀ i, i < m.length → (sn m i).pg + (sn m i).k ≤ P
  rise : ∀ i j, i < j → j < m.length → (sn m i).pg + (sn m i).k ≤ (sn m j).pg
  most : P ≤ 4096

/-- A move. -/
structure Mv where
  (fr to ln : Int)
/-- The spans of a class among the first k. -/
def ownU (c : Nat) (m : List Sn) : Nat → List Nat
  | 0 => []
  | k + 1 => ownU c m k ++ if (sn m k).cl = c then [k] else []
def ownL (c : Nat) (m : List Sn) : List Nat := ownU c m m.length
theorem ownU_mem (c : Nat) (m : List Sn) (i : Nat) : ∀ k, i ∈ ownU c m k ↔ i < k ∧ (sn m i).cl = c
  | 0 => by simp [ownU]
  | k + 1 => by
    rw [ownU, List.mem_append, ownU_mem c m i k]
    by_cases h : (sn m k).cl = c
    · rw [if_pos h, List.mem_singleton]
      constructor
      · rintro (⟨h1, h2⟩ | rfl)
        · exact ⟨by omega, h2⟩
        · exact ⟨by omega, h⟩
      · rintro ⟨h1, h2⟩
        by_cases e : i = k
        · exact .inr e
        · exact .inl ⟨by omega, h2⟩
    · rw [if_neg h]
      constructor
      · rintro (⟨h1, h2⟩ | h1)
        · exact ⟨by omega, h2⟩
        · cases h1
      · rintro ⟨h1, h2⟩
        by_cases e : i = k
        · subst e; exact absurd h2 h
        · exact .inl ⟨by omega, h2⟩
theorem ownU_rises (c : Nat) (m : List Sn) : ∀ k, (ownU c m k).Pairwise (· < ·)
  | 0 => List.Pairwise.nil
  | k + 1 => by
    rw [ownU, List.pairwise_append]
    refine ⟨ownU_rises c m k, by split <;> simp, fun a ha b hb => ?_⟩
    have := ((ownU_mem c m a k).1 ha).1
    split at hb
    · simp at hb; omega
    · simp at hb
theorem ownU_len (c : Nat) (m : List Sn) : ∀ k, (ownU c m k).length ≤ k
  | 0 => Nat.le_refl _
  | k + 1 => by
    rw [ownU, List.length_append]; have := ownU_len c m k
    split <;> simp <;> omega
theorem own_lt {c : Nat} {m : List Sn} {r : Nat} (h : r < (ownL c m).length) : (ownL c m).getD r 0 < m.length ∧ (sn m ((ownL c m).getD r 0)).cl = c := by
  refine (ownU_mem c m _ _).1 ?_
  simp only [List.getD_eq_getElem?_getD, List.getElem?_eq_getElem h, Option.getD_some]
  exact List.getElem_mem h
theorem own_mono {c : Nat} {m : List Sn} {r q : Nat} (h : r < q) (hq : q < (ownL c m).length) : (ownL c m).getD r 0 < (ownL c m).getD q 0 := by
  have hr : r < (ownL c m).length := by omega
  simp only [List.getD_eq_getElem?_getD, List.getElem?_eq_getElem hr, List.getElem?_eq_getElem hq, Option.getD_some]
  exact (List.pairwise_iff_getElem.1 (ownU_rises c m m.length)) r q hr hq h
theorem own_inj {c : Nat} {m : List Sn} {r q : Nat} (hr : r < (ownL c m).length) (hq : q < (ownL c m).length) (h : (ownL c m).getD r 0 = (ownL c m).getD q 0) : r = q := by
  rcases Nat.lt_trichotomy r q with e | e | e
  · have := own_mono e hq; omega
  · exact e
  · have := own_mono e hr; omega

/-- The places below k that are in, rising. -/
def lsN (f : Nat → Bool) : Nat → List Nat
  | 0 => []
  | k + 1 => lsN f k ++ (if f k then [k] else [])
theorem lsL_N (f : Nat → Bool) : ∀ k, lsL f k = (lsN f k).map (fun (x : Nat) => (x : Int))
  | 0 => rfl
  | k + 1 => by rw [lsL, lsN, lsL_N f k, List.map_append]; split <;> rfl
theorem lsN_len (f : Nat → Bool) (k : Nat) : (lsN f k).length = cnt f k := by rw [← lsL_len, lsL_N, List.length_map]
theorem lsN_mem (f : Nat → Bool) (x : Nat) : ∀ k, x ∈ lsN f k ↔ x < k ∧ f x = true
  | 0 => by simp [lsN]
  | k + 1 => by
    rw [lsN, List.mem_append, lsN_mem f x k]
    by_cases h : f k = true
    · rw [if_pos h, List.mem_singleton]
      constructor
      · rintro (⟨h1, h2⟩ | rfl)
        · exact ⟨by omega, h2⟩
        · exact ⟨by omega, h⟩
      · rintro ⟨h1, h2⟩
        by_cases e : x = k
        · exact .inr e
        · exact .inl ⟨by omega, h2⟩
    · rw [if_neg h]
      constructor
      · rintro (⟨h1, h2⟩ | h1)
        · exact ⟨by omega, h2⟩
        · cases h1
      · rintro ⟨h1, h2⟩
        by_cases e : x = k
        · subst e; exact absurd h2 h
        · exact .inl ⟨by omega, h2⟩
theorem lsN_sub (f : Nat → Bool) : ∀ k, (lsN f k).Sublist (List.range k)
  | 0 => List.Sublist.refl _
  | k + 1 => by
    rw [lsN, List.range_succ]
    refine (lsN_sub f k).append ?_
    split
    · exact List.Sublist.refl _
    · exact List.nil_sublist _
theorem lsN_congr {f g : Nat → Bool} : ∀ {k : Nat}, (∀ i, i < k → f i = g i) → lsN f k = lsN g k
  | 0, _ => rfl
  | k + 1, h => by rw [lsN, lsN, lsN_congr (k := k) (fun i hi => h i (by omega)), h k (by omega)]
theorem lsN_upto : ∀ (n k : Nat), lsN (fun i => decide (i < n)) k = List.range (min n k)
  | n, 0 => by simp [lsN]
  | n, k + 1 => by
    rw [lsN, lsN_upto n k]
    by_cases h : k < n
    · rw [if_pos (by simpa using h), show min n k = k by omega, show min n (k + 1) = k + 1 by omega, List.range_succ]
    · rw [if_neg (by simpa using h), show min n k = min n (k + 1) by omega, List.append_nil]

/-- The places of the slots that are taken of spans. -/
def fromU (m : List Sn) (F : Nat → Nat → Bool) (l : List Nat) : List Nat := l.flatMap (fun i => (lsN (F i) (sn m i).sl).map (sn m i).at)
def fromL (c : Nat) (m : List Sn) (F : Nat → Nat → Bool) : List Nat := fromU m F (ownL c m)
/-- The place of the j-th slot of a class's spans. -/
def toJ (m : List Sn) (own : List Nat) (sl j : Nat) : Nat := (sn m (own.getD (j / sl) 0)).at (j % sl)
/-- What comes to another place: a move. -/
def mvIf (a b z : Nat) : List Mv := if a = b then [] else [⟨a, b, z⟩]
/-- The moves of the first j slots. -/
def mv1U (m : List Sn) (own frm : List Nat) (sl z : Nat) : Nat → List Mv
  | 0 => []
  | j + 1 => mv1U m own frm sl z j ++ mvIf (frm.getD j 0) (toJ m own sl j) z
def updF (F : Nat → Nat → Bool) (i : Nat) (f : Nat → Bool) : Nat → Nat → Bool := fun k => if k = i then f else F k
def clrF (F : Nat → Nat → Bool) (l : List Nat) : Nat → Nat → Bool := fun i => if i ∈ l then fun _ => false else F i
/-- The first j slots taken. -/
def fillF (own : List Nat) (sl : Nat) (F : Nat → Nat → Bool) : Nat → Nat → Nat → Bool
  | 0 => F
  | j + 1 => updF (fillF own sl F j) (own.getD (j / sl) 0) (put (fillF own sl F j (own.getD (j / sl) 0)) (j % sl) true)
def clSl (c : Nat) : Nat := slN (c : Int)
def clZ (c : Nat) : Nat := (sizeI (c : Int)).toNat
/-- A class gathered: what is taken then, and its moves. -/
def gathF (c : Nat) (m : List Sn) (F : Nat → Nat → Bool) : Nat → Nat → Bool := fillF (ownL c m) (clSl c) (clrF F (ownL c m)) (fromL c m F).length
def gathV (c : Nat) (m : List Sn) (F : Nat → Nat → Bool) : List Mv := mv1U m (ownL c m) (fromL c m F) (clSl c) (clZ c) (fromL c m F).length
/-- The first c classes gathered. -/
def clsF (m : List Sn) (F : Nat → Nat → Bool) : Nat → Nat → Nat → Bool
  | 0 => F
  | c + 1 => gathF c m (clsF m F c)
def clsV (m : List Sn) (F : Nat → Nat → Bool) : Nat → List Mv
  | 0 => []
  | c + 1 => clsV m F c ++ gathV c m (clsF m F c)
/-- A span that is told. -/
structure Td where
  (p c s : Int) (l : List Int)
/-- Has a span slots that are taken? -/
def hasS (m : List Sn) (F : Nat → Nat → Bool) (i : Nat) : Bool := decide (cnt (F i) (sn m i).sl ≠ 0)
/-- The page behind the first k spans that have. -/
def endU (m : List Sn) (F : Nat → Nat → Bool) : Nat → Nat
  | 0 => 0
  | k + 1 => endU m F k + if hasS m F k then (sn m k).k else 0
def tellOne (m : List Sn) (F : Nat → Nat → Bool) (k e : Nat) : Td := ⟨(e : Int), ((sn m k).cl : Int), ((sn m k).bts : Int), lsL (F k) (sn m k).sl⟩
def toldU (m : List Sn) (F : Nat → Nat → Bool) : Nat → List Td
  | 0 => []
  | k + 1 => toldU m F k ++ if hasS m F k then [tellOne m F k (endU m F k)] else []
def mv2U (m : List Sn) (F : Nat → Nat → Bool) : Nat → List Mv
  | 0 => []
  | k + 1 => mv2U m F k ++ if hasS m F k then mvIf (256 * (sn m k).pg) (256 * endU m F k) (256 * (sn m k).k) else []
/-- The plan. -/
def planT (m : List Sn) (F : Nat → Nat → Bool) : List Td := toldU m (clsF m F 7) m.length
def planV (m : List Sn) (F : Nat → Nat → Bool) : List Mv := clsV m F 7 ++ mv2U m (clsF m F 7) m.length
end Go.Proofs.YtbfamjnnlcopiaaDoor

/- Plain mathematics of layer 13: the j-th live slot never lies ahead of the j-th slot; what is taken behind it. -/
namespace Go.Proofs.YtbfamjnnlcopiaaDoor
set_option linter.unusedVariables false
set_option maxRecDepth 4000

theorem getD_eq {α : Type} {l : List α} {i : Nat} (d : α) (h : i < l.length) : l.getD i d = l[i] := by simp [List.getD_eq_getElem?_getD, List.getElem?_eq_getElem h]
theorem getD_mem {l : List Nat} {i : Nat} (h : i < l.length) : l.getD i 0 ∈ l := by rw [getD_eq 0 h]; exact List.getElem_mem h
/-- Rows of the same length one behind the other. -/
theorem flat_get (g : Nat → List Nat) (n : Nat) (hn : 0 < n) : ∀ (l : List Nat), (∀ i ∈ l, (g i).length = n) → ∀ j, j < l.length * n → (l.flatMap g).getD j 0 = (g (l.getD (j / n) 0)).getD (j % n) 0
  | [], _, j, h => by simp at h
  | a :: l, hl, j, h => by
    have ha := hl a (by simp)
    rw [List.flatMap_cons]
    by_cases hj : j < n
    · rw [Nat.div_eq_of_lt hj, Nat.mod_eq_of_lt hj]
      simp only [List.getD_eq_getElem?_getD, List.getElem?_append_left (show j < (g a).length by omega)]
      rfl
    · have e1 : j / n = (j - n) / n + 1 := by rw [Nat.div_eq_sub_div hn (by omega)]
      have e2 : j % n = (j - n) % n := Nat.mod_eq_sub_mod (by omega)
      have ih := flat_get g n hn l (fun i hi => hl i (by simp [hi])) (j - n) (by rw [List.length_cons, Nat.add_mul] at h; omega)
      rw [e1, e2]
      have e3 : (g a ++ List.flatMap g l).getD j 0 = (List.flatMap g l).getD (j - n) 0 := by
        simp only [List.getD_eq_getElem?_getD, List.getElem?_append_right (show (g a).length ≤ j by omega), ha]
      rw [e3, ih]
      simp [List.getD_eq_getElem?_getD]
theorem flat_len (g : Nat → List Nat) (n : Nat) : ∀ (l : List Nat), (∀ i ∈ l, (g i).length = n) → (l.flatMap g).length = l.length * n
  | [], _ => by simp
  | a :: l, hl => by
    rw [List.flatMap_cons, List.length_append, flat_len g n l (fun i hi => hl i (by simp [hi])), hl a (by simp), List.length_cons, Nat.add_mul]
    omega
theorem flat_sub (g h : Nat → List Nat) : ∀ (l : List Nat), (∀ i ∈ l, (g i).Sublist (h i)) → (l.flatMap g).Sublist (l.flatMap h)
  | [], _ => List.Sublist.refl _
  | a :: l, hl => by
    rw [List.flatMap_cons, List.flatMap_cons]
    exact (hl a (by simp)).append (flat_sub g h l (fun i hi => hl i (by simp [hi])))
/-- Of a row that rises, what is left of it: no entry lies ahead of the one at its place. -/
theorem sub_ge {l1 l2 : List Nat} (h : l1.Sublist l2) : l2.Pairwise (· < ·) → ∀ j, j < l1.length → l2.getD j 0 ≤ l1.getD j 0 := by
  induction h with
  | slnil => intro _ j hj; simp at hj
  | @cons l1 l2 a hs ih =>
    intro hp j hj
    obtain ⟨p1, p2⟩ := List.pairwise_cons.1 hp
    have hl := hs.length_le
    cases j with
    | zero =>
      have := p1 _ (hs.subset (getD_mem hj))
      simp only [List.getD_cons_zero]; omega
    | succ j =>
      have h1 := ih p2 (j + 1) hj
      have h2 := (List.pairwise_iff_getElem.1 p2) j (j + 1) (by omega) (by omega) (by omega)
      simp only [List.getD_cons_succ]
      rw [getD_eq 0 (by omega)] at h1
      rw [getD_eq 0 (by omega)]
      omega
  | @cons_cons l1 l2 a hs ih =>
    intro hp j hj
    obtain ⟨p1, p2⟩ := List.pairwise_cons.1 hp
    cases j with
    | zero => simp
    | succ j =>
      simp only [List.getD_cons_succ]
      exact ih p2 j (by simpa using hj)

/-- All slots of spans. -/
def slotPl (m : List Sn) (l : List Nat) : List Nat := l.flatMap (fun i => (List.range (sn m i).sl).map (sn m i).at)
theorem from_sub (m : List Sn) (F : Nat → Nat → Bool) (l : List Nat) : (fromU m F l).Sublist (slotPl m l) :=
  flat_sub _ _ l (fun i _ => (lsN_sub (F i) (sn m i).sl).map _)
theorem clSl_eq {m : List Sn} {c i : Nat} (h : (sn m i).cl = c) : (sn m i).sl = clSl c := by unfold Sn.sl clSl; rw [h]
theorem clZ_eq {m : List Sn} {c i : Nat} (h : (sn m i).cl = c) (hc : c < 7) : (sn m i).z = clZ c := by
  unfold Sn.z clZ szI; rw [h, if_neg (by omega)]
theorem clSl_pos (c : Nat) (hc : c ≤ 7) : 1 ≤ clSl c ∧ clSl c ≤ 16 := by
  rcases h : c with _ | _ | _ | _ | _ | _ | _ | _ | c
  iterate 8 · decide
  · omega
theorem clZ_pos (c : Nat) (hc : c < 7) : 16 ≤ clZ c ∧ clZ c ≤ 128 ∧ clSl c * clZ c ≤ 256 := by
  rcases h : c with _ | _ | _ | _ | _ | _ | _ | c
  iterate 7 · decide
  · omega
theorem sizeI_Z (c : Nat) (hc : c < 7) : sizeI (c : Int) = (clZ c : Int) := by
  rcases h : c with _ | _ | _ | _ | _ | _ | _ | c
  iterate 7 · decide
  · omega
theorem slotPl_rises {P : Nat} {m : List Sn} (h : Std P m) (z : Nat) : ∀ (l : List Nat), l.Pairwise (· < ·) → (∀ i ∈ l, i < m.length ∧ (sn m i).z = z) → (slotPl m l).Pairwise (fun a b => a + z ≤ b)
  | [], _, _ => List.Pairwise.nil
  | a :: l, hp, hl => by
    obtain ⟨p1, p2⟩ := List.pairwise_cons.1 hp
    obtain ⟨ha, hz⟩ := hl a (by simp)
    unfold slotPl
    rw [List.flatMap_cons, List.pairwise_append]
    refine ⟨?_, slotPl_rises h z l p2 (fun i hi => hl i (by simp [hi])), fun x hx y hy => ?_⟩
    · rw [List.pairwise_map]
      refine List.Pairwise.imp ?_ (List.pairwise_lt_range (n := (sn m a).sl))
      intro i j hij
      rw [← hz]; exact Sn.at_lt hij
    · obtain ⟨i, hi, rfl⟩ := List.mem_map.1 hx
      obtain ⟨b, hb, hy⟩ := List.mem_flatMap.1 hy
      obtain ⟨j, hj, rfl⟩ := List.mem_map.1 hy
      have k1 := ((h.ok a ha).at_in (List.mem_range.1 hi)).2
      have hbl := hl b (by simp [hb])
      have k2 := ((h.ok b hbl.1).at_in (List.mem_range.1 hj)).1
      have k3 := h.rise a b (p1 b hb) hbl.1
      rw [hz] at k1
      omega
/-- What is so of a small class's slots. -/
theorem own_all {c : Nat} {m : List Sn} : ∀ i ∈ ownL c m, i < m.length ∧ (sn m i).cl = c := fun i hi => (ownU_mem c m i _).1 hi
theorem slots_get {c : Nat} {m : List Sn} (hc : c ≤ 7) (j : Nat) (hj : j < (ownL c m).length * clSl c) : (slotPl m (ownL c m)).getD j 0 = toJ m (ownL c m) (clSl c) j := by
  have hs := (clSl_pos c hc).1
  unfold slotPl toJ
  rw [flat_get _ (clSl c) hs _ (fun i hi => by rw [List.length_map, List.length_range]; exact clSl_eq (own_all i hi).2) j hj]
  have hr : j / clSl c < (ownL c m).length := Nat.div_lt_of_lt_mul (by rw [Nat.mul_comm]; exact hj)
  have hm : j % clSl c < (sn m ((ownL c m).getD (j / clSl c) 0)).sl := by rw [clSl_eq (own_lt hr).2]; exact Nat.mod_lt _ hs
  rw [getD_eq 0 (by rw [List.length_map, List.length_range]; exact hm)]
  simp
theorem slots_len {c : Nat} {m : List Sn} : (slotPl m (ownL c m)).length = (ownL c m).length * clSl c :=
  flat_len _ _ _ (fun i hi => by rw [List.length_map, List.length_range]; exact clSl_eq (own_all i hi).2)
theorem from_len {c : Nat} {m : List Sn} (F : Nat → Nat → Bool) : (fromL c m F).length ≤ (ownL c m).length * clSl c := by
  rw [← slots_len]; exact (from_sub m F _).length_le
theorem slots_rise {P c : Nat} {m : List Sn} (h : Std P m) (hc : c < 7) : (slotPl m (ownL c m)).Pairwise (fun a b => a + clZ c ≤ b) :=
  slotPl_rises h (clZ c) _ (ownU_rises c m _) (fun i hi => ⟨(own_all i hi).1, clZ_eq (own_all i hi).2 hc⟩)
theorem slots_lt {P c : Nat} {m : List Sn} (h : Std P m) (hc : c < 7) : (slotPl m (ownL c m)).Pairwise (· < ·) :=
  (slots_rise h hc).imp (fun {a b} k => by have := (clZ_pos c hc).1; omega)
/-- A slot comes downwards. -/
theorem to_le {P c : Nat} {m : List Sn} (h : Std P m) (hc : c < 7) (F : Nat → Nat → Bool) (j : Nat) (hj : j < (fromL c m F).length) : toJ m (ownL c m) (clSl c) j ≤ (fromL c m F).getD j 0 := by
  rw [← slots_get (by omega) j (by have := from_len (c := c) (m := m) F; omega)]
  exact sub_ge (from_sub m F _) (slots_lt h hc) j hj

/-- What is taken behind j slots. -/
theorem fill_else {own : List Nat} {sl : Nat} {F : Nat → Nat → Bool} {i : Nat} (hs : 0 < sl) (hi : i ∉ own) : ∀ j, j ≤ own.length * sl → fillF own sl F j i = F i
  | 0, _ => rfl
  | j + 1, h => by
    have hq : j / sl < own.length := Nat.div_lt_of_lt_mul (by rw [Nat.mul_comm]; omega)
    rw [fillF, updF, if_neg (fun e => hi (by rw [e]; exact getD_mem hq))]
    exact fill_else hs hi j (by omega)
theorem fill_at {own : List Nat} {sl : Nat} {F : Nat → Nat → Bool} (hs : 0 < sl) (hinj : ∀ r q, r < own.length → q < own.length → own.getD r 0 = own.getD q 0 → r = q) (r : Nat) (hr : r < own.length) : ∀ j, j ≤ own.length * sl → fillF own sl (clrF F own) j (own.getD r 0) = fun x => decide (x < sl ∧ r * sl + x < j)
  | 0, _ => by
    rw [fillF, clrF, if_pos (getD_mem hr)]
    funext x; simp
  | j + 1, h => by
    have ih := fill_at (F := F) hs hinj r hr j (by omega)
    have hq : j / sl < own.length := Nat.div_lt_of_lt_mul (by rw [Nat.mul_comm]; omega)
    have hm : j % sl < sl := Nat.mod_lt _ hs
    have hd : j = j / sl * sl + j % sl := by have := Nat.div_add_mod j sl; rw [Nat.mul_comm] at this; omega
    obtain ⟨q, hqe⟩ : ∃ q, j / sl = q := ⟨_, rfl⟩
    obtain ⟨y, hye⟩ : ∃ y, j % sl = y := ⟨_, rfl⟩
    rw [fillF, hqe, hye]
    rw [hqe] at hq hd
    rw [hye] at hm hd
    by_cases e : r = q
    · subst e
      rw [updF, if_pos rfl, ih]
      funext x
      unfold put
      by_cases ex : x = y
      · rw [if_pos ex]; symm; exact decide_eq_true ⟨by omega, by omega⟩
      · rw [if_neg ex]
        show decide _ = decide _
        congr 1
        apply propext
        constructor
        · rintro ⟨a, b⟩; exact ⟨a, by omega⟩
        · rintro ⟨a, b⟩; exact ⟨a, by omega⟩
    · rw [updF, if_neg (fun k => e (hinj r q hr hq k)), ih]
      funext x
      congr 1
      apply propext
      constructor
      · rintro ⟨a, b⟩; exact ⟨a, by omega⟩
      · rintro ⟨a, b⟩
        refine ⟨a, ?_⟩
        rcases Nat.lt_or_gt_of_ne e with k | k
        · have : (r + 1) * sl ≤ q * sl := Nat.mul_le_mul_right _ k
          rw [Nat.add_mul, Nat.one_mul] at this
          omega
        · have : (q + 1) * sl ≤ r * sl := Nat.mul_le_mul_right _ k
          rw [Nat.add_mul, Nat.one_mul] at this
          omega
theorem gath_at {c : Nat} {m : List Sn} {F : Nat → Nat → Bool} (hc : c ≤ 7) (r : Nat) (hr : r < (ownL c m).length) : gathF c m F ((ownL c m).getD r 0) = fun x => decide (x < clSl c ∧ r * clSl c + x < (fromL c m F).length) :=
  fill_at (clSl_pos c hc).1 (fun r q h1 h2 h3 => own_inj h1 h2 h3) r hr _ (from_len F)
theorem gath_else {c : Nat} {m : List Sn} {F : Nat → Nat → Bool} (hc : c ≤ 7) {i : Nat} (hi : i < m.length) (h : (sn m i).cl ≠ c) : gathF c m F i = F i := by
  unfold gathF
  have hn : i ∉ ownL c m := fun k => h (own_all i k).2
  rw [fill_else (clSl_pos c hc).1 hn _ (from_len F), clrF, if_neg hn]
/-- A class that was not gathered yet. -/
theorem cls_else {m : List Sn} {F : Nat → Nat → Bool} {i : Nat} (hi : i < m.length) : ∀ c, c ≤ 7 → c ≤ (sn m i).cl → clsF m F c i = F i
  | 0, _, _ => rfl
  | c + 1, h7, h => by rw [clsF, gath_else (by omega) hi (by omega), cls_else hi c (by omega) (by omega)]
theorem from_congr {m : List Sn} {F G : Nat → Nat → Bool} : ∀ (l : List Nat), (∀ i ∈ l, F i = G i) → fromU m F l = fromU m G l
  | [], _ => rfl
  | a :: l, h => by
    have := from_congr (m := m) l (fun i hi => h i (by simp [hi]))
    unfold fromU at this ⊢
    rw [List.flatMap_cons, List.flatMap_cons, this, h a (by simp)]
theorem cls_from {m : List Sn} {F : Nat → Nat → Bool} {c : Nat} (hc : c ≤ 7) : fromL c m (clsF m F c) = fromL c m F :=
  from_congr _ (fun i hi => cls_else (own_all i hi).1 c hc (by rw [(own_all i hi).2]; exact Nat.le_refl _))
/-- A class that was gathered. -/
theorem cls_at {m : List Sn} {F : Nat → Nat → Bool} {c : Nat} (hc : c < 7) (r : Nat) (hr : r < (ownL c m).length) : ∀ d, c < d → d ≤ 7 → clsF m F d ((ownL c m).getD r 0) = fun x => decide (x < clSl c ∧ r * clSl c + x < (fromL c m F).length)
  | d + 1, h, h7 => by
    rw [clsF]
    by_cases e : c = d
    · subst e
      rw [gath_at (by omega) r hr, cls_from (by omega)]
    · rw [gath_else (by omega) (own_lt hr).1 (by rw [(own_lt hr).2]; exact e), cls_at hc r hr d (by omega) (by omega)]
theorem cls_large {m : List Sn} {F : Nat → Nat → Bool} {i : Nat} (hi : i < m.length) (h : (sn m i).cl = 7) : clsF m F 7 i = F i := cls_else hi 7 (Nat.le_refl _) (by omega)
/-- Each span of a class is one of its row. -/
theorem own_has {c : Nat} {m : List Sn} {i : Nat} (hi : i < m.length) (h : (sn m i).cl = c) : ∃ r, r < (ownL c m).length ∧ (ownL c m).getD r 0 = i := by
  obtain ⟨r, hr, e⟩ := List.getElem_of_mem ((ownU_mem c m i m.length).2 ⟨hi, h⟩)
  exact ⟨r, hr, by rw [show (ownL c m).getD r 0 = (ownL c m)[r]'hr from getD_eq 0 hr]; exact e⟩
/-- Spans come downwards. -/
theorem end_le {P : Nat} {m : List Sn} (h : Std P m) (F : Nat → Nat → Bool) : ∀ k, k ≤ m.length → (∀ i, i < m.length → k ≤ i → endU m F k ≤ (sn m i).pg) ∧ endU m F k ≤ P
  | 0, _ => ⟨fun i _ _ => Nat.zero_le _, Nat.zero_le _⟩
  | k + 1, hk => by
    obtain ⟨h1, h2⟩ := end_le h F k (by omega)
    have h3 := h1 k (by omega) (Nat.le_refl _)
    have h4 := h.top k (by omega)
    have : endU m F (k + 1) ≤ (sn m k).pg + (sn m k).k := by rw [endU]; split <;> omega
    exact ⟨fun i hi hki => by have := h.rise k i (by omega) hi; omega, by omega⟩
theorem end_mono (m : List Sn) (F : Nat → Nat → Bool) {a b : Nat} (h : a ≤ b) : endU m F a ≤ endU m F b := by
  induction b with
  | zero => obtain rfl : a = 0 := by omega
            exact Nat.le_refl _
  | succ b ih =>
    rcases Nat.lt_or_eq_of_le h with k | rfl
    · have := ih (by omega); rw [endU]; omega
    · exact Nat.le_refl _
end Go.Proofs.YtbfamjnnlcopiaaDoor
