/- Plain mathematics of layer 19: sectors of a chain. -/
import Derived.Test.YtgmmgklcndnehaaDoorGzAA
namespace Go.Proofs.YtgmmgklcndnehaaDoor
open Go.RowKit
set_option linter.unusedVariables false
set_option maxRecDepth 4000

/-- How many sectors so many bytes need. -/
def cntC (n : Nat) : Nat := (n + 55) / 56
theorem cntC_lt {n i : Nat} : i < cntC n ↔ 56 * i < n := by unfold cntC; omega
theorem cntC_add (n : Nat) : cntC (n + 56) = cntC n + 1 := by unfold cntC; omega

/-- The i-th piece of bytes. -/
def pcC (b : List Int) (i : Nat) : List Int := (b.drop (56 * i)).take 56
theorem pcC_allB {b : List Int} (h : AllB b) (i : Nat) : AllB (pcC b i) := (h.drop _).take _
theorem pcC_len (b : List Int) (i : Nat) : (pcC b i).length = min 56 (b.length - 56 * i) := by simp [pcC]
theorem pcC_le (b : List Int) (i : Nat) : (pcC b i).length ≤ 56 := by rw [pcC_len]; omega

def zs (n : Nat) : List Int := List.replicate n 0
theorem zs_len (n : Nat) : (zs n).length = n := by simp [zs]
theorem zs_allB (n : Nat) : AllB (zs n) := by intro x hx; simp [zs] at hx; omega
/-- The first 56 bytes of a sector of a chain; with the next one's number: 60; all. -/
def padC (p : List Int) : List Int := p ++ zs (56 - p.length)
def headC (p : List Int) (nx : Int) : List Int := padC p ++ putL 4 nx
def secC (p : List Int) (nx : Int) : List Int := headC p nx ++ putL 4 (sumI (headC p nx))
theorem padC_len {p : List Int} (h : p.length ≤ 56) : (padC p).length = 56 := by simp [padC, zs_len]; omega
theorem headC_len {p : List Int} (h : p.length ≤ 56) (nx : Int) : (headC p nx).length = 60 := by simp [headC, padC_len h, putL_len]
theorem secC_len {p : List Int} (h : p.length ≤ 56) (nx : Int) : (secC p nx).length = 64 := by simp [secC, headC_len h, putL_len]
theorem padC_allB {p : List Int} (h : AllB p) : AllB (padC p) := h.append (zs_allB _)
theorem headC_allB {p : List Int} (h : AllB p) (nx : Int) : AllB (headC p nx) := (padC_allB h).append (putL_allB 4 _)
theorem secC_allB {p : List Int} (h : AllB p) (nx : Int) : AllB (secC p nx) := (headC_allB h nx).append (putL_allB 4 _)

/-- May these be the sectors of one chain? -/
def apC (l : List Int) : Bool := l.all (fun s => decide (1 ≤ s ∧ s ≤ 65534)) && decide l.Nodup
theorem apC_iff {l : List Int} : apC l = true ↔ (∀ s ∈ l, 1 ≤ s ∧ s ≤ 65534) ∧ l.Nodup := by simp [apC]
theorem apC_false_range {l : List Int} {s : Int} (h : s ∈ l) (hs : ¬ (1 ≤ s ∧ s ≤ 65534)) : apC l = false := by
  cases e : apC l
  · rfl
  · exact absurd ((apC_iff.1 e).1 s h) hs
theorem apC_false_twice {l : List Int} {i k : Nat} (hi : i < l.length) (hk : k < i) (e : l[k]'(Nat.lt_trans hk hi) = l[i]) : apC l = false := by
  cases e' : apC l
  · rfl
  · have := (List.pairwise_iff_getElem.1 (apC_iff.1 e').2) k i (Nat.lt_trans hk hi) hi hk
    exact absurd e this

/-- The number of the sector behind the i-th one. -/
def nxC (l : List Int) (i : Nat) : Int := l.getD (i + 1) 0
/-- What is to be written of bytes into sectors. -/
def wrC (b : List Int) (l : List Int) : List (Int × List Int) := (List.range l.length).map fun i => (l.getD i 0, secC (pcC b i) (nxC l i))
theorem wrC_len (b l : List Int) : (wrC b l).length = l.length := by simp [wrC]
theorem wrC_at (b l : List Int) (i : Nat) (h : i < (wrC b l).length) : (wrC b l)[i] = (l.getD i 0, secC (pcC b i) (nxC l i)) := by simp [wrC]
/-- Lay's error. -/
def layEC (n : Nat) (l : List Int) : Int := if 65542 < n then 6 else if l.length = cntC n ∧ apC l = true then 0 else 2

/-- What stands in a sector: is its sum right; the next one's number; are the bytes behind so many noughts. -/
def sumOkC (b : List Int) : Bool := decide (getL (b.drop 60) = sumI (b.take 60))
def nextC (b : List Int) : Int := getL ((b.take 60).drop 56)
def endOkC (b : List Int) (left : Nat) : Bool := decide (nextC b = 0) && ((b.take 56).drop left).all (fun c => decide (c = 0))

/-- Which error is met at a sector (0: none). -/
def secE (d : Dk) (seen : List Int) (s : Int) (left : Nat) : Int :=
  if s ∈ seen ∨ ¬ (1 ≤ s ∧ s ≤ (d.n : Int) - 2) then 4
  else if d.down = true then 14
  else if sumOkC (readL d s) = false then 5
  else if left ≤ 56 ∧ endOkC (readL d s) left = false then 4 else 0

/-- What is read, sector for sector: bytes, sectors, the error and where it was met. -/
def rdG (d : Dk) : Nat → List Int → List Int → Int → Nat → List Int × List Int × Int × Int
  | 0, _, _, _, _ => ([], [], 0, -1)
  | f + 1, bs, ss, s, left =>
    if left = 0 then (bs, ss, 0, -1)
    else if secE d ss s left ≠ 0 then ([], [], secE d ss s left, s)
    else rdG d f (bs ++ (readL d s).take (min left 56)) (ss ++ [s]) (nextC (readL d s)) (left - 56)
theorem rdG_end (d : Dk) (f : Nat) (bs ss : List Int) (s : Int) : rdG d (f + 1) bs ss s 0 = (bs, ss, 0, -1) := by simp [rdG]
theorem rdG_bad {d : Dk} {f : Nat} {bs ss : List Int} {s : Int} {left : Nat} (h : left ≠ 0) (he : secE d ss s left ≠ 0) : rdG d (f + 1) bs ss s left = ([], [], secE d ss s left, s) := by simp [rdG, h, he]
theorem rdG_go {d : Dk} {f : Nat} {bs ss : List Int} {s : Int} {left : Nat} (h : left ≠ 0) (he : secE d ss s left = 0) : rdG d (f + 1) bs ss s left = rdG d f (bs ++ (readL d s).take (min left 56)) (ss ++ [s]) (nextC (readL d s)) (left - 56) := by simp [rdG, h, he]
def rdC (d : Dk) (first n : Int) : List Int × List Int × Int × Int := if 1 ≤ n ∧ n ≤ 65542 then rdG d (cntC n.toNat + 1) [] [] first n.toNat else ([], [], 2, -1)
theorem secE_zero {d : Dk} {ss : List Int} {s : Int} {left : Nat} (h : secE d ss s left = 0) : ¬ s ∈ ss ∧ 1 ≤ s ∧ s ≤ (d.n : Int) - 2 ∧ d.down = false ∧ sumOkC (readL d s) = true ∧ (left ≤ 56 → endOkC (readL d s) left = true) := by
  unfold secE at h
  split at h
  · cases h
  · rename_i h1
    split at h
    · cases h
    · rename_i h2
      split at h
      · cases h
      · rename_i h3
        split at h
        · cases h
        · rename_i h4
          refine ⟨fun q => h1 (.inl q), ?_, ?_, by simpa using h2, by simpa using h3, fun hl => ?_⟩
          · have := fun q => h1 (.inr q); omega
          · have := fun q => h1 (.inr q); omega
          · cases e : endOkC (readL d s) left
            · exact absurd ⟨hl, e⟩ h4
            · rfl
theorem closed_of {d : Dk} {s : Int} (h1 : 1 ≤ s) (h2 : s ≤ (d.n : Int) - 2) (hd : d.down = false) : closedE d s = 0 := closedE_zero.2 ⟨hd, by omega, by omega⟩
theorem nextC_bd {b : List Int} (h : AllB b) : 0 ≤ nextC b ∧ nextC b < 4294967296 := by
  have hb : AllB ((b.take 60).drop 56) := (h.take _).drop _
  have h0 := getL_nonneg _ hb
  have h1 := getL_lt _ hb
  have h2 : ((b.take 60).drop 56).length ≤ 4 := by simp; omega
  have h3 : (256 : Int) ^ ((b.take 60).drop 56).length ≤ 256 ^ 4 := p256_mono _ _ h2
  unfold nextC
  exact ⟨h0, Int.lt_of_lt_of_le h1 h3⟩

/-! What is laid is read. -/
theorem secC_take60 {p : List Int} (h : p.length ≤ 56) (nx : Int) : (secC p nx).take 60 = headC p nx := List.take_left' (headC_len h nx)
theorem secC_drop60 {p : List Int} (h : p.length ≤ 56) (nx : Int) : (secC p nx).drop 60 = putL 4 (sumI (headC p nx)) := List.drop_left' (headC_len h nx)
theorem secC_sum {p : List Int} (hb : AllB p) (h : p.length ≤ 56) (nx : Int) : sumOkC (secC p nx) = true := by
  unfold sumOkC
  rw [secC_take60 h, secC_drop60 h]
  obtain ⟨s0, s1⟩ := sumI_bd (headC_allB hb nx)
  exact decide_eq_true (getL_of_putL 4 _ s0 s1)
theorem secC_next {p : List Int} (h : p.length ≤ 56) (nx : Int) (h0 : 0 ≤ nx) (h1 : nx < 4294967296) : nextC (secC p nx) = nx := by
  unfold nextC
  rw [secC_take60 h, headC, List.drop_left' (padC_len h)]
  exact getL_of_putL 4 _ h0 h1
theorem secC_take {p : List Int} (h : p.length ≤ 56) (nx : Int) : (secC p nx).take 56 = padC p := by
  have : (secC p nx).take 56 = ((secC p nx).take 60).take 56 := by rw [List.take_take]; rfl
  rw [this, secC_take60 h, headC, List.take_left' (padC_len h)]
theorem secC_own {p : List Int} (h : p.length ≤ 56) (nx : Int) : (secC p nx).take p.length = p := by
  have : (secC p nx).take p.length = ((secC p nx).take 56).take p.length := by rw [List.take_take, Nat.min_eq_left h]
  rw [this, secC_take h, padC, List.take_left' rfl]
theorem secC_end {p : List Int} (h : p.length ≤ 56) : endOkC (secC p 0) p.length = true := by
  unfold endOkC
  rw [secC_next h 0 (by decide) (by decide), secC_take h, padC, List.drop_left' rfl]
  simp [zs]
end Go.Proofs.YtgmmgklcndnehaaDoor
