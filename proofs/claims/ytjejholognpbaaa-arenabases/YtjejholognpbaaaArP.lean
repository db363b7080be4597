/- Plain mathematics of layer 8: bytes from a base on, what is read, written and moved, without any program. -/
import Derived.Test.YtjejholognpbaaaNumP
namespace Go.Proofs.Ytjejholognpbaaa
open Go.RowKit
set_option linter.unusedVariables false

/-- All are bytes. -/
def AllB (l : List Int) : Prop := ∀ x ∈ l, 0 ≤ x ∧ x ≤ 255
theorem AllB.nil : AllB [] := fun x hx => by cases hx
theorem AllB.append {a b : List Int} (h : AllB a) (k : AllB b) : AllB (a ++ b) := by
  intro x hx
  rcases List.mem_append.1 hx with hx | hx
  · exact h x hx
  · exact k x hx
theorem AllB.take {a : List Int} (h : AllB a) (n : Nat) : AllB (a.take n) := fun x hx => h x (List.mem_of_mem_take hx)
theorem AllB.drop {a : List Int} (h : AllB a) (n : Nat) : AllB (a.drop n) := fun x hx => h x (List.mem_of_mem_drop hx)
theorem AllB.zeros (n : Nat) : AllB (List.replicate n 0) := fun x hx => by rw [List.eq_of_mem_replicate hx]; omega
theorem AllB.at {a : List Int} (h : AllB a) (i : Nat) : 0 ≤ a.getD i 0 ∧ a.getD i 0 ≤ 255 := by
  by_cases hi : i < a.length
  · have := h a[i] (List.getElem_mem hi)
    simpa [List.getD, hi] using this
  · simp [List.getD, List.getElem?_eq_none (Nat.le_of_not_lt hi)]

/-- So many bytes, from this place on, lie among n. -/
def inR (n : Nat) (o k : Int) : Prop := 0 ≤ k ∧ 0 ≤ o ∧ o + k ≤ (n : Int)
instance (n : Nat) (o k : Int) : Decidable (inR n o k) := by unfold inR; infer_instance

/-- The error's number. -/
def errR (n : Nat) (o k : Int) : Int := if inR n o k then 0 else 10
/-- What is read. -/
def readR (l : List Int) (o k : Int) : List Int := if inR l.length o k then (l.drop o.toNat).take k.toNat else []
/-- What lies there behind bytes laid over it. -/
def overR (l : List Int) (o : Nat) (b : List Int) : List Int := l.take o ++ b ++ l.drop (o + b.length)
def writeR (l : List Int) (o : Int) (b : List Int) : List Int := if inR l.length o b.length then overR l o.toNat b else l
def zeroR (l : List Int) (o k : Int) : List Int := if inR l.length o k then overR l o.toNat (List.replicate k.toNat 0) else l
def moveR (l : List Int) (f t k : Int) : List Int := if inR l.length f k ∧ inR l.length t k then overR l t.toNat (readR l f k) else l
def moveE (n : Nat) (f t k : Int) : Int := if inR n f k ∧ inR n t k then 0 else 10

theorem errR_in {n : Nat} {o k : Int} (h : inR n o k) : errR n o k = 0 := if_pos h
theorem errR_out {n : Nat} {o k : Int} (h : ¬ inR n o k) : errR n o k = 10 := if_neg h
theorem readR_in {l : List Int} {o k : Int} (h : inR l.length o k) : readR l o k = (l.drop o.toNat).take k.toNat := if_pos h
theorem readR_out {l : List Int} {o k : Int} (h : ¬ inR l.length o k) : readR l o k = [] := if_neg h
theorem readR_len {l : List Int} {o k : Int} (h : inR l.length o k) : (readR l o k).length = k.toNat := by
  rw [readR_in h]; unfold inR at h; simp; omega
theorem overR_len {l : List Int} {o : Nat} {b : List Int} (h : o + b.length ≤ l.length) : (overR l o b).length = l.length := by
  unfold overR; simp; omega
theorem writeR_len (l : List Int) (o : Int) (b : List Int) : (writeR l o b).length = l.length := by
  unfold writeR; split
  · rename_i h; unfold inR at h; exact overR_len (by omega)
  · rfl
theorem zeroR_len (l : List Int) (o k : Int) : (zeroR l o k).length = l.length := by
  unfold zeroR; split
  · rename_i h; unfold inR at h; exact overR_len (by simp; omega)
  · rfl
theorem moveR_len (l : List Int) (f t k : Int) : (moveR l f t k).length = l.length := by
  unfold moveR; split
  · rename_i h; have := readR_len h.1; have h2 := h.2; unfold inR at h2; exact overR_len (by omega)
  · rfl
theorem AllB.read {l : List Int} (h : AllB l) (o k : Int) : AllB (readR l o k) := by
  unfold readR; split
  · exact (h.drop _).take _
  · exact AllB.nil
theorem AllB.over {l b : List Int} (h : AllB l) (hb : AllB b) (o : Nat) : AllB (overR l o b) := ((h.take _).append hb).append (h.drop _)
theorem AllB.write {l b : List Int} (h : AllB l) (hb : AllB b) (o : Int) : AllB (writeR l o b) := by
  unfold writeR; split
  · exact h.over hb _
  · exact h
theorem AllB.zero {l : List Int} (h : AllB l) (o k : Int) : AllB (zeroR l o k) := by
  unfold zeroR; split
  · exact h.over (AllB.zeros _) _
  · exact h
theorem AllB.move {l : List Int} (h : AllB l) (f t k : Int) : AllB (moveR l f t k) := by
  unfold moveR; split
  · exact h.over (h.read _ _) _
  · exact h

/-- The number of the eight bytes there. -/
def wordR (l : List Int) (o : Int) : Int := getL (readR l o 8)
theorem readR_take8 (l : List Int) (o : Int) : (readR l o 8).take 8 = readR l o 8 := by
  apply List.take_of_length_le
  unfold readR; split
  · simp; omega
  · simp

/-- Place: the page, the place in it, and whether there is one. -/
def placeR (n : Nat) (o : Int) : Int × Int × Bool := if inR n o 1 then (o / 256, o % 256, true) else (0, 0, false)
/-- A place in a page is there. -/
def hasP (n : Nat) (p o : Int) : Prop := 0 ≤ p ∧ p < ((n / 256 : Nat) : Int) ∧ 0 ≤ o ∧ o ≤ 255
instance (n : Nat) (p o : Int) : Decidable (hasP n p o) := by unfold hasP; infer_instance

/-- What a call answers, told from the base on: three numbers. -/
def ansX (l : List Int) (kd o t k pg : Int) (b : List Int) : Int × Int × Int :=
  if kd = 1 then (errR l.length o k, 0, 0)
  else if kd = 2 then (errR l.length o b.length, 0, 0)
  else if kd = 3 then (errR l.length o k, 0, 0)
  else if kd = 4 then (moveE l.length o t k, 0, 0)
  else if kd = 5 then (errR l.length o 8, 0, 0)
  else if kd = 6 then (errR l.length o 8, 0, 0)
  else if kd = 7 then (if inR l.length o 1 then (1, o / 256, o % 256) else (0, 0, 0))
  else if kd = 8 then (if hasP l.length pg k then (1, 256 * pg + k, 0) else (0, 0, 0))
  else (0, 0, 0)
/-- Its word. -/
def ansW (l : List Int) (kd o : Int) : Int := if kd = 5 then wordR l o else 0
/-- Its bytes. -/
def ansB (l : List Int) (kd o k : Int) : List Int := if kd = 1 then readR l o k else []
/-- The arena's bytes behind it. -/
def ansL (l : List Int) (kd o t k v : Int) (b : List Int) : List Int :=
  if kd = 2 then writeR l o b
  else if kd = 3 then zeroR l o k
  else if kd = 4 then moveR l o t k
  else if kd = 6 then writeR l o (putL 8 v)
  else l
theorem ansL_len (l : List Int) (kd o t k v : Int) (b : List Int) : (ansL l kd o t k v b).length = l.length := by
  unfold ansL
  split
  · exact writeR_len _ _ _
  · split
    · exact zeroR_len _ _ _
    · split
      · exact moveR_len _ _ _ _
      · split
        · exact writeR_len _ _ _
        · rfl
theorem AllB.ans {l b : List Int} (h : AllB l) (hb : AllB b) (kd o t k v : Int) : AllB (ansL l kd o t k v b) := by
  unfold ansL
  split
  · exact h.write hb _
  · split
    · exact h.zero _ _
    · split
      · exact h.move _ _ _
      · split
        · exact h.write (putL_byte 8 v) _
        · exact h
theorem AllB.ansB {l : List Int} (h : AllB l) (kd o k : Int) : AllB (ansB l kd o k) := by
  unfold Go.Proofs.Ytjejholognpbaaa.ansB; split
  · exact h.read _ _
  · exact AllB.nil
theorem ansB_len (l : List Int) (kd o k : Int) : (ansB l kd o k).length ≤ l.length := by
  unfold ansB; split
  · unfold readR; split
    · simp; omega
    · simp
  · simp
theorem getL_bd8 {l : List Int} (h : AllB l) (hl : l.length ≤ 8) : 0 ≤ getL l ∧ getL l ≤ 18446744073709551615 := by
  have h1 := getL_nonneg l h
  have h2 := getL_lt l h
  have h3 := p256_mono l.length 8 hl
  have h4 : (256 : Int) ^ 8 = 18446744073709551616 := by decide
  omega
theorem wordR_bd {l : List Int} (h : AllB l) (o : Int) : 0 ≤ wordR l o ∧ wordR l o ≤ 18446744073709551615 := by
  refine getL_bd8 (h.read _ _) ?_
  rw [← readR_take8]; exact List.length_take_le _ _
end Go.Proofs.Ytjejholognpbaaa
