/- Plain mathematics of layer 9: a kind as a number and a list, without any program. -/
import Derived.Test.YtgpkiajakokjmaaNumP3
namespace Go.Proofs.Ytgpkiajakokjmaa
open Go.RowKit
set_option linter.unusedVariables false
set_option maxRecDepth 4000

/-- All are bytes. -/
def AllB (l : List Int) : Prop := ∀ x ∈ l, 0 ≤ x ∧ x ≤ 255
theorem AllB.nil : AllB [] := fun x hx => by cases hx
theorem AllB.append {a b : List Int} (h : AllB a) (k : AllB b) : AllB (a ++ b) := by
  intro x hx
  rcases List.mem_append.1 hx with hx | hx
  · exact h x hx
  · exact k x hx
theorem AllB.take {a : List Int} (h : AllB a) (n : Nat) : AllB (a.take n) := fun x hx => h x (List.mem_of_mem_take hx)
theorem AllB.drop {a : List Int} (h : AllB a) (n : Nat) : AllB (a.drop n) := fun x hx => h x (List.mem_of_mem_drop hx)
theorem AllB.right {a b : List Int} (h : AllB (a ++ b)) : AllB b := fun x hx => h x (List.mem_append_right _ hx)
theorem AllB.left {a b : List Int} (h : AllB (a ++ b)) : AllB a := fun x hx => h x (List.mem_append_left _ hx)
/-- All are numbers of the machine. -/
def AllI (l : List Int) : Prop := ∀ x ∈ l, -9223372036854775808 ≤ x ∧ x ≤ 9223372036854775807

theorem drop_getD (l : List Int) (k : Nat) (h : k < l.length) : l.drop k = l.getD k 0 :: l.drop (k + 1) := by
  rw [List.drop_eq_getElem_cons h]; simp [List.getD, h]

/-- The pointer fields stand where they may, the first place for one being f. -/
def placedB (s : Int) : Int → List Int → Bool
  | _, [] => true
  | f, p :: l => decide (f ≤ p ∧ p ≤ s - 8 ∧ p % 8 = 0) && placedB s (p + 8) l
theorem placed_step (s f : Int) (l : List Int) (k : Nat) (h : k < l.length) : placedB s f (l.drop k) = (decide (f ≤ l.getD k 0 ∧ l.getD k 0 ≤ s - 8 ∧ l.getD k 0 % 8 = 0) && placedB s (l.getD k 0 + 8) (l.drop (k + 1))) := by
  rw [drop_getD l k h, placedB]
theorem placed_end (s f : Int) (l : List Int) (k : Nat) (h : l.length ≤ k) : placedB s f (l.drop k) = true := by
  rw [List.drop_eq_nil_of_le h, placedB]

/-- What is wrong with a kind. -/
def checkK (s : Int) (ps : List Int) : Int := if s < 1 ∨ 4096 < s then 2 else if 16 < ps.length then 6 else if placedB s 0 ps = true then 0 else 11
def rightK (s : Int) (ps : List Int) : Prop := 1 ≤ s ∧ s ≤ 4096 ∧ ps.length ≤ 16 ∧ placedB s 0 ps = true
instance (s : Int) (ps : List Int) : Decidable (rightK s ps) := by unfold rightK; infer_instance
theorem check_zero {s : Int} {ps : List Int} : checkK s ps = 0 ↔ rightK s ps := by
  unfold checkK rightK
  split
  · constructor <;> intro h <;> omega
  · split
    · constructor <;> intro h <;> omega
    · split
      · rename_i h; exact ⟨fun _ => ⟨by omega, by omega, by omega, h⟩, fun _ => rfl⟩
      · rename_i h; exact ⟨fun h => by omega, fun h' => absurd h'.2.2.2 h⟩
theorem check_range (s : Int) (ps : List Int) : 0 ≤ checkK s ps ∧ checkK s ps ≤ 11 := by
  unfold checkK; split
  · omega
  · split
    · omega
    · split <;> omega
theorem check_two {s : Int} {ps : List Int} (h : s < 1 ∨ 4096 < s) : checkK s ps = 2 := if_pos h
theorem check_six {s : Int} {ps : List Int} (h : ¬ (s < 1 ∨ 4096 < s)) (h' : 16 < ps.length) : checkK s ps = 6 := by unfold checkK; rw [if_neg h, if_pos h']
theorem check_ok {s : Int} {ps : List Int} (h : ¬ (s < 1 ∨ 4096 < s)) (h' : ¬ 16 < ps.length) (p : placedB s 0 ps = true) : checkK s ps = 0 := by unfold checkK; rw [if_neg h, if_neg h', if_pos p]
theorem check_el {s : Int} {ps : List Int} (h : ¬ (s < 1 ∨ 4096 < s)) (h' : ¬ 16 < ps.length) (p : placedB s 0 ps = false) : checkK s ps = 11 := by unfold checkK; rw [if_neg h, if_neg h', if_neg (by rw [p]; decide)]

/-- The first place behind the field ahead. -/
def fromK (ps : List Int) (k : Nat) : Int := if k = 0 then 0 else ps.getD (k - 1) 0 + 8

/-- These bytes lie in the object, and in no pointer field. -/
def plainK (s : Int) (ps : List Int) (x n : Int) : Bool := decide (rightK s ps ∧ 0 ≤ x ∧ 0 ≤ n ∧ n ≤ s - x ∧ ∀ p ∈ ps, ¬ (p < x + n ∧ x < p + 8 ∧ 0 < n))
theorem placed_all (s : Int) : ∀ (l : List Int) (f : Int), 0 ≤ f → placedB s f l = true → ∀ p ∈ l, f ≤ p ∧ p ≤ s - 8 ∧ p % 8 = 0
  | [], f, _, _, p, hp => by cases hp
  | q :: l, f, hf, h, p, hp => by
    simp only [placedB, Bool.and_eq_true, decide_eq_true_eq] at h
    rcases List.mem_cons.1 hp with rfl | hp
    · exact h.1
    · have := placed_all s l (q + 8) (by omega) h.2 p hp
      omega

/-- The gaps ahead of the pointer fields, as numbers. -/
def gapsL : Int → List Int → List Int
  | _, [] => []
  | f, p :: l => varL ((p - f) / 8) ++ gapsL (p + 8) l
theorem gaps_step (f : Int) (l : List Int) (k : Nat) (h : k < l.length) : gapsL f (l.drop k) = varL ((l.getD k 0 - f) / 8) ++ gapsL (l.getD k 0 + 8) (l.drop (k + 1)) := by
  rw [drop_getD l k h, gapsL]
theorem gaps_end (f : Int) (l : List Int) (k : Nat) (h : l.length ≤ k) : gapsL f (l.drop k) = [] := by
  rw [List.drop_eq_nil_of_le h, gapsL]
def bodyK (s : Int) (ps : List Int) : List Int := varL s ++ varL (ps.length : Nat) ++ gapsL 0 ps
/-- A kind's bytes. -/
def bytesK (s : Int) (ps : List Int) : List Int := if checkK s ps = 0 then bodyK s ps else []
theorem gaps_byte (s : Int) : ∀ (l : List Int) (f : Int), 0 ≤ f → s ≤ 4096 → placedB s f l = true → AllB (gapsL f l)
  | [], _, _, _, _ => AllB.nil
  | p :: l, f, hf, hs, h => by
    simp only [placedB, Bool.and_eq_true, decide_eq_true_eq] at h
    exact AllB.append (varL_byte _ (by omega) (by omega)) (gaps_byte s l (p + 8) (by omega) hs h.2)
theorem bytes_byte (s : Int) (ps : List Int) : AllB (bytesK s ps) := by
  unfold bytesK
  split
  · rename_i h
    have h := check_zero.1 h
    have h1 := h.1
    have h2 := h.2.1
    have h3 := h.2.2.1
    exact ((show AllB _ from varL_byte s (by omega) (by omega)).append (varL_byte _ (by omega) (by omega))).append (gaps_byte s ps 0 (by omega) h2 h.2.2.2)
  · exact AllB.nil

/-! ### reading -/
/-- The fields that are read: so many of them, the first place for one being f, of these bytes, behind those of ps: all of them, what is left, the fault. -/
def fieldsK (s : Int) : Nat → Int → List Int → List Int → List Int × List Int × Int
  | 0, _, l, ps => (ps, l, 0)
  | n + 1, f, l, ps =>
    if (upS l 0 18446744073709551615).2.2 = 0 then
      if (upS l 0 18446744073709551615).1 < (s - f) / 8 then fieldsK s n (f + 8 * (upS l 0 18446744073709551615).1 + 8) (upS l 0 18446744073709551615).2.1 (ps ++ [f + 8 * (upS l 0 18446744073709551615).1])
      else ([], [], 4)
    else ([], [], (upS l 0 18446744073709551615).2.2)
/-- What a kind is read as: the size, the fields, what is left, the fault. -/
def readK (l : List Int) : Int × List Int × List Int × Int :=
  if (upS l 0 4096).2.2 = 0 then
    if (upS l 0 4096).1 = 0 then (0, [], [], 4)
    else if (upS (upS l 0 4096).2.1 0 16).2.2 = 0 then
      if (fieldsK (upS l 0 4096).1 (upS (upS l 0 4096).2.1 0 16).1.toNat 0 (upS (upS l 0 4096).2.1 0 16).2.1 []).2.2 = 0 then
        ((upS l 0 4096).1, (fieldsK (upS l 0 4096).1 (upS (upS l 0 4096).2.1 0 16).1.toNat 0 (upS (upS l 0 4096).2.1 0 16).2.1 []).1, (fieldsK (upS l 0 4096).1 (upS (upS l 0 4096).2.1 0 16).1.toNat 0 (upS (upS l 0 4096).2.1 0 16).2.1 []).2.1, 0)
      else (0, [], [], (fieldsK (upS l 0 4096).1 (upS (upS l 0 4096).2.1 0 16).1.toNat 0 (upS (upS l 0 4096).2.1 0 16).2.1 []).2.2)
    else (0, [], [], (upS (upS l 0 4096).2.1 0 16).2.2)
  else (0, [], [], (upS l 0 4096).2.2)

/-- What Upto answers without a fault ahead: a number whose bytes stand at the head, or a fault. -/
theorem up_cases (l : List Int) (most : Int) (hb : AllB l) :
    (∃ n r, upS l 0 most = (n, r, 0) ∧ 0 ≤ n ∧ n ≤ most ∧ l = varL n ++ r) ∨ ∃ e, upS l 0 most = (0, l, e) ∧ (e = 3 ∨ e = 4) := by
  have hF := rdL_facts l hb
  rcases hF with ⟨h0, h1, h2, h3, h4⟩ | ⟨h0, _, _⟩
  · by_cases hm : (rdL l).1 ≤ most
    · refine .inl ⟨_, _, by rw [upS, if_pos rfl, if_pos h0, if_pos hm], h1, hm, ?_⟩
      rw [← rdL_var l (rdL l).1 (rdL l).2.1 hb (by rw [← h0])]
      exact (List.take_append_drop _ _).symm
    · exact .inr ⟨4, by rw [upS, if_pos rfl, if_pos h0, if_neg hm], .inr rfl⟩
  · exact .inr ⟨(rdL l).2.2, by rw [upS, if_pos rfl, if_neg (by omega)], h0⟩
theorem up_back (n most : Int) (r : List Int) (h0 : 0 ≤ n) (h1 : n ≤ most) (h2 : most ≤ 18446744073709551615) : upS (varL n ++ r) 0 most = (n, r, 0) := by
  rw [upS, if_pos rfl, rdL_digs n r h0 (by omega)]
  simp only [if_true, if_pos h1]
  rw [List.drop_left]
/-- Var and Upto side by side. -/
theorem up_two (l : List Int) (most : Int) (hb : AllB l) (hm : 0 ≤ most) (hm' : most ≤ 18446744073709551615) :
    (∃ e, (e = 3 ∨ e = 4) ∧ upS l 0 18446744073709551615 = (0, l, e) ∧ upS l 0 most = (0, l, e)) ∨
    (∃ n r, 0 ≤ n ∧ n ≤ most ∧ AllB r ∧ upS l 0 18446744073709551615 = (n, r, 0) ∧ upS l 0 most = (n, r, 0)) ∨
    (∃ n r, most < n ∧ AllB r ∧ upS l 0 18446744073709551615 = (n, r, 0) ∧ upS l 0 most = (0, l, 4)) := by
  have hF := rdL_facts l hb
  rcases hF with ⟨h0, h1, h2, h3, h4⟩ | ⟨h0, _, _⟩
  · have e1 : upS l 0 18446744073709551615 = ((rdL l).1, l.drop (rdL l).2.1, 0) := by rw [upS, if_pos rfl, if_pos h0, if_pos h2]
    by_cases hm : (rdL l).1 ≤ most
    · exact .inr (.inl ⟨_, _, h1, hm, hb.drop _, e1, by rw [upS, if_pos rfl, if_pos h0, if_pos hm]⟩)
    · exact .inr (.inr ⟨_, _, by omega, hb.drop _, e1, by rw [upS, if_pos rfl, if_pos h0, if_neg hm]⟩)
  · have hne : ¬ (rdL l).2.2 = 0 := by omega
    exact .inl ⟨_, h0, by rw [upS, if_pos rfl, if_neg hne], by rw [upS, if_pos rfl, if_neg hne]⟩

theorem fields_bad {s f : Int} {n : Nat} {l ps r : List Int} {v e : Int} (h : upS l 0 18446744073709551615 = (v, r, e)) (he : e ≠ 0) : fieldsK s (n + 1) f l ps = ([], [], e) := by
  rw [fieldsK, h]; simp only []; rw [if_neg he]
theorem fields_far {s f : Int} {n : Nat} {l ps r : List Int} {v : Int} (h : upS l 0 18446744073709551615 = (v, r, 0)) (hv : (s - f) / 8 ≤ v) : fieldsK s (n + 1) f l ps = ([], [], 4) := by
  rw [fieldsK, h]; simp only [if_true]; rw [if_neg (by omega)]
theorem fields_go {s f : Int} {n : Nat} {l ps r : List Int} {v : Int} (h : upS l 0 18446744073709551615 = (v, r, 0)) (hv : v < (s - f) / 8) : fieldsK s (n + 1) f l ps = fieldsK s n (f + 8 * v + 8) r (ps ++ [f + 8 * v]) := by
  rw [fieldsK, h]; simp only [if_true]; rw [if_pos hv]

theorem fields_good (s : Int) : ∀ (n : Nat) (f : Int) (l ps qs rest : List Int), AllB l → 0 ≤ f → f % 8 = 0 → fieldsK s n f l ps = (qs, rest, 0) → ∃ ts, qs = ps ++ ts ∧ ts.length = n ∧ placedB s f ts = true ∧ l = gapsL f ts ++ rest
  | 0, f, l, ps, qs, rest, _, _, _, h => by
    simp only [fieldsK, Prod.mk.injEq] at h
    exact ⟨[], by simp [h.1], rfl, rfl, by simp [gapsL, h.2.1]⟩
  | n + 1, f, l, ps, qs, rest, hb, hf, h8, h => by
    rcases up_cases l 18446744073709551615 hb with ⟨v, r, hu, v0, v1, hl⟩ | ⟨e, hu, he⟩
    · by_cases hv : v < (s - f) / 8
      · rw [fields_go hu hv] at h
        obtain ⟨ts, h1, h2, h3, h4⟩ := fields_good s n (f + 8 * v + 8) r (ps ++ [f + 8 * v]) qs rest (by rw [hl] at hb; exact hb.right) (by omega) (by omega) h
        refine ⟨(f + 8 * v) :: ts, by rw [h1]; simp, by simp [h2], ?_, ?_⟩
        · simp only [placedB, Bool.and_eq_true, decide_eq_true_eq]
          exact ⟨by omega, h3⟩
        · rw [gapsL, show (f + 8 * v - f) / 8 = v from by omega, List.append_assoc, ← h4]
          exact hl
      · rw [fields_far hu (by omega)] at h
        simp at h
    · rw [fields_bad hu (by omega)] at h
      simp only [Prod.mk.injEq] at h
      omega
theorem fields_back (s : Int) (hs : s ≤ 4096) : ∀ (ts : List Int) (f : Int) (ps more : List Int), 0 ≤ f → f % 8 = 0 → placedB s f ts = true → fieldsK s ts.length f (gapsL f ts ++ more) ps = (ps ++ ts, more, 0)
  | [], f, ps, more, _, _, _ => by simp [fieldsK, gapsL]
  | p :: ts, f, ps, more, hf, h8, h => by
    simp only [placedB, Bool.and_eq_true, decide_eq_true_eq] at h
    rw [gapsL, List.length_cons, List.append_assoc]
    have hu := up_back ((p - f) / 8) 18446744073709551615 (gapsL (p + 8) ts ++ more) (by omega) (by omega) (by omega)
    rw [fields_go hu (by omega), show f + 8 * ((p - f) / 8) = p from by omega, fields_back s hs ts (p + 8) (ps ++ [p]) more (by omega) (by omega) h.2]
    simp

theorem read_bad1 {l r : List Int} {v e : Int} (h : upS l 0 4096 = (v, r, e)) (he : e ≠ 0) : readK l = (0, [], [], e) := by
  rw [readK, h]; simp only []; rw [if_neg he]
theorem read_zero {l r : List Int} (h : upS l 0 4096 = (0, r, 0)) : readK l = (0, [], [], 4) := by
  rw [readK, h]; simp
theorem read_bad2 {l r r' : List Int} {s v e : Int} (h : upS l 0 4096 = (s, r, 0)) (hs : s ≠ 0) (h' : upS r 0 16 = (v, r', e)) (he : e ≠ 0) : readK l = (0, [], [], e) := by
  rw [readK, h]; simp only [if_true]; rw [if_neg hs, h']; simp only []; rw [if_neg he]
theorem read_bad3 {l r r' qs rest : List Int} {s v e : Int} (h : upS l 0 4096 = (s, r, 0)) (hs : s ≠ 0) (h' : upS r 0 16 = (v, r', 0)) (h3 : fieldsK s v.toNat 0 r' [] = (qs, rest, e)) (he : e ≠ 0) : readK l = (0, [], [], e) := by
  rw [readK, h]; simp only [if_true]; rw [if_neg hs, h']; simp only [if_true]; rw [h3]; simp only []; rw [if_neg he]
theorem read_ok {l r r' qs rest : List Int} {s v : Int} (h : upS l 0 4096 = (s, r, 0)) (hs : s ≠ 0) (h' : upS r 0 16 = (v, r', 0)) (h3 : fieldsK s v.toNat 0 r' [] = (qs, rest, 0)) : readK l = (s, qs, rest, 0) := by
  rw [readK, h]; simp only [if_true]; rw [if_neg hs, h']; simp only [if_true]; rw [h3]; simp

theorem fields_err (s : Int) : ∀ (n : Nat) (f : Int) (l ps : List Int), AllB l → (fieldsK s n f l ps).2.2 = 0 ∨ fieldsK s n f l ps = ([], [], 3) ∨ fieldsK s n f l ps = ([], [], 4)
  | 0, f, l, ps, _ => .inl rfl
  | n + 1, f, l, ps, hb => by
    rcases up_cases l 18446744073709551615 hb with ⟨v, r, hu, v0, v1, hl⟩ | ⟨e, hu, he⟩
    · by_cases hv : v < (s - f) / 8
      · rw [fields_go hu hv]
        exact fields_err s n _ r _ (by rw [hl] at hb; exact hb.right)
      · rw [fields_far hu (by omega)]; exact .inr (.inr rfl)
    · rw [fields_bad hu (by omega)]
      rcases he with rfl | rfl
      · exact .inr (.inl rfl)
      · exact .inr (.inr rfl)

/-- What is read without a fault is a right kind, and its bytes are those that were read. -/
theorem read_good {l : List Int} {s e : Int} {ps rest : List Int} (hb : AllB l) (h : readK l = (s, ps, rest, e)) :
    (e = 0 ∧ checkK s ps = 0 ∧ l = bytesK s ps ++ rest) ∨ ((e = 3 ∨ e = 4) ∧ s = 0 ∧ ps = [] ∧ rest = []) := by
  rcases up_cases l 4096 hb with ⟨v, r, hu, v0, v1, hl⟩ | ⟨e', hu, he⟩
  · by_cases hv : v = 0
    · subst hv
      rw [read_zero hu] at h
      simp only [Prod.mk.injEq] at h
      exact .inr ⟨.inr h.2.2.2.symm, h.1.symm, h.2.1.symm, h.2.2.1.symm⟩
    · have hr : AllB r := by rw [hl] at hb; exact hb.right
      rcases up_cases r 16 hr with ⟨n, r', hu', n0, n1, hl'⟩ | ⟨e', hu', he⟩
      · have hr' : AllB r' := by rw [hl'] at hr; exact hr.right
        obtain ⟨qs, rs, fe, hf⟩ : ∃ qs rs fe, fieldsK v n.toNat 0 r' [] = (qs, rs, fe) := ⟨_, _, _, rfl⟩
        by_cases hfe : fe = 0
        · subst hfe
          rw [read_ok hu hv hu' hf] at h
          simp only [Prod.mk.injEq] at h
          obtain ⟨rfl, rfl, rfl, rfl⟩ := h
          obtain ⟨ts, h1, h2, h3, h4⟩ := fields_good v n.toNat 0 r' [] qs rs hr' (by omega) (by omega) hf
          rw [List.nil_append] at h1
          subst h1
          have hc : checkK v qs = 0 := check_zero.2 ⟨by omega, v1, by omega, h3⟩
          refine .inl ⟨rfl, hc, ?_⟩
          rw [bytesK, if_pos hc, bodyK, hl, hl', h4, show ((qs.length : Nat) : Int) = n from by omega]
          simp [List.append_assoc]
        · rw [read_bad3 hu hv hu' hf hfe] at h
          simp only [Prod.mk.injEq] at h
          have := fields_err v n.toNat 0 r' [] hr'
          rw [hf] at this
          simp only [Prod.mk.injEq] at this
          exact .inr ⟨by omega, h.1.symm, h.2.1.symm, h.2.2.1.symm⟩
      · rw [read_bad2 hu hv hu' (by omega)] at h
        simp only [Prod.mk.injEq] at h
        exact .inr ⟨by omega, h.1.symm, h.2.1.symm, h.2.2.1.symm⟩
  · rw [read_bad1 hu (by omega)] at h
    simp only [Prod.mk.injEq] at h
    exact .inr ⟨by omega, h.1.symm, h.2.1.symm, h.2.2.1.symm⟩
/-- What is written is read. -/
theorem read_back {s : Int} {ps : List Int} (more : List Int) (h : checkK s ps = 0) : readK (bytesK s ps ++ more) = (s, ps, more, 0) := by
  obtain ⟨h1, h2, h3, h4⟩ := check_zero.1 h
  rw [bytesK, if_pos h, bodyK, List.append_assoc, List.append_assoc]
  have e1 := up_back s 4096 (varL (ps.length : Nat) ++ (gapsL 0 ps ++ more)) (by omega) h2 (by omega)
  have e2 := up_back (ps.length : Nat) 16 (gapsL 0 ps ++ more) (by omega) (by omega) (by omega)
  have e3 := fields_back s h2 ps 0 [] more (by omega) (by omega) h4
  rw [read_ok e1 (by omega) e2 (by rw [Int.toNat_natCast]; exact e3)]
  simp
end Go.Proofs.Ytgpkiajakokjmaa
