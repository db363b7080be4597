/- Layer 17: RoP again -/
import Derived.Test.YtbfamjnnlcopiaaGreatDoorAuB
import Derived.Test.YtbfamjnnlcopiaaGreatDoorMhA
import Derived.Test.YtbfamjnnlcopiaaGreatDoorGzAI
import Derived.Test.YtbfamjnnlcopiaaGreatDoorGzAA
import Derived.RegionTactic
import Derived.ChangeAlike
import Derived.Deep.OwnRows
import Derived.OwnWalk
import Derived.Laws.AppendOwnNone
namespace Go.Proofs.YtbfamjnnlcopiaaGreatDoor
open Go.RowKit
set_option linter.unusedVariables false
set_option maxRecDepth 4000
/-- The places may stand in a table of so many bytes. -/
def rrightT (n : Int) (l : List Int) : Bool := decide (l.length ≤ 8192) && placedB (max 0 n) 0 l
theorem right_many {n : Int} {l : List Int} (h : 8192 < l.length) : rrightT n l = false := by
  rw [rrightT, decide_eq_false (by omega), Bool.false_and]
theorem right_few {n : Int} {l : List Int} (h : l.length ≤ 8192) : rrightT n l = placedB (max 0 n) 0 l := by
  rw [rrightT, decide_eq_true h, Bool.true_and]
theorem right_iff {n : Int} {l : List Int} : rrightT n l = true ↔ l.length ≤ 8192 ∧ placedB (max 0 n) 0 l = true := by
  simp [rrightT]

theorem gapsT_byte : ∀ (l : List Int) (f : Int), 0 ≤ f → placedB 65535 f l = true → AllB (gapsL f l)
  | [], _, _, _ => AllB.nil
  | p :: l, f, hf, h => by
    simp only [placedB, Bool.and_eq_true, decide_eq_true_eq] at h
    exact AllB.append (varL_byte _ (by omega) (by omega)) (gapsT_byte l (p + 8) (by omega) h.2)
def bodyT (l : List Int) : List Int := varL (l.length : Nat) ++ gapsL 0 l
/-- A table's bytes. -/
def bytesT (l : List Int) : List Int := if rrightT 65535 l = true then bodyT l else []
def errT (l : List Int) : Int := if rrightT 65535 l = true then 0 else 4
theorem right_max {l : List Int} : rrightT 65535 l = true ↔ l.length ≤ 8192 ∧ placedB 65535 0 l = true := right_iff
theorem bytesT_byte (l : List Int) : AllB (bytesT l) := by
  unfold bytesT
  split
  · rename_i h
    obtain ⟨h1, h2⟩ := right_max.1 h
    exact AllB.append (varL_byte _ (by omega) (by omega)) (gapsT_byte l 0 (by omega) h2)
  · exact AllB.nil
theorem gapsT_len : ∀ (l : List Int) (f : Int), (gapsL f l).length ≤ 10 * l.length
  | [], f => by simp [gapsL]
  | p :: l, f => by
    have := gapsT_len l (p + 8)
    have := varL_le ((p - f) / 8)
    simp only [gapsL, List.length_append, List.length_cons]
    omega
theorem bytesT_len (l : List Int) : (bytesT l).length ≤ 81930 := by
  unfold bytesT
  split
  · rename_i h
    obtain ⟨h1, h2⟩ := right_max.1 h
    have := varL_le (l.length : Nat)
    have := gapsT_len l 0
    simp only [bodyT, List.length_append]
    omega
  · simp

/-- What a table is read as: the places, what is left, the fault. -/
def readT (l : List Int) : List Int × List Int × Int :=
  if (upS l 0 8192).2.2 = 0 then fieldsK 65535 (upS l 0 8192).1.toNat 0 (upS l 0 8192).2.1 [] else ([], [], (upS l 0 8192).2.2)
theorem readT_bad {l r : List Int} {v e : Int} (h : upS l 0 8192 = (v, r, e)) (he : e ≠ 0) : readT l = ([], [], e) := by
  rw [readT, h]; simp only []; rw [if_neg he]
theorem readT_go {l r : List Int} {v : Int} (h : upS l 0 8192 = (v, r, 0)) : readT l = fieldsK 65535 v.toNat 0 r [] := by
  rw [readT, h]; simp only [if_true]
theorem fieldsT_back : ∀ (ts : List Int) (f : Int) (ps more : List Int), 0 ≤ f → f % 8 = 0 → placedB 65535 f ts = true → fieldsK 65535 ts.length f (gapsL f ts ++ more) ps = (ps ++ ts, more, 0)
  | [], f, ps, more, _, _, _ => by simp [fieldsK, gapsL]
  | p :: ts, f, ps, more, hf, h8, h => by
    simp only [placedB, Bool.and_eq_true, decide_eq_true_eq] at h
    rw [gapsL, List.length_cons, List.append_assoc]
    have hu := up_back ((p - f) / 8) 18446744073709551615 (gapsL (p + 8) ts ++ more) (by omega) (by omega) (by omega)
    rw [fields_go hu (by omega), show f + 8 * ((p - f) / 8) = p from by omega, fieldsT_back ts (p + 8) (ps ++ [p]) more (by omega) (by omega) h.2]
    simp
/-- What is read without a fault is a right table, and its bytes are those that were read. -/
theorem readT_good {l : List Int} {e : Int} {ps rest : List Int} (hb : AllB l) (h : readT l = (ps, rest, e)) :
    (e = 0 ∧ rrightT 65535 ps = true ∧ l = bytesT ps ++ rest) ∨ ((e = 3 ∨ e = 4) ∧ ps = [] ∧ rest = []) := by
  rcases up_cases l 8192 hb with ⟨v, r, hu, v0, v1, hl⟩ | ⟨e', hu, he⟩
  · have hr : AllB r := by rw [hl] at hb; exact hb.right
    rw [readT_go hu] at h
    by_cases hfe : e = 0
    · subst hfe
      obtain ⟨ts, h1, h2, h3, h4⟩ := fields_good 65535 v.toNat 0 r [] ps rest hr (by omega) (by omega) h
      rw [List.nil_append] at h1
      subst h1
      have hc : rrightT 65535 ps = true := right_max.2 ⟨by omega, h3⟩
      refine .inl ⟨rfl, hc, ?_⟩
      rw [bytesT, if_pos hc, bodyT, hl, h4, show ((ps.length : Nat) : Int) = v from by omega]
      simp [List.append_assoc]
    · have := fields_err 65535 v.toNat 0 r [] hr
      rw [h] at this
      simp only [Prod.mk.injEq] at this
      rcases this with q | q | q
      · exact absurd q hfe
      · exact .inr ⟨.inl q.2.2, q.1, q.2.1⟩
      · exact .inr ⟨.inr q.2.2, q.1, q.2.1⟩
  · rw [readT_bad hu (by omega)] at h
    simp only [Prod.mk.injEq] at h
    exact .inr ⟨by omega, h.1.symm, h.2.1.symm⟩
/-- What is written is read. -/
theorem readT_back {ps : List Int} (more : List Int) (h : rrightT 65535 ps = true) : readT (bytesT ps ++ more) = (ps, more, 0) := by
  obtain ⟨h1, h2⟩ := right_max.1 h
  rw [bytesT, if_pos h, bodyT, List.append_assoc]
  have e2 := up_back (ps.length : Nat) 8192 (gapsL 0 ps ++ more) (by omega) (by omega) (by omega)
  rw [readT_go e2, Int.toNat_natCast, fieldsT_back ps 0 [] more (by omega) (by omega) h2]
  simp

/-- The number of the eight bytes there. -/
def wordT (b : List Int) (p : Int) : Int := getL ((b.drop p.toNat).take 8)
def inT (fr n x : Int) : Prop := x = 0 ∨ (fr ≤ x ∧ x - fr < n)
instance (fr n x : Int) : Decidable (inT fr n x) := by unfold inT; infer_instance
def stepT (fr t : Int) (b o : List Int) (p : Int) : List Int := if wordT b p = 0 then o else overR o p.toNat (putL 8 (wordT b p - fr + t))
def goT (fr t : Int) (b l o : List Int) : List Int := l.foldl (stepT fr t b) o
def allT (fr n : Int) (b l : List Int) : Bool := l.all (fun p => decide (inT fr n (wordT b p)))
def argT (fr t n : Int) : Prop := goodR fr ∧ goodR t ∧ 0 ≤ n ∧ n ≤ 1048576
instance (fr t n : Int) : Decidable (argT fr t n) := by unfold argT; infer_instance
theorem goT_snoc (fr t : Int) (b l o : List Int) (p : Int) : goT fr t b (l ++ [p]) o = stepT fr t b (goT fr t b l o) p := by
  unfold goT; rw [List.foldl_append]; rfl
theorem goT_take (fr t : Int) (b l o : List Int) (k : Nat) (hk : k < l.length) : goT fr t b (l.take (k + 1)) o = stepT fr t b (goT fr t b (l.take k) o) (l.getD k 0) := by
  rw [← goT_snoc, List.take_succ_eq_append_getElem hk]; simp [List.getD, hk]
end Go.Proofs.YtbfamjnnlcopiaaGreatDoor

/- Layer 17: SetU again -/
namespace Go.Proofs.YtbfamjnnlcopiaaGreatDoor
set_option linter.unusedVariables false
set_option maxRecDepth 4000
/-- Which places the bytes say. -/
def fB (l : List Int) (i : Nat) : Bool := (l.getD (i / 8) 0).toNat.testBit (i % 8)
/-- Of these the first p. -/
def cutP (l : List Int) (p : Nat) : Nat → Bool := fun i => decide (i < p) && fB l i

theorem fB_at (l : List Int) (j k : Nat) (hk : k < 8) : fB l (8 * j + k) = (l.getD j 0).toNat.testBit k := by
  rw [fB, show (8 * j + k) / 8 = j from by omega, show (8 * j + k) % 8 = k from by omega]

theorem fB_lt (l : List Int) (i : Nat) (h : fB l i = true) : i < 8 * l.length := by
  rcases Nat.lt_or_ge (i / 8) l.length with h' | h'
  · omega
  · rw [fB, List.getD, List.getElem?_eq_none h'] at h
    simp at h

theorem cutP_all (l : List Int) : ∀ i, cutP l (8 * l.length) i = fB l i := by
  intro i
  rw [cutP]
  cases h : fB l i
  · simp
  · have := fB_lt l i h
    simp [this]

theorem cutP_zero (l : List Int) : ∀ i, false = cutP l 0 i := fun i => by simp [cutP]

theorem byte_lt (l : List Int) (h : ∀ x ∈ l, 0 ≤ x ∧ x ≤ 255) (j : Nat) : 0 ≤ l.getD j 0 ∧ l.getD j 0 ≤ 255 := by
  rcases Nat.lt_or_ge j l.length with h' | h'
  · have : l.getD j 0 ∈ l := by simp [List.getD, h']
    exact h _ this
  · simp [List.getD, List.getElem?_eq_none h']

/-- Bits of the word k / 8 where a byte is laid in. -/
theorem read_word (l : List Int) (h : ∀ x ∈ l, 0 ≤ x ∧ x ≤ 255) (k : Nat) : wd (cutP l (8 * k)) (k / 8) ||| (l.getD k 0).toNat * 2 ^ (k % 8 * 8) = wd (cutP l (8 * (k + 1))) (k / 8) := by
  have hb := byte_lt l h k
  have h1 : (l.getD k 0).toNat < 2 ^ 8 := by omega
  have h2 : (l.getD k 0).toNat * 2 ^ (k % 8 * 8) < 2 ^ 64 := by
    have : (l.getD k 0).toNat * 2 ^ (k % 8 * 8) < 2 ^ 8 * 2 ^ (k % 8 * 8) := Nat.mul_lt_mul_of_pos_right h1 (Nat.two_pow_pos _)
    rw [← Nat.pow_add] at this
    exact Nat.lt_of_lt_of_le this (Nat.pow_le_pow_right (by decide) (by omega))
  refine eq_numOf (Nat.or_lt_two_pow (numOf_lt _ 64) h2) fun t ht => ?_
  rw [Nat.testBit_or, wd_bit _ _ _ ht, Nat.testBit_mul_two_pow, cutP, cutP]
  by_cases ha : t < k % 8 * 8
  · simp [show ¬ k % 8 * 8 ≤ t by omega, show 64 * (k / 8) + t < 8 * k by omega, show 64 * (k / 8) + t < 8 * (k + 1) by omega]
  · by_cases hc : t < k % 8 * 8 + 8
    · have e := fB_at l k (t - k % 8 * 8) (by omega)
      rw [show 8 * k + (t - k % 8 * 8) = 64 * (k / 8) + t from by omega] at e
      simp [show k % 8 * 8 ≤ t by omega, show ¬ 64 * (k / 8) + t < 8 * k by omega, show 64 * (k / 8) + t < 8 * (k + 1) by omega, e]
    · have hz : (l.getD k 0).toNat.testBit (t - k % 8 * 8) = false :=
        Nat.testBit_lt_two_pow (Nat.lt_of_lt_of_le h1 (Nat.pow_le_pow_right (by decide) (by omega)))
      rw [hz]
      simp [show ¬ 64 * (k / 8) + t < 8 * k by omega, show ¬ 64 * (k / 8) + t < 8 * (k + 1) by omega]

theorem read_else (l : List Int) (k j : Nat) (h : j ≠ k / 8) : wd (cutP l (8 * (k + 1))) j = wd (cutP l (8 * k)) j := by
  refine numOf_congr fun t ht => ?_
  rw [cutP, cutP]
  congr 1
  by_cases h' : 64 * j + t < 8 * k
  · simp [h', show 64 * j + t < 8 * (k + 1) by omega]
  · simp [h', show ¬ 64 * j + t < 8 * (k + 1) by omega]

/-- Is what is left over 0? -/
theorem left_over (l : List Int) (hb : ∀ x ∈ l, 0 ≤ x ∧ x ≤ 255) (n : Nat) (hl : l.length = (n + 7) / 8) (h : 0 < n % 8) (hz : (l.getD ((n + 7) / 8 - 1) 0).toNat / 2 ^ (n % 8) = 0) : ∀ i, fB l i = true → i < n := by
  intro i hi
  have h1 := fB_lt l i hi
  rcases Nat.lt_or_ge i n with h' | h'
  · exact h'
  · have e : i / 8 = (n + 7) / 8 - 1 := by omega
    rw [fB, e, show i % 8 = n % 8 + (i - n) from by omega, ← Nat.testBit_shiftRight, Nat.shiftRight_eq_div_pow, hz] at hi
    simp at hi

theorem left_whole (l : List Int) (n : Nat) (hl : l.length = (n + 7) / 8) (h : n % 8 = 0) : ∀ i, fB l i = true → i < n := by
  intro i hi
  have h1 := fB_lt l i hi
  omega

theorem left_some (l : List Int) (hb : ∀ x ∈ l, 0 ≤ x ∧ x ≤ 255) (n : Nat) (hl : l.length = (n + 7) / 8) (h : 0 < n % 8) (hz : (l.getD ((n + 7) / 8 - 1) 0).toNat / 2 ^ (n % 8) ≠ 0) : ∃ i, fB l i = true ∧ n ≤ i := by
  have hb' := byte_lt l hb ((n + 7) / 8 - 1)
  obtain ⟨t, ht⟩ := Nat.exists_testBit_of_ne_zero hz
  rw [← Nat.shiftRight_eq_div_pow, Nat.testBit_shiftRight] at ht
  have h8 : n % 8 + t < 8 := by
    rcases Nat.lt_or_ge (n % 8 + t) 8 with h' | h'
    · exact h'
    · have : (l.getD ((n + 7) / 8 - 1) 0).toNat < 2 ^ (n % 8 + t) := Nat.lt_of_lt_of_le (show _ < 2 ^ 8 by omega) (Nat.pow_le_pow_right (by decide) h')
      rw [Nat.testBit_lt_two_pow this] at ht
      cases ht
  refine ⟨8 * ((n + 7) / 8 - 1) + (n % 8 + t), ?_, by omega⟩
  rw [fB_at l _ _ h8]
  exact ht

/-- The bytes of a set say that set. -/
theorem fB_bys (f : Nat → Bool) (n : Nat) (h : ∀ i, f i = true → i < n) (l : List Int) (hl : l.length = (n + 7) / 8) (hc : ∀ j, j < (n + 7) / 8 → l.getD j 0 = (byt f j : Nat)) : ∀ i, fB l i = f i := by
  intro i
  rcases Nat.lt_or_ge (i / 8) ((n + 7) / 8) with h' | h'
  · rw [fB, hc _ h', Int.toNat_natCast, byt, numOf_bit]
    simp only [show i % 8 < 8 by omega, decide_true, Bool.true_and]
    congr 1
    omega
  · have e1 : fB l i ≠ true := fun e => by have := fB_lt l i e; omega
    have e2 : f i ≠ true := fun e => by have := h i e; omega
    simp at e1 e2
    rw [e1, e2]
end Go.Proofs.YtbfamjnnlcopiaaGreatDoor

/- Layer 17: SetE again -/
namespace Go.Proofs.YtbfamjnnlcopiaaGreatDoor
open Go.RowKit
set_option linter.unusedVariables false
set_option maxRecDepth 4000
theorem parts8 (x : Int) (n : Nat) (w : World) (hx : x = n) (hn : n ≤ 65536) :
    Calls Tryz.prog 104 #[.int .i64 x, .int .i64 8] w fun r w' => ∃ c : Nat, r = .returned (.int .i64 c) ∧ c ≤ 8192 ∧ Hid (c = (n + 7) / 8) ∧ w = w' := by
  subst hx
  refine (sparts_any n 8 w hn (.inl rfl)).mono ?_
  rintro r w' ⟨rfl, rfl⟩
  exact ⟨_, rfl, by omega, rfl, rfl⟩

end Go.Proofs.YtbfamjnnlcopiaaGreatDoor

/- Layer 17: SetF again -/
namespace Go.Proofs.YtbfamjnnlcopiaaGreatDoor
open Go.RowKit
set_option linter.unusedVariables false
set_option maxRecDepth 4000
/-- The bytes of a set of n places. -/
def bysL (f : Nat → Bool) (m : Nat) : List Int := (List.range m).map (fun j => ((byt f j : Nat) : Int))

theorem bysL_len (f : Nat → Bool) (m : Nat) : (bysL f m).length = m := by simp [bysL]
theorem bysL_at (f : Nat → Bool) (m j : Nat) (h : j < m) : (bysL f m).getD j 0 = (byt f j : Nat) := by simp [bysL, List.getD, h]

/-- The first k bytes lie in the block o. -/
structure Filled (wr : World) (o m k : Nat) (f : Nat → Bool) : Prop where
  cell : ∀ j, j < m → wr.cell? ⟨o, j, none⟩ = some (.int .u8 (if j < k then (byt f j : Nat) else 0 : Nat))
  thawed : ∀ j, wr.frozen? ⟨o, j, none⟩ = false
  size : o < wr.heap.size

theorem Filled.more {wr : World} {o m k : Nat} {f : Nat → Bool} (h : Filled wr o m k f) (hk : k < m) : Filled (wr.setCell ⟨o, k, none⟩ (.int .u8 (byt f k : Nat))) o m (k + 1) f where
  cell := fun j hj => by
    by_cases e : j = k
    · subst e
      rw [cell_set (h.cell j hj), if_pos (by omega)]
    · rw [cell_else e, h.cell j hj]
      by_cases h' : j < k
      · rw [if_pos h', if_pos (by omega)]
      · rw [if_neg h', if_neg (by omega)]
  thawed := fun j => by rw [frozen_set]; exact h.thawed j
  size := by simpa using h.size

theorem Filled.isL {wr : World} {o m : Nat} {f : Nat → Bool} (h : Filled wr o m m f) : IsL wr .u8 (some ⟨o, 0, none⟩) (bysL f m) := by
  refine .inr ⟨o, 0, rfl, h.size, fun i hi => ?_⟩
  rw [bysL_len] at hi
  rw [Nat.zero_add, h.cell i hi, if_pos hi, bysL_at f m i hi]

theorem byte_int (f : Nat → Bool) (k : Nat) : ((wd f (k / 8) : Nat) : Int) / 2 ^ (k % 8 * 8) % 256 = (byt f k : Nat) := by
  have e : (((wd f (k / 8) : Nat) : Int) / 2 ^ (k % 8 * 8)) = ((wd f (k / 8) / 2 ^ (k % 8 * 8) : Nat) : Int) := by simp
  rw [e, ← byte_word f k]
  omega

set_option maxHeartbeats 1000000 in
theorem sbytes_any (b g n : Nat) (f : Nat → Bool) (w : World) (hS : SetAt w b g n f) :
    Calls Tryz.prog 80 #[.pointer (some ⟨b, 0, none⟩)] w fun e w' => e = .returned (.slice (some ⟨w.heap.size, 0, none⟩) ((n + 7) / 8) ((n + 7) / 8)) ∧ Filled w' w.heap.size ((n + 7) / 8) ((n + 7) / 8) f ∧ Below w.heap.size w w' := by
  have few := hS.few
  have hl := hS.len
  have HS : Hid (SetAt w b g n f) := hS
  have hmk := fun c : Nat => fun hc : c ≤ 8192 => run_make_row' (P := Tryz.prog) 25 5 (.int .u8 0) 1 Tryz.underlying25 Tryz.info5 rfl .i64 .i64 c (by omega) (by omega)
  have HM : Hid (∀ c : Nat, c ≤ 8192 → ∀ w : World, (Instr.makeSlice 25 (.int .i64 (c : Int)) (.int .i64 (c : Int))).run Tryz.prog w = .ok (.slice (some ⟨w.heap.size, 0, none⟩) c c) (w.alloc (.cells (madeCells #[.int .u8 0] c) 5))) := hmk
  clear hmk hS
  obtain ⟨c, hcn⟩ : ∃ c : Nat, (n + 7) / 8 = c := ⟨_, rfl⟩
  have HN : Hid ((n + 7) / 8 = c) := hcn
  rw [hcn]
  clear hcn
  go_enter Tryz.func80, Tryz.ntmps80
  go_wp2_with (first | (go_at_call 108; refine (slen_any b n _ hl).mono ?_; rintro e w' ⟨rfl, rfl⟩) | (go_at_call 104; refine (parts8 _ n _ rfl few).mono ?_; rintro e w' ⟨c', rfl, hc, HC, rfl⟩; obtain rfl : c = c' := HN.out.symm.trans HC.out.symm; have hmk := HM.out c hc))
  go_loopw [11] (fun iv wr => ∃ k : Nat, k ≤ c ∧ iv = .int .i64 k ∧ Filled wr w.heap.size c k f ∧ Below w.heap.size w wr) (fun iv _ => c - (intOf iv).toNat)
  case atStart =>
    refine ⟨0, Nat.zero_le _, rfl, ⟨fun j hj => ?_, fun j => ?_, by simp⟩, (Below.refl _ w).alloc (Nat.le_refl _) _⟩
    · rw [World.cell?_alloc_at _ _ _ _ rfl, made_cell _ _ _ hj]; rfl
    · rw [World.frozen?_alloc_at _ _ _ _ rfl]
  case round =>
    obtain ⟨k, hk, rfl, hF, hB⟩ := hrel
    have HF : Hid (Filled _ w.heap.size c k f) := hF
    have HB : Hid (Below w.heap.size w _) := hB
    by_cases hlt : k < c
    · have hS2 := HS.out.keepAll hB
      have hcn := HN.out
      have hs := hS2.words
      have hj : k / 8 < (n + 63) / 64 := by omega
      have hw := hS2.word (k / 8) hj
      have hcell := hF.cell k hlt
      rw [if_neg (Nat.lt_irrefl k)] at hcell
      have hz := hF.thawed k
      have hwl := wd_lt f (k / 8)
      have HY : Hid (((wd f (k / 8) : Nat) : Int) / 2 ^ (k % 8 * 8) % 256 = (byt f k : Nat)) := byte_int f k
      clear hS2 hF hB hcn
      go_wp2
      go_roundw
      case rel =>
        refine ⟨k + 1, by omega, by go_num, ?_, ?_⟩
        · rw [HY.out]; exact HF.out.more hlt
        · exact HB.out.setCell (Nat.le_refl _) _
      case measure => simp [intOf]; omega
    · obtain rfl : k = c := by omega
      clear hF hB
      go_wp2
      go_ret
      exact ⟨rfl, HF.out, HB.out⟩
end Go.Proofs.YtbfamjnnlcopiaaGreatDoor

/- Plain mathematics of layer 17: images, their bytes, and what bytes are read as an image. -/
namespace Go.Proofs.YtbfamjnnlcopiaaGreatDoor
set_option linter.unusedVariables false
set_option maxRecDepth 4000

/-- An image: the span's numbers and live slots, the base, the places, the bytes. -/
structure Im where
  p : Int
  c : Int
  s : Int
  live : List Int
  base : Int
  offs : List Int
  bytes : List Int
def noIm : Im := ⟨0, 0, 0, [], 0, [], []⟩
/-- A span that may be, with these live slots. -/
def spOk (p c s : Int) (live : List Int) : Bool := decide (newE p c s = 0) && okL (slN c) (-1) live
/-- How many bytes an image of a span has. -/
def sizeG (p c s : Int) (live : List Int) : Int := if spOk p c s live = true then (live.length : Int) * szI c s else 0
/-- An image that is right. -/
def rightG (m : Im) : Bool := spOk m.p m.c m.s m.live && (decide ((m.bytes.length : Int) = sizeG m.p m.c m.s m.live) && (rrightT m.bytes.length m.offs && decide (goodR m.base ∨ (m.base = 0 ∧ m.offs = []))))
/-- The bytes of the set of the live slots. -/
def bitsG (c : Int) (live : List Int) : List Int := bysL (fOf live) ((slN c + 7) / 8)
/-- The bytes of an image. -/
def bodyG (m : Im) : List Int := varL m.p ++ (varL m.c ++ (varL m.s ++ (bitsG m.c m.live ++ (varL (m.base / 256) ++ (bytesT m.offs ++ m.bytes)))))

theorem spOk_iff {p c s : Int} {live : List Int} : spOk p c s live = true ↔ newE p c s = 0 ∧ okL (slN c) (-1) live = true := by simp [spOk]
theorem right_parts {m : Im} : rightG m = true ↔ spOk m.p m.c m.s m.live = true ∧ (m.bytes.length : Int) = sizeG m.p m.c m.s m.live ∧ rrightT m.bytes.length m.offs = true ∧ (goodR m.base ∨ (m.base = 0 ∧ m.offs = [])) := by
  simp [rightG]
theorem live_le {n : Nat} {l : List Int} (h : okL n (-1) l = true) : l.length ≤ n := by
  have e := ls_of h
  rw [← e, lsL_len]
  exact cnt_le _ _
theorem size_bd {p c s : Int} {live : List Int} (h : spOk p c s live = true) : sizeG p c s live = (live.length : Int) * szI c s ∧ 0 ≤ sizeG p c s live ∧ sizeG p c s live ≤ 4096 := by
  obtain ⟨h1, h2⟩ := spOk_iff.1 h
  obtain ⟨f1, f2, f3, f4, f5, f6, f7, f8, _⟩ := (newE_rt h1).facts
  have hl := live_le h2
  have e : sizeG p c s live = (live.length : Int) * szI c s := if_pos h
  have h3 : 0 ≤ (live.length : Int) * szI c s := Int.mul_nonneg (by omega) (by omega)
  have h4 : (live.length : Int) * szI c s ≤ (slN c : Int) * szI c s := Int.mul_le_mul_of_nonneg_right (by omega) (by omega)
  rw [e]
  exact ⟨rfl, h3, by omega⟩
theorem size_range (p c s : Int) (live : List Int) : 0 ≤ sizeG p c s live ∧ sizeG p c s live ≤ 4096 := by
  cases h : spOk p c s live
  · have e : sizeG p c s live = 0 := if_neg (by rw [h]; decide)
    omega
  · exact ⟨(size_bd h).2.1, (size_bd h).2.2⟩
theorem placed_mono {s s' : Int} (hs : s ≤ s') : ∀ (l : List Int) (f : Int), placedB s f l = true → placedB s' f l = true
  | [], _, _ => by rw [placedB]
  | p :: l, f, h => by
    simp only [placedB, Bool.and_eq_true, decide_eq_true_eq] at h ⊢
    exact ⟨by omega, placed_mono hs l _ h.2⟩
theorem right_wide {n : Int} {l : List Int} (hn : n ≤ 65535) (h : rrightT n l = true) : rrightT 65535 l = true := by
  obtain ⟨h1, h2⟩ := right_iff.1 h
  exact right_iff.2 ⟨h1, placed_mono (by omega) l 0 h2⟩

/-! ### bits -/
/-- No bit behind the places. -/
def bitsOk (n : Nat) (l : List Int) : Bool := (List.range (8 * l.length)).all (fun i => !fB l i || decide (i < n))
theorem bitsOk_iff {n : Nat} {l : List Int} : bitsOk n l = true ↔ ∀ i, fB l i = true → i < n := by
  unfold bitsOk
  rw [List.all_eq_true]
  refine ⟨fun h i hi => ?_, fun h i _ => ?_⟩
  · have := h i (List.mem_range.2 (fB_lt l i hi))
    rw [hi] at this
    simpa using this
  · cases hi : fB l i
    · rfl
    · simpa using h i hi
theorem bitsOk_no {n : Nat} {l : List Int} {i : Nat} (h : fB l i = true) (hi : n ≤ i) : bitsOk n l = false := by
  cases hb : bitsOk n l
  · rfl
  · exact absurd (bitsOk_iff.1 hb i h) (by omega)
theorem bits_there {n : Nat} {live : List Int} (h : okL n (-1) live = true) : bitsOk n (bysL (fOf live) ((n + 7) / 8)) = true ∧ lsL (fB (bysL (fOf live) ((n + 7) / 8))) n = live := by
  have e := fB_bys (fOf live) n (fOf_within h) (bysL (fOf live) ((n + 7) / 8)) (bysL_len _ _) (fun j hj => bysL_at _ _ j hj)
  refine ⟨bitsOk_iff.2 fun i hi => fOf_within h i (by rw [← e i]; exact hi), ?_⟩
  rw [lsL_congr (fun i _ => e i), ls_of h]
theorem bys_byte (f : Nat → Bool) (k : Nat) : AllB (bysL f k) := by
  intro x hx
  obtain ⟨j, _, rfl⟩ := List.mem_map.1 hx
  have := byt_lt f j
  omega

/-! ### reading -/
/-- A number is read, and what is done with it; or a fault. -/
def bindU {α : Type} (l : List Int) (most : Int) (k : Int → List Int → α) (bad : Int → α) : α := if (upS l 0 most).2.2 = 0 then k (upS l 0 most).1 (upS l 0 most).2.1 else bad (upS l 0 most).2.2
theorem bindU_ok {α : Type} {l r : List Int} {most n : Int} {k : Int → List Int → α} {bad : Int → α} (h : upS l 0 most = (n, r, 0)) : bindU l most k bad = k n r := by
  unfold bindU; rw [h]; exact if_pos rfl
theorem bindU_bad {α : Type} {l r : List Int} {most n e : Int} {k : Int → List Int → α} {bad : Int → α} (h : upS l 0 most = (n, r, e)) (he : e ≠ 0) : bindU l most k bad = bad e := by
  unfold bindU; rw [h]; exact if_neg he
def badG (e : Int) : Im × Int := (noIm, e)
/-- Behind the table: the bytes, the end, and is it right? -/
def restG (p c s : Int) (live : List Int) (base : Int) (offs l : List Int) : Im × Int :=
  if (l.length : Int) < sizeG p c s live then badG 3 else if sizeG p c s live < l.length then badG 6 else if rightG ⟨p, c, s, live, base, offs, l⟩ = true then (⟨p, c, s, live, base, offs, l⟩, 0) else badG 4
/-- Behind the base: the table. -/
def tabG (p c s : Int) (live : List Int) (base : Int) (r : List Int) : Im × Int := if (readT r).2.2 = 0 then restG p c s live base (readT r).1 (readT r).2.1 else badG (readT r).2.2
/-- Behind the set: the base. -/
def tailG (p c s : Int) (live l : List Int) : Im × Int := bindU l 4294967296 (fun q r => tabG p c s live (256 * q) r) badG
/-- Behind the span's numbers: the set. -/
def setG (p c s : Int) (l : List Int) : Im × Int :=
  if (slN c + 7) / 8 ≤ l.length then (if bitsOk (slN c) (l.take ((slN c + 7) / 8)) = true then tailG p c s (lsL (fB (l.take ((slN c + 7) / 8))) (slN c)) (l.drop ((slN c + 7) / 8)) else badG 4) else badG 3
/-- What bytes are read as: an image, and the fault. -/
def readG (l : List Int) : Im × Int := bindU l 4095 (fun p l1 => bindU l1 7 (fun c l2 => bindU l2 4096 (fun s l3 => if newE p c s = 0 then setG p c s l3 else badG 4) badG) badG) badG

theorem rest_short {p c s base : Int} {live offs l : List Int} (h : (l.length : Int) < sizeG p c s live) : restG p c s live base offs l = badG 3 := if_pos h
theorem rest_long {p c s base : Int} {live offs l : List Int} (h : sizeG p c s live < l.length) : restG p c s live base offs l = badG 6 := by
  unfold restG; rw [if_neg (by omega), if_pos h]
theorem rest_fit {p c s base : Int} {live offs l : List Int} (h : (l.length : Int) = sizeG p c s live) : restG p c s live base offs l = if rightG ⟨p, c, s, live, base, offs, l⟩ = true then (⟨p, c, s, live, base, offs, l⟩, 0) else badG 4 := by
  unfold restG; rw [if_neg (by omega), if_neg (by omega)]
theorem tab_ok {p c s base : Int} {live offs r l : List Int} (h : readT r = (offs, l, 0)) : tabG p c s live base r = restG p c s live base offs l := by
  unfold tabG; rw [h]; exact if_pos rfl
theorem tab_bad {p c s base e : Int} {live offs r l : List Int} (h : readT r = (offs, l, e)) (he : e ≠ 0) : tabG p c s live base r = badG e := by
  unfold tabG; rw [h]; exact if_neg he
theorem set_short {p c s : Int} {l : List Int} (h : l.length < (slN c + 7) / 8) : setG p c s l = badG 3 := if_neg (by omega)
theorem set_form {p c s : Int} {l : List Int} (h : (slN c + 7) / 8 ≤ l.length) (hb : bitsOk (slN c) (l.take ((slN c + 7) / 8)) = false) : setG p c s l = badG 4 := by
  unfold setG; rw [if_pos h, if_neg (by rw [hb]; decide)]
theorem set_ok {p c s : Int} {l : List Int} (h : (slN c + 7) / 8 ≤ l.length) (hb : bitsOk (slN c) (l.take ((slN c + 7) / 8)) = true) : setG p c s l = tailG p c s (lsL (fB (l.take ((slN c + 7) / 8))) (slN c)) (l.drop ((slN c + 7) / 8)) := by
  unfold setG; rw [if_pos h, if_pos hb]

/-- What is written is read. -/
theorem read_backG {m : Im} (h : rightG m = true) : readG (bodyG m) = (m, 0) := by
  obtain ⟨h1, h2, h3, h4⟩ := right_parts.1 h
  obtain ⟨k1, k2⟩ := spOk_iff.1 h1
  have r := newE_rt k1
  obtain ⟨f1, f2, f3, f4, f5, f6, f7, f8, _⟩ := r.facts
  have hs : 0 ≤ m.s ∧ m.s ≤ 4096 := by
    by_cases hc : m.c < 7
    · have := r.sm hc; omega
    · have := r.lg (by have := r.c7; omega)
      have := pagesN_large this; omega
  have p0 := r.p0
  have p1 := r.p1
  have c0 := r.c0
  have c7 := r.c7
  have hsz := size_bd h1
  have ho : rrightT 65535 m.offs = true := right_wide (by omega) h3
  have hq : 0 ≤ m.base / 256 ∧ m.base / 256 ≤ 4294967296 ∧ 256 * (m.base / 256) = m.base := by
    rcases h4 with ⟨g1, g2, g3⟩ | ⟨g, _⟩
    · omega
    · rw [g]; decide
  obtain ⟨b1, b2⟩ := bits_there k2
  have hbl : (bitsG m.c m.live).length = (slN m.c + 7) / 8 := bysL_len _ _
  unfold readG bodyG
  rw [bindU_ok (up_back m.p 4095 _ p0 (by omega) (by omega)), bindU_ok (up_back m.c 7 _ c0 c7 (by omega)), bindU_ok (up_back m.s 4096 _ hs.1 hs.2 (by omega)), if_pos k1]
  have ht : ∀ more : List Int, (bitsG m.c m.live ++ more).take ((slN m.c + 7) / 8) = bitsG m.c m.live := fun more => by rw [← hbl, List.take_left]
  have hd : ∀ more : List Int, (bitsG m.c m.live ++ more).drop ((slN m.c + 7) / 8) = more := fun more => by rw [← hbl, List.drop_left]
  rw [set_ok (by rw [List.length_append, hbl]; omega) (by rw [ht]; exact b1), ht, hd]
  have e : lsL (fB (bitsG m.c m.live)) (slN m.c) = m.live := b2
  rw [e]
  unfold tailG
  rw [bindU_ok (up_back (m.base / 256) 4294967296 _ hq.1 hq.2.1 (by omega)), tab_ok (readT_back m.bytes ho), hq.2.2, rest_fit h2, if_pos h]
end Go.Proofs.YtbfamjnnlcopiaaGreatDoor
