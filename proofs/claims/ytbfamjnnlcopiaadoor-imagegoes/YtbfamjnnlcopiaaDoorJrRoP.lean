/- Layer 17: RoP again -/
import Derived.Test.YtbfamjnnlcopiaaDoorAuB
import Derived.Test.YtbfamjnnlcopiaaDoorMhA
import Derived.Test.YtbfamjnnlcopiaaDoorGtB
namespace Go.Proofs.YtbfamjnnlcopiaaDoor
open Go.RowKit
set_option linter.unusedVariables false
set_option maxRecDepth 4000
/-- The places may stand in a table of so many bytes. -/
def rrightT (n : Int) (l : List Int) : Bool := decide (l.length ≤ 8192) && placedB (max 0 n) 0 l
theorem right_many {n : Int} {l : List Int} (h : 8192 < l.length) : rrightT n l = false := by
  rw [rrightT, decide_eq_false (by omega), Bool.false_and]
theorem right_few {n : Int} {l : List Int} (h : l.length ≤ 8192) : rrightT n l = placedB (max 0 n) 0 l := by
  rw [rrightT, decide_eq_true h, Bool.true_and]
theorem right_iff {n : Int} {l : List Int} : rrightT n l = true ↔ l.length ≤ 8192 ∧ placedB (max 0 n) 0 l = true := by
  simp [rrightT]

theorem gapsT_byte : ∀ (l : List Int) (f : Int), 0 ≤ f → placedB 65535 f l = true → AllB (gapsL f l)
  | [], _, _, _ => AllB.nil
  | p :: l, f, hf, h => by
    simp only [placedB, Bool.and_eq_true, decide_eq_true_eq] at h
    exact AllB.append (varL_byte _ (by omega) (by omega)) (gapsT_byte l (p + 8) (by omega) h.2)
def bodyT (l : List Int) : List Int := varL (l.length : Nat) ++ gapsL 0 l
/-- A table's bytes. -/
def bytesT (l : List Int) : List Int := if rrightT 65535 l = true then bodyT l else []
def errT (l : List Int) : Int := if rrightT 65535 l = true then 0 else 4
theorem right_max {l : List Int} : rrightT 65535 l = true ↔ l.length ≤ 8192 ∧ placedB 65535 0 l = true := right_iff
theorem bytesT_byte (l : List Int) : AllB (bytesT l) := by
  unfold bytesT
  split
  · rename_i h
    obtain ⟨h1, h2⟩ := right_max.1 h
    exact AllB.append (varL_byte _ (by omega) (by omega)) (gapsT_byte l 0 (by omega) h2)
  · exact AllB.nil
theorem gapsT_len : ∀ (l : List Int) (f : Int), (gapsL f l).length ≤ 10 * l.length
  | [], f => by simp [gapsL]
  | p :: l, f => by
    have := gapsT_len l (p + 8)
    have := varL_le ((p - f) / 8)
    simp only [gapsL, List.length_append, List.length_cons]
    omega
theorem bytesT_len (l : List Int) : (bytesT l).length ≤ 81930 := by
  unfold bytesT
  split
  · rename_i h
    obtain ⟨h1, h2⟩ := right_max.1 h
    have := varL_le (l.length : Nat)
    have := gapsT_len l 0
    simp only [bodyT, List.length_append]
    omega
  · simp

/-- What a table is read as: the places, what is left, the fault. -/
def readT (l : List Int) : List Int × List Int × Int :=
  if (upS l 0 8192).2.2 = 0 then fieldsK 65535 (upS l 0 8192).1.toNat 0 (upS l 0 8192).2.1 [] else ([], [], (upS l 0 8192).2.2)
theorem readT_bad {l r : List Int} {v e : Int} (h : upS l 0 8192 = (v, r, e)) (he : e ≠ 0) : readT l = ([], [], e) := by
  rw [readT, h]; simp only []; rw [if_neg he]
theorem readT_go {l r : List Int} {v : Int} (h : upS l 0 8192 = (v, r, 0)) : readT l = fieldsK 65535 v.toNat 0 r [] := by
  rw [readT, h]; simp only [if_true]
theorem fieldsT_back : ∀ (ts : List Int) (f : Int) (ps more : List Int), 0 ≤ f → f % 8 = 0 → placedB 65535 f ts = true → fieldsK 65535 ts.length f (gapsL f ts ++ more) ps = (ps ++ ts, more, 0)
  | [], f, ps, more, _, _, _ => by simp [fieldsK, gapsL]
  | p :: ts, f, ps, more, hf, h8, h => by
    simp only [placedB, Bool.and_eq_true, decide_eq_true_eq] at h
    rw [gapsL, List.length_cons, List.append_assoc]
    have hu := up_back ((p - f) / 8) 18446744073709551615 (gapsL (p + 8) ts ++ more) (by omega) (by omega) (by omega)
    rw [fields_go hu (by omega), show f + 8 * ((p - f) / 8) = p from by omega, fieldsT_back ts (p + 8) (ps ++ [p]) more (by omega) (by omega) h.2]
    simp
/-- What is read without a fault is a right table, and its bytes are those that were read. -/
theorem readT_good {l : List Int} {e : Int} {ps rest : List Int} (hb : AllB l) (h : readT l = (ps, rest, e)) :
    (e = 0 ∧ rrightT 65535 ps = true ∧ l = bytesT ps ++ rest) ∨ ((e = 3 ∨ e = 4) ∧ ps = [] ∧ rest = []) := by
  rcases up_cases l 8192 hb with ⟨v, r, hu, v0, v1, hl⟩ | ⟨e', hu, he⟩
  · have hr : AllB r := by rw [hl] at hb; exact hb.right
    rw [readT_go hu] at h
    by_cases hfe : e = 0
    · subst hfe
      obtain ⟨ts, h1, h2, h3, h4⟩ := fields_good 65535 v.toNat 0 r [] ps rest hr (by omega) (by omega) h
      rw [List.nil_append] at h1
      subst h1
      have hc : rrightT 65535 ps = true := right_max.2 ⟨by omega, h3⟩
      refine .inl ⟨rfl, hc, ?_⟩
      rw [bytesT, if_pos hc, bodyT, hl, h4, show ((ps.length : Nat) : Int) = v from by omega]
      simp [List.append_assoc]
    · have := fields_err 65535 v.toNat 0 r [] hr
      rw [h] at this
      simp only [Prod.mk.injEq] at this
      rcases this with q | q | q
      · exact absurd q hfe
      · exact .inr ⟨.inl q.2.2, q.1, q.2.1⟩
      · exact .inr ⟨.inr q.2.2, q.1, q.2.1⟩
  · rw [readT_bad hu (by omega)] at h
    simp only [Prod.mk.injEq] at h
    exact .inr ⟨by omega, h.1.symm, h.2.1.symm⟩
/-- What is written is read. -/
theorem readT_back {ps : List Int} (more : List Int) (h : rrightT 65535 ps = true) : readT (bytesT ps ++ more) = (ps, more, 0) := by
  obtain ⟨h1, h2⟩ := right_max.1 h
  rw [bytesT, if_pos h, bodyT, List.append_assoc]
  have e2 := up_back (ps.length : Nat) 8192 (gapsL 0 ps ++ more) (by omega) (by omega) (by omega)
  rw [readT_go e2, Int.toNat_natCast, fieldsT_back ps 0 [] more (by omega) (by omega) h2]
  simp

/-- The number of the eight bytes there. -/
def wordT (b : List Int) (p : Int) : Int := getL ((b.drop p.toNat).take 8)
def inT (fr n x : Int) : Prop := x = 0 ∨ (fr ≤ x ∧ x - fr < n)
instance (fr n x : Int) : Decidable (inT fr n x) := by unfold inT; infer_instance
def stepT (fr t : Int) (b o : List Int) (p : Int) : List Int := if wordT b p = 0 then o else overR o p.toNat (putL 8 (wordT b p - fr + t))
def goT (fr t : Int) (b l o : List Int) : List Int := l.foldl (stepT fr t b) o
def allT (fr n : Int) (b l : List Int) : Bool := l.all (fun p => decide (inT fr n (wordT b p)))
def argT (fr t n : Int) : Prop := goodR fr ∧ goodR t ∧ 0 ≤ n ∧ n ≤ 1048576
instance (fr t n : Int) : Decidable (argT fr t n) := by unfold argT; infer_instance
/-- What Apply answers. -/
def applyB (b l : List Int) (fr t n : Int) : List Int := if argT fr t n ∧ rrightT b.length l = true ∧ allT fr n b l = true then goT fr t b l b else []
def applyE (b l : List Int) (fr t n : Int) : Int := if argT fr t n then (if rrightT b.length l = true then (if allT fr n b l = true then 0 else 10) else 4) else 2
theorem apply_arg {b l : List Int} {fr t n : Int} (h : ¬ argT fr t n) : applyB b l fr t n = [] ∧ applyE b l fr t n = 2 := ⟨if_neg (fun q => h q.1), if_neg h⟩
theorem apply_form {b l : List Int} {fr t n : Int} (h : argT fr t n) (h1 : rrightT b.length l = false) : applyB b l fr t n = [] ∧ applyE b l fr t n = 4 :=
  ⟨if_neg (fun q => by rw [h1] at q; exact absurd q.2.1 (by decide)), by rw [applyE, if_pos h, if_neg (by rw [h1]; decide)]⟩
theorem apply_addr {b l : List Int} {fr t n : Int} (h : argT fr t n) (h1 : rrightT b.length l = true) (h2 : allT fr n b l = false) : applyB b l fr t n = [] ∧ applyE b l fr t n = 10 :=
  ⟨if_neg (fun q => by rw [h2] at q; exact absurd q.2.2 (by decide)), by rw [applyE, if_pos h, if_pos h1, if_neg (by rw [h2]; decide)]⟩
theorem apply_ok {b l : List Int} {fr t n : Int} (h : argT fr t n) (h1 : rrightT b.length l = true) (h2 : allT fr n b l = true) : applyB b l fr t n = goT fr t b l b ∧ applyE b l fr t n = 0 :=
  ⟨if_pos ⟨h, h1, h2⟩, by rw [applyE, if_pos h, if_pos h1, if_pos h2]⟩
theorem apply_zero {b l : List Int} {fr t n : Int} (h : applyE b l fr t n = 0) : argT fr t n ∧ rrightT b.length l = true ∧ allT fr n b l = true ∧ applyB b l fr t n = goT fr t b l b := by
  unfold applyE at h
  by_cases h1 : argT fr t n
  · rw [if_pos h1] at h
    by_cases h2 : rrightT b.length l = true
    · rw [if_pos h2] at h
      by_cases h3 : allT fr n b l = true
      · exact ⟨h1, h2, h3, (apply_ok h1 h2 h3).1⟩
      · rw [if_neg h3] at h; omega
    · rw [if_neg h2] at h; omega
  · rw [if_neg h1] at h; omega
theorem apply_nil {b l : List Int} {fr t n : Int} (h : applyE b l fr t n ≠ 0) : applyB b l fr t n = [] := by
  refine if_neg (fun q => h ?_)
  rw [applyE, if_pos q.1, if_pos q.2.1, if_pos q.2.2]
theorem apply_range (b l : List Int) (fr t n : Int) : 0 ≤ applyE b l fr t n ∧ applyE b l fr t n ≤ 10 := by
  unfold applyE
  split
  · split
    · split <;> omega
    · omega
  · omega

theorem goT_snoc (fr t : Int) (b l o : List Int) (p : Int) : goT fr t b (l ++ [p]) o = stepT fr t b (goT fr t b l o) p := by
  unfold goT; rw [List.foldl_append]; rfl
theorem goT_take (fr t : Int) (b l o : List Int) (k : Nat) (hk : k < l.length) : goT fr t b (l.take (k + 1)) o = stepT fr t b (goT fr t b (l.take k) o) (l.getD k 0) := by
  rw [← goT_snoc, List.take_succ_eq_append_getElem hk]; simp [List.getD, hk]
theorem putT_len (n : Int) : (putL 8 n).length = 8 := by simp [putL]
/-- Places of a table: rising by eight at least, within the bytes. -/
theorem placed_apart (s : Int) : ∀ (l : List Int) (f : Int), 0 ≤ f → placedB s f l = true → l.Pairwise (fun x y => x + 8 ≤ y)
  | [], _, _, _ => List.Pairwise.nil
  | p :: l, f, hf, h => by
    simp only [placedB, Bool.and_eq_true, decide_eq_true_eq] at h
    exact List.pairwise_cons.2 ⟨fun y hy => (rplaced_all s l (p + 8) (by omega) h.2 y hy).1, placed_apart s l (p + 8) (by omega) h.2⟩
/-- A place that a word may be laid at. -/
def inB (n : Nat) (p : Int) : Prop := 0 ≤ p ∧ p + 8 ≤ (n : Int)
theorem right_in {b l : List Int} (h : rrightT b.length l = true) : (∀ p ∈ l, inB b.length p) ∧ l.Pairwise (fun x y => x + 8 ≤ y) := by
  obtain ⟨h1, h2⟩ := right_iff.1 h
  have e : max 0 ((b.length : Nat) : Int) = ((b.length : Nat) : Int) := by omega
  rw [e] at h2
  exact ⟨fun p hp => by have := rplaced_all _ l 0 (by omega) h2 p hp; exact ⟨by omega, by omega⟩, placed_apart _ l 0 (by omega) h2⟩
theorem overT_get {l b : List Int} {o k : Nat} (h : o + b.length ≤ l.length) (hk : k < o ∨ o + b.length ≤ k) : (overR l o b)[k]? = l[k]? := by
  unfold overR
  rcases hk with hk | hk
  · rw [List.append_assoc, List.getElem?_append_left (by rw [List.length_take]; omega), List.getElem?_take, if_pos hk]
  · have e : (l.take o ++ b).length = o + b.length := by simp; omega
    rw [List.getElem?_append_right (by omega), e, List.getElem?_drop]
    congr 1; omega
theorem overT_at {l b : List Int} {o k : Nat} (h : o + b.length ≤ l.length) (hk : k < b.length) : (overR l o b)[o + k]? = b[k]? := by
  unfold overR
  have e : (l.take o).length = o := by simp; omega
  rw [List.append_assoc, List.getElem?_append_right (by omega), e, List.getElem?_append_left (by omega)]
  congr 1; omega
theorem stepT_len {fr t : Int} {b o : List Int} {p : Int} (h : inB o.length p) : (stepT fr t b o p).length = o.length := by
  unfold stepT
  split
  · rfl
  · exact overR_len (by rw [putT_len]; have := h.1; have := h.2; omega)
theorem goT_len {fr t : Int} {b : List Int} : ∀ (l o : List Int), (∀ p ∈ l, inB o.length p) → (goT fr t b l o).length = o.length
  | [], o, _ => rfl
  | p :: l, o, h => by
    have e := stepT_len (fr := fr) (t := t) (b := b) (h p List.mem_cons_self)
    show (goT fr t b l (stepT fr t b o p)).length = _
    rw [goT_len l _ (fun q hq => by rw [e]; exact h q (List.mem_cons_of_mem _ hq)), e]
theorem stepT_all {fr t : Int} {b o : List Int} {p : Int} (h : AllB o) : AllB (stepT fr t b o p) := by
  unfold stepT
  split
  · exact h
  · exact h.over (putL_byte 8 _) _
theorem goT_all {fr t : Int} {b : List Int} : ∀ (l o : List Int), AllB o → AllB (goT fr t b l o)
  | [], o, h => h
  | p :: l, o, h => goT_all l _ (stepT_all h)
theorem stepT_get {fr t : Int} {b o : List Int} {p : Int} (h : inB o.length p) {k : Nat} (hk : (k : Int) < p ∨ p + 8 ≤ (k : Int)) : (stepT fr t b o p)[k]? = o[k]? := by
  unfold stepT
  split
  · rfl
  · exact overT_get (by rw [putT_len]; have := h.1; have := h.2; omega) (by rw [putT_len]; have := h.1; omega)
theorem goT_get {fr t : Int} {b : List Int} : ∀ (l o : List Int), (∀ p ∈ l, inB o.length p) → ∀ k : Nat, (∀ p ∈ l, wordT b p = 0 ∨ (k : Int) < p ∨ p + 8 ≤ (k : Int)) → (goT fr t b l o)[k]? = o[k]?
  | [], o, _, k, _ => rfl
  | p :: l, o, h, k, hk => by
    have hp := h p List.mem_cons_self
    have e := stepT_len (fr := fr) (t := t) (b := b) hp
    show (goT fr t b l (stepT fr t b o p))[k]? = _
    rw [goT_get l _ (fun q hq => by rw [e]; exact h q (List.mem_cons_of_mem _ hq)) k (fun q hq => hk q (List.mem_cons_of_mem _ hq))]
    rcases hk p List.mem_cons_self with q | q
    · unfold stepT; rw [if_pos q]
    · exact stepT_get hp q
/-- The bytes of a word that isn't 0, behind all steps. -/
theorem goT_at {fr t : Int} {b : List Int} : ∀ (l o : List Int), (∀ p ∈ l, inB o.length p) → l.Pairwise (fun x y => x + 8 ≤ y) → ∀ p ∈ l, wordT b p ≠ 0 → ∀ j : Nat, j < 8 → (goT fr t b l o)[p.toNat + j]? = (putL 8 (wordT b p - fr + t))[j]?
  | [], o, _, _, p, hp, _, _, _ => by cases hp
  | q :: l, o, h, hw, p, hp, hne, j, hj => by
    have hq := h q List.mem_cons_self
    have e := stepT_len (fr := fr) (t := t) (b := b) hq
    have hl : ∀ z ∈ l, inB (stepT fr t b o q).length z := fun z hz => by rw [e]; exact h z (List.mem_cons_of_mem _ hz)
    obtain ⟨p1, p2⟩ := List.pairwise_cons.1 hw
    show (goT fr t b l (stepT fr t b o q))[p.toNat + j]? = _
    rcases List.mem_cons.1 hp with rfl | hp
    · rw [goT_get l _ hl _ (fun z hz => .inr (.inl (by have := p1 z hz; have := hq.1; omega)))]
      unfold stepT
      rw [if_neg hne]
      exact overT_at (by rw [putT_len]; have := hq.1; have := hq.2; omega) (by rw [putT_len]; exact hj)
    · exact goT_at l _ hl p2 p hp hne j hj
theorem getT_put (k : Nat) : ∀ n : Int, 0 ≤ n → getL (putL k n) = n % 256 ^ k := by
  induction k with
  | zero => intro n h; simp [putL, getL]
  | succ k ih =>
    intro n h
    have hp : (0 : Int) < 256 ^ k := Int.pow_pos (by decide)
    rw [putL, getL, ih (n / 256) (by omega), show (256 : Int) ^ (k + 1) = 256 * 256 ^ k from by rw [Int.pow_succ]; exact Int.mul_comm _ _]
    rw [Int.emod_def (n / 256), Int.emod_def n (256 * 256 ^ k), ← Int.ediv_ediv_of_nonneg (by omega)]
    rw [Int.mul_sub, Int.mul_assoc]
    omega
theorem getT_put8 (n : Int) (h : 0 ≤ n) (h1 : n ≤ 18446744073709551615) : getL (putL 8 n) = n := by
  rw [getT_put 8 n h]; exact Int.emod_eq_of_lt h (by omega)
theorem putT_get : ∀ (l : List Int), AllB l → putL l.length (getL l) = l
  | [], _ => rfl
  | x :: l, h => by
    have hx := h x List.mem_cons_self
    have ht : AllB l := fun y hy => h y (List.mem_cons_of_mem _ hy)
    rw [List.length_cons, putL, getL, show (x + 256 * getL l) % 256 = x from by omega, show (x + 256 * getL l) / 256 = getL l from by omega, putT_get l ht]
theorem wordT_bytes {b : List Int} {p : Int} (hb : AllB b) (h : inB b.length p) {j : Nat} (hj : j < 8) : b[p.toNat + j]? = (putL 8 (wordT b p))[j]? := by
  have hl : ((b.drop p.toNat).take 8).length = 8 := by have := h.1; have := h.2; simp; omega
  have e := putT_get _ ((hb.drop p.toNat).take 8)
  rw [hl] at e
  unfold wordT
  rw [e, List.getElem?_take, if_pos hj, List.getElem?_drop]
theorem wordT_range {b : List Int} (hb : AllB b) (p : Int) : 0 ≤ wordT b p ∧ wordT b p ≤ 18446744073709551615 := by
  have hx : ∀ x ∈ (b.drop p.toNat).take 8, 0 ≤ x ∧ x ≤ 255 := (hb.drop p.toNat).take 8
  refine ⟨getL_nonneg _ hx, ?_⟩
  have h1 := getL_lt _ hx
  have h2 : ((b.drop p.toNat).take 8).length ≤ 8 := List.length_take_le _ _
  have h3 := p256_mono _ _ h2
  have h4 : (256 : Int) ^ 8 = 18446744073709551616 := by decide
  unfold wordT
  omega
/-- Two lists whose words at p are alike there. -/
theorem wordT_of {b c : List Int} {p : Int} {v : Int} (hc : AllB c) (h : inB c.length p) (v0 : 0 ≤ v) (v1 : v ≤ 18446744073709551615) (he : ∀ j : Nat, j < 8 → c[p.toNat + j]? = (putL 8 v)[j]?) : wordT c p = v := by
  have e : (c.drop p.toNat).take 8 = putL 8 v := by
    apply List.ext_getElem?
    intro j
    by_cases hj : j < 8
    · rw [List.getElem?_take, if_pos hj, List.getElem?_drop, he j hj]
    · rw [List.getElem?_take, if_neg hj, List.getElem?_eq_none (by rw [putT_len]; omega)]
  unfold wordT
  rw [e, getT_put8 v v0 v1]
/-- An address at another base. -/
def mvT (fr t x : Int) : Int := if x = 0 then 0 else x - fr + t
theorem goT_word {fr t n : Int} {b l : List Int} (hb : AllB b) (hl : ∀ p ∈ l, inB b.length p) (hw : l.Pairwise (fun x y => x + 8 ≤ y)) (ha : argT fr t n) (hn : allT fr n b l = true) {p : Int} (hp : p ∈ l) : wordT (goT fr t b l b) p = mvT fr t (wordT b p) := by
  have hlen := goT_len (fr := fr) (t := t) (b := b) l b hl
  have hin := hl p hp
  by_cases h0 : wordT b p = 0
  · rw [mvT, if_pos h0]
    refine wordT_of (b := b) (goT_all l b hb) (by rw [hlen]; exact hin) (by omega) (by omega) (fun j hj => ?_)
    rw [goT_get l b hl _ (fun q hq => ?_), wordT_bytes hb hin hj, h0]
    by_cases e : q = p
    · exact .inl (by rw [e]; exact h0)
    · right
      have hin' := hl q hq
      have h1 := hin.1
      have h2 := hin'.1
      have : p + 8 ≤ q ∨ q + 8 ≤ p := by
        obtain ⟨i, hi, e1⟩ := List.getElem_of_mem hp
        obtain ⟨k, hk, e2⟩ := List.getElem_of_mem hq
        rcases Nat.lt_trichotomy i k with c | c | c
        · left; rw [← e1, ← e2]; exact List.pairwise_iff_getElem.1 hw i k hi hk c
        · subst c; exact absurd (e2.symm.trans e1) e
        · right; rw [← e1, ← e2]; exact List.pairwise_iff_getElem.1 hw k i hk hi c
      omega
  · rw [mvT, if_neg h0]
    have hq : inT fr n (wordT b p) := by
      have := List.all_eq_true.1 hn p hp
      simpa using this
    obtain ⟨g1, g2, n0, n1⟩ := ha
    unfold goodR at g1 g2
    rcases hq with q | ⟨q1, q2⟩
    · exact absurd q h0
    · exact wordT_of (b := b) (goT_all l b hb) (by rw [hlen]; exact hin) (by omega) (by omega) (fun j hj => goT_at l b hl hw p hp h0 j hj)
/-- Bytes of one length, alike outside the words of a table, and with the same words, are the same. -/
theorem wordT_ext {b c l : List Int} (hb : AllB b) (hc : AllB c) (hlen : c.length = b.length) (hl : ∀ p ∈ l, inB b.length p) (hw : ∀ p ∈ l, wordT c p = wordT b p) (he : ∀ k : Nat, (∀ p ∈ l, (k : Int) < p ∨ p + 8 ≤ (k : Int)) → c[k]? = b[k]?) : c = b := by
  apply List.ext_getElem?
  intro k
  by_cases h : ∀ p ∈ l, (k : Int) < p ∨ p + 8 ≤ (k : Int)
  · exact he k h
  · have : ∃ p, p ∈ l ∧ ¬ ((k : Int) < p ∨ p + 8 ≤ (k : Int)) := by
      rcases Classical.em (∃ p, p ∈ l ∧ ¬ ((k : Int) < p ∨ p + 8 ≤ (k : Int))) with q | q
      · exact q
      · exact absurd (fun p hp => Classical.byContradiction (fun c => q ⟨p, hp, c⟩)) h
    obtain ⟨p, hp, hk⟩ := this
    have hin := hl p hp
    have h0 := hin.1
    obtain ⟨j, hj, rfl⟩ : ∃ j : Nat, j < 8 ∧ k = p.toNat + j := ⟨k - p.toNat, by omega, by omega⟩
    rw [wordT_bytes hc (by rw [hlen]; exact hin) hj, wordT_bytes hb hin hj, hw p hp]
/-- A moved word is in again. -/
theorem mvT_in {fr t n x : Int} (ht : goodR t) (h : inT fr n x) : inT t n (mvT fr t x) := by
  unfold mvT
  by_cases h0 : x = 0
  · rw [if_pos h0]; exact .inl rfl
  · rw [if_neg h0]
    rcases h with h | h
    · exact absurd h h0
    · exact .inr ⟨by omega, by omega⟩
theorem mvT_two {fr t u n x : Int} (ht : goodR t) (h : inT fr n x) : mvT t u (mvT fr t x) = mvT fr u x := by
  unfold mvT
  unfold goodR at ht
  by_cases h0 : x = 0
  · rw [if_pos h0, if_pos h0, if_pos rfl]
  · rw [if_neg h0, if_neg h0]
    rcases h with h | h
    · exact absurd h h0
    · rw [if_neg (by omega)]; omega
theorem mvT_self (fr x : Int) : mvT fr fr x = x := by
  unfold mvT; split <;> omega
theorem allT_in {fr n : Int} {b l : List Int} (h : allT fr n b l = true) {p : Int} (hp : p ∈ l) : inT fr n (wordT b p) := by
  have := List.all_eq_true.1 h p hp
  simpa using this
/-- There and on: by way of a third base. -/
theorem goT_two {fr t u n : Int} {b l : List Int} (hb : AllB b) (hr : rrightT b.length l = true) (ha : argT fr t n) (hu : goodR u) (hn : allT fr n b l = true) :
    rrightT (goT fr t b l b).length l = true ∧ allT t n (goT fr t b l b) l = true ∧ goT t u (goT fr t b l b) l (goT fr t b l b) = goT fr u b l b := by
  obtain ⟨hl, hw⟩ := right_in hr
  have hlen := goT_len (fr := fr) (t := t) (b := b) l b hl
  have hB := goT_all (fr := fr) (t := t) (b := b) l b hb
  have hl' : ∀ p ∈ l, inB (goT fr t b l b).length p := fun p hp => by rw [hlen]; exact hl p hp
  have hall : allT t n (goT fr t b l b) l = true := by
    apply List.all_eq_true.2
    intro p hp
    rw [decide_eq_true_eq, goT_word hb hl hw ha hn hp]
    exact mvT_in ha.2.1 (allT_in hn hp)
  have hlen2 := goT_len (fr := t) (t := u) (b := goT fr t b l b) l (goT fr t b l b) hl'
  have hlen3 := goT_len (fr := fr) (t := u) (b := b) l b hl
  refine ⟨by rw [hlen]; exact hr, hall, ?_⟩
  refine wordT_ext (l := l) (goT_all l b hb) (goT_all l _ hB) (by rw [hlen2, hlen, hlen3]) (fun p hp => by rw [hlen3]; exact hl p hp) (fun p hp => ?_) (fun k hk => ?_)
  · rw [goT_word hB hl' hw ⟨ha.2.1, hu, ha.2.2⟩ hall hp, goT_word hb hl hw ha hn hp, goT_word hb hl hw ⟨ha.1, hu, ha.2.2⟩ hn hp, mvT_two ha.2.1 (allT_in hn hp)]
  · rw [goT_get l _ hl' k (fun p hp => .inr (hk p hp)), goT_get l b hl k (fun p hp => .inr (hk p hp)), goT_get l b hl k (fun p hp => .inr (hk p hp))]
/-- To the base itself: nothing is turned. -/
theorem goT_same {fr n : Int} {b l : List Int} (hb : AllB b) (hr : rrightT b.length l = true) (ha : goodR fr) (n0 : 0 ≤ n ∧ n ≤ 1048576) (hn : allT fr n b l = true) : goT fr fr b l b = b := by
  obtain ⟨hl, hw⟩ := right_in hr
  refine wordT_ext (l := l) hb (goT_all l b hb) (goT_len l b hl) hl (fun p hp => ?_) (fun k hk => goT_get l b hl k (fun p hp => .inr (hk p hp)))
  rw [goT_word hb hl hw ⟨ha, ha, n0⟩ hn hp, mvT_self]
end Go.Proofs.YtbfamjnnlcopiaaDoor
