/- Layer 17: RoP again -/
import Derived.Test.YtbfamjnnlcopiaaGreatDoorAuB
import Derived.Test.YtbfamjnnlcopiaaGreatDoorMhA
import Derived.Test.YtbfamjnnlcopiaaGreatDoorGzAI
import Derived.Test.YtbfamjnnlcopiaaGreatDoorGzAA
import Derived.RegionTactic
import Derived.ChangeAlike
import Derived.Deep.OwnRows
import Derived.OwnWalk
import Derived.Laws.AppendOwnNone
namespace Go.Proofs.YtbfamjnnlcopiaaGreatDoor
open Go.RowKit
set_option linter.unusedVariables false
set_option maxRecDepth 4000
/-- The places may stand in a table of so many bytes. -/
def rrightT (n : Int) (l : List Int) : Bool := decide (l.length ≤ 8192) && placedB (max 0 n) 0 l
theorem right_many {n : Int} {l : List Int} (h : 8192 < l.length) : rrightT n l = false := by
  rw [rrightT, decide_eq_false (by omega), Bool.false_and]
theorem right_few {n : Int} {l : List Int} (h : l.length ≤ 8192) : rrightT n l = placedB (max 0 n) 0 l := by
  rw [rrightT, decide_eq_true h, Bool.true_and]
theorem right_iff {n : Int} {l : List Int} : rrightT n l = true ↔ l.length ≤ 8192 ∧ placedB (max 0 n) 0 l = true := by
  simp [rrightT]

theorem gapsT_byte : ∀ (l : List Int) (f : Int), 0 ≤ f → placedB 65535 f l = true → AllB (gapsL f l)
  | [], _, _, _ => AllB.nil
  | p :: l, f, hf, h => by
    simp only [placedB, Bool.and_eq_true, decide_eq_true_eq] at h
    exact AllB.append (varL_byte _ (by omega) (by omega)) (gapsT_byte l (p + 8) (by omega) h.2)
def bodyT (l : List Int) : List Int := varL (l.length : Nat) ++ gapsL 0 l
/-- A table's bytes. -/
def bytesT (l : List Int) : List Int := if rrightT 65535 l = true then bodyT l else []
def errT (l : List Int) : Int := if rrightT 65535 l = true then 0 else 4
theorem right_max {l : List Int} : rrightT 65535 l = true ↔ l.length ≤ 8192 ∧ placedB 65535 0 l = true := right_iff
theorem bytesT_byte (l : List Int) : AllB (bytesT l) := by
  unfold bytesT
  split
  · rename_i h
    obtain ⟨h1, h2⟩ := right_max.1 h
    exact AllB.append (varL_byte _ (by omega) (by omega)) (gapsT_byte l 0 (by omega) h2)
  · exact AllB.nil
theorem gapsT_len : ∀ (l : List Int) (f : Int), (gapsL f l).length ≤ 10 * l.length
  | [], f => by simp [gapsL]
  | p :: l, f => by
    have := gapsT_len l (p + 8)
    have := varL_le ((p - f) / 8)
    simp only [gapsL, List.length_append, List.length_cons]
    omega
theorem bytesT_len (l : List Int) : (bytesT l).length ≤ 81930 := by
  unfold bytesT
  split
  · rename_i h
    obtain ⟨h1, h2⟩ := right_max.1 h
    have := varL_le (l.length : Nat)
    have := gapsT_len l 0
    simp only [bodyT, List.length_append]
    omega
  · simp

/-- What a table is read as: the places, what is left, the fault. -/
def readT (l : List Int) : List Int × List Int × Int :=
  if (upS l 0 8192).2.2 = 0 then fieldsK 65535 (upS l 0 8192).1.toNat 0 (upS l 0 8192).2.1 [] else ([], [], (upS l 0 8192).2.2)
theorem readT_bad {l r : List Int} {v e : Int} (h : upS l 0 8192 = (v, r, e)) (he : e ≠ 0) : readT l = ([], [], e) := by
  rw [readT, h]; simp only []; rw [if_neg he]
theorem readT_go {l r : List Int} {v : Int} (h : upS l 0 8192 = (v, r, 0)) : readT l = fieldsK 65535 v.toNat 0 r [] := by
  rw [readT, h]; simp only [if_true]
theorem fieldsT_back : ∀ (ts : List Int) (f : Int) (ps more : List Int), 0 ≤ f → f % 8 = 0 → placedB 65535 f ts = true → fieldsK 65535 ts.length f (gapsL f ts ++ more) ps = (ps ++ ts, more, 0)
  | [], f, ps, more, _, _, _ => by simp [fieldsK, gapsL]
  | p :: ts, f, ps, more, hf, h8, h => by
    simp only [placedB, Bool.and_eq_true, decide_eq_true_eq] at h
    rw [gapsL, List.length_cons, List.append_assoc]
    have hu := up_back ((p - f) / 8) 18446744073709551615 (gapsL (p + 8) ts ++ more) (by omega) (by omega) (by omega)
    rw [fields_go hu (by omega), show f + 8 * ((p - f) / 8) = p from by omega, fieldsT_back ts (p + 8) (ps ++ [p]) more (by omega) (by omega) h.2]
    simp
/-- What is read without a fault is a right table, and its bytes are those that were read. -/
theorem readT_good {l : List Int} {e : Int} {ps rest : List Int} (hb : AllB l) (h : readT l = (ps, rest, e)) :
    (e = 0 ∧ rrightT 65535 ps = true ∧ l = bytesT ps ++ rest) ∨ ((e = 3 ∨ e = 4) ∧ ps = [] ∧ rest = []) := by
  rcases up_cases l 8192 hb with ⟨v, r, hu, v0, v1, hl⟩ | ⟨e', hu, he⟩
  · have hr : AllB r := by rw [hl] at hb; exact hb.right
    rw [readT_go hu] at h
    by_cases hfe : e = 0
    · subst hfe
      obtain ⟨ts, h1, h2, h3, h4⟩ := fields_good 65535 v.toNat 0 r [] ps rest hr (by omega) (by omega) h
      rw [List.nil_append] at h1
      subst h1
      have hc : rrightT 65535 ps = true := right_max.2 ⟨by omega, h3⟩
      refine .inl ⟨rfl, hc, ?_⟩
      rw [bytesT, if_pos hc, bodyT, hl, h4, show ((ps.length : Nat) : Int) = v from by omega]
      simp [List.append_assoc]
    · have := fields_err 65535 v.toNat 0 r [] hr
      rw [h] at this
      simp only [Prod.mk.injEq] at this
      rcases this with q | q | q
      · exact absurd q hfe
      · exact .inr ⟨.inl q.2.2, q.1, q.2.1⟩
      · exact .inr ⟨.inr q.2.2, q.1, q.2.1⟩
  · rw [readT_bad hu (by omega)] at h
    simp only [Prod.mk.injEq] at h
    exact .inr ⟨by omega, h.1.symm, h.2.1.symm⟩
/-- What is written is read. -/
theorem readT_back {ps : List Int} (more : List Int) (h : rrightT 65535 ps = true) : readT (bytesT ps ++ more) = (ps, more, 0) := by
  obtain ⟨h1, h2⟩ := right_max.1 h
  rw [bytesT, if_pos h, bodyT, List.append_assoc]
  have e2 := up_back (ps.length : Nat) 8192 (gapsL 0 ps ++ more) (by omega) (by omega) (by omega)
  rw [readT_go e2, Int.toNat_natCast, fieldsT_back ps 0 [] more (by omega) (by omega) h2]
  simp

/-- The number of the eight bytes there. -/
def wordT (b : List Int) (p : Int) : Int := getL ((b.drop p.toNat).take 8)
def inT (fr n x : Int) : Prop := x = 0 ∨ (fr ≤ x ∧ x - fr < n)
instance (fr n x : Int) : Decidable (inT fr n x) := by unfold inT; infer_instance
def stepT (fr t : Int) (b o : List Int) (p : Int) : List Int := if wordT b p = 0 then o else overR o p.toNat (putL 8 (wordT b p - fr + t))
def goT (fr t : Int) (b l o : List Int) : List Int := l.foldl (stepT fr t b) o
def allT (fr n : Int) (b l : List Int) : Bool := l.all (fun p => decide (inT fr n (wordT b p)))
def argT (fr t n : Int) : Prop := goodR fr ∧ goodR t ∧ 0 ≤ n ∧ n ≤ 1048576
instance (fr t n : Int) : Decidable (argT fr t n) := by unfold argT; infer_instance
/-- What Apply answers. -/
def applyB (b l : List Int) (fr t n : Int) : List Int := if argT fr t n ∧ rrightT b.length l = true ∧ allT fr n b l = true then goT fr t b l b else []
def applyE (b l : List Int) (fr t n : Int) : Int := if argT fr t n then (if rrightT b.length l = true then (if allT fr n b l = true then 0 else 10) else 4) else 2
theorem apply_arg {b l : List Int} {fr t n : Int} (h : ¬ argT fr t n) : applyB b l fr t n = [] ∧ applyE b l fr t n = 2 := ⟨if_neg (fun q => h q.1), if_neg h⟩
theorem apply_form {b l : List Int} {fr t n : Int} (h : argT fr t n) (h1 : rrightT b.length l = false) : applyB b l fr t n = [] ∧ applyE b l fr t n = 4 :=
  ⟨if_neg (fun q => by rw [h1] at q; exact absurd q.2.1 (by decide)), by rw [applyE, if_pos h, if_neg (by rw [h1]; decide)]⟩
theorem apply_addr {b l : List Int} {fr t n : Int} (h : argT fr t n) (h1 : rrightT b.length l = true) (h2 : allT fr n b l = false) : applyB b l fr t n = [] ∧ applyE b l fr t n = 10 :=
  ⟨if_neg (fun q => by rw [h2] at q; exact absurd q.2.2 (by decide)), by rw [applyE, if_pos h, if_pos h1, if_neg (by rw [h2]; decide)]⟩
theorem apply_ok {b l : List Int} {fr t n : Int} (h : argT fr t n) (h1 : rrightT b.length l = true) (h2 : allT fr n b l = true) : applyB b l fr t n = goT fr t b l b ∧ applyE b l fr t n = 0 :=
  ⟨if_pos ⟨h, h1, h2⟩, by rw [applyE, if_pos h, if_pos h1, if_pos h2]⟩
theorem goT_snoc (fr t : Int) (b l o : List Int) (p : Int) : goT fr t b (l ++ [p]) o = stepT fr t b (goT fr t b l o) p := by
  unfold goT; rw [List.foldl_append]; rfl
theorem goT_take (fr t : Int) (b l o : List Int) (k : Nat) (hk : k < l.length) : goT fr t b (l.take (k + 1)) o = stepT fr t b (goT fr t b (l.take k) o) (l.getD k 0) := by
  rw [← goT_snoc, List.take_succ_eq_append_getElem hk]; simp [List.getD, hk]
theorem putT_len (n : Int) : (putL 8 n).length = 8 := by simp [putL]
/-- Places of a table: rising by eight at least, within the bytes. -/
theorem placed_apart (s : Int) : ∀ (l : List Int) (f : Int), 0 ≤ f → placedB s f l = true → l.Pairwise (fun x y => x + 8 ≤ y)
  | [], _, _, _ => List.Pairwise.nil
  | p :: l, f, hf, h => by
    simp only [placedB, Bool.and_eq_true, decide_eq_true_eq] at h
    exact List.pairwise_cons.2 ⟨fun y hy => (rplaced_all s l (p + 8) (by omega) h.2 y hy).1, placed_apart s l (p + 8) (by omega) h.2⟩
/-- A place that a word may be laid at. -/
def inB (n : Nat) (p : Int) : Prop := 0 ≤ p ∧ p + 8 ≤ (n : Int)
theorem right_in {b l : List Int} (h : rrightT b.length l = true) : (∀ p ∈ l, inB b.length p) ∧ l.Pairwise (fun x y => x + 8 ≤ y) := by
  obtain ⟨h1, h2⟩ := right_iff.1 h
  have e : max 0 ((b.length : Nat) : Int) = ((b.length : Nat) : Int) := by omega
  rw [e] at h2
  exact ⟨fun p hp => by have := rplaced_all _ l 0 (by omega) h2 p hp; exact ⟨by omega, by omega⟩, placed_apart _ l 0 (by omega) h2⟩
theorem overT_get {l b : List Int} {o k : Nat} (h : o + b.length ≤ l.length) (hk : k < o ∨ o + b.length ≤ k) : (overR l o b)[k]? = l[k]? := by
  unfold overR
  rcases hk with hk | hk
  · rw [List.append_assoc, List.getElem?_append_left (by rw [List.length_take]; omega), List.getElem?_take, if_pos hk]
  · have e : (l.take o ++ b).length = o + b.length := by simp; omega
    rw [List.getElem?_append_right (by omega), e, List.getElem?_drop]
    congr 1; omega
theorem overT_at {l b : List Int} {o k : Nat} (h : o + b.length ≤ l.length) (hk : k < b.length) : (overR l o b)[o + k]? = b[k]? := by
  unfold overR
  have e : (l.take o).length = o := by simp; omega
  rw [List.append_assoc, List.getElem?_append_right (by omega), e, List.getElem?_append_left (by omega)]
  congr 1; omega
theorem stepT_len {fr t : Int} {b o : List Int} {p : Int} (h : inB o.length p) : (stepT fr t b o p).length = o.length := by
  unfold stepT
  split
  · rfl
  · exact overR_len (by rw [putT_len]; have := h.1; have := h.2; omega)
theorem goT_len {fr t : Int} {b : List Int} : ∀ (l o : List Int), (∀ p ∈ l, inB o.length p) → (goT fr t b l o).length = o.length
  | [], o, _ => rfl
  | p :: l, o, h => by
    have e := stepT_len (fr := fr) (t := t) (b := b) (h p List.mem_cons_self)
    show (goT fr t b l (stepT fr t b o p)).length = _
    rw [goT_len l _ (fun q hq => by rw [e]; exact h q (List.mem_cons_of_mem _ hq)), e]
theorem stepT_all {fr t : Int} {b o : List Int} {p : Int} (h : AllB o) : AllB (stepT fr t b o p) := by
  unfold stepT
  split
  · exact h
  · exact h.over (putL_byte 8 _) _
theorem goT_all {fr t : Int} {b : List Int} : ∀ (l o : List Int), AllB o → AllB (goT fr t b l o)
  | [], o, h => h
  | p :: l, o, h => goT_all l _ (stepT_all h)
theorem stepT_get {fr t : Int} {b o : List Int} {p : Int} (h : inB o.length p) {k : Nat} (hk : (k : Int) < p ∨ p + 8 ≤ (k : Int)) : (stepT fr t b o p)[k]? = o[k]? := by
  unfold stepT
  split
  · rfl
  · exact overT_get (by rw [putT_len]; have := h.1; have := h.2; omega) (by rw [putT_len]; have := h.1; omega)
theorem goT_get {fr t : Int} {b : List Int} : ∀ (l o : List Int), (∀ p ∈ l, inB o.length p) → ∀ k : Nat, (∀ p ∈ l, wordT b p = 0 ∨ (k : Int) < p ∨ p + 8 ≤ (k : Int)) → (goT fr t b l o)[k]? = o[k]?
  | [], o, _, k, _ => rfl
  | p :: l, o, h, k, hk => by
    have hp := h p List.mem_cons_self
    have e := stepT_len (fr := fr) (t := t) (b := b) hp
    show (goT fr t b l (stepT fr t b o p))[k]? = _
    rw [goT_get l _ (fun q hq => by rw [e]; exact h q (List.mem_cons_of_mem _ hq)) k (fun q hq => hk q (List.mem_cons_of_mem _ hq))]
    rcases hk p List.mem_cons_self with q | q
    · unfold stepT; rw [if_pos q]
    · exact stepT_get hp q
/-- The bytes of a word that isn't 0, behind all steps. -/
theorem goT_at {fr t : Int} {b : List Int} : ∀ (l o : List Int), (∀ p ∈ l, inB o.length p) → l.Pairwise (fun x y => x + 8 ≤ y) → ∀ p ∈ l, wordT b p ≠ 0 → ∀ j : Nat, j < 8 → (goT fr t b l o)[p.toNat + j]? = (putL 8 (wordT b p - fr + t))[j]?
  | [], o, _, _, p, hp, _, _, _ => by cases hp
  | q :: l, o, h, hw, p, hp, hne, j, hj => by
    have hq := h q List.mem_cons_self
    have e := stepT_len (fr := fr) (t := t) (b := b) hq
    have hl : ∀ z ∈ l, inB (stepT fr t b o q).length z := fun z hz => by rw [e]; exact h z (List.mem_cons_of_mem _ hz)
    obtain ⟨p1, p2⟩ := List.pairwise_cons.1 hw
    show (goT fr t b l (stepT fr t b o q))[p.toNat + j]? = _
    rcases List.mem_cons.1 hp with rfl | hp
    · rw [goT_get l _ hl _ (fun z hz => .inr (.inl (by have := p1 z hz; have := hq.1; omega)))]
      unfold stepT
      rw [if_neg hne]
      exact overT_at (by rw [putT_len]; have := hq.1; have := hq.2; omega) (by rw [putT_len]; exact hj)
    · exact goT_at l _ hl p2 p hp hne j hj
theorem getT_put (k : Nat) : ∀ n : Int, 0 ≤ n → getL (putL k n) = n % 256 ^ k := by
  induction k with
  | zero => intro n h; simp [putL, getL]
  | succ k ih =>
    intro n h
    have hp : (0 : Int) < 256 ^ k := Int.pow_pos (by decide)
    rw [putL, getL, ih (n / 256) (by omega), show (256 : Int) ^ (k + 1) = 256 * 256 ^ k from by rw [Int.pow_succ]; exact Int.mul_comm _ _]
    rw [Int.emod_def (n / 256), Int.emod_def n (256 * 256 ^ k), ← Int.ediv_ediv_of_nonneg (by omega)]
    rw [Int.mul_sub, Int.mul_assoc]
    omega
theorem getT_put8 (n : Int) (h : 0 ≤ n) (h1 : n ≤ 18446744073709551615) : getL (putL 8 n) = n := by
  rw [getT_put 8 n h]; exact Int.emod_eq_of_lt h (by omega)
theorem putT_get : ∀ (l : List Int), AllB l → putL l.length (getL l) = l
  | [], _ => rfl
  | x :: l, h => by
    have hx := h x List.mem_cons_self
    have ht : AllB l := fun y hy => h y (List.mem_cons_of_mem _ hy)
    rw [List.length_cons, putL, getL, show (x + 256 * getL l) % 256 = x from by omega, show (x + 256 * getL l) / 256 = getL l from by omega, putT_get l ht]
theorem wordT_bytes {b : List Int} {p : Int} (hb : AllB b) (h : inB b.length p) {j : Nat} (hj : j < 8) : b[p.toNat + j]? = (putL 8 (wordT b p))[j]? := by
  have hl : ((b.drop p.toNat).take 8).length = 8 := by have := h.1; have := h.2; simp; omega
  have e := putT_get _ ((hb.drop p.toNat).take 8)
  rw [hl] at e
  unfold wordT
  rw [e, List.getElem?_take, if_pos hj, List.getElem?_drop]
theorem wordT_range {b : List Int} (hb : AllB b) (p : Int) : 0 ≤ wordT b p ∧ wordT b p ≤ 18446744073709551615 := by
  have hx : ∀ x ∈ (b.drop p.toNat).take 8, 0 ≤ x ∧ x ≤ 255 := (hb.drop p.toNat).take 8
  refine ⟨getL_nonneg _ hx, ?_⟩
  have h1 := getL_lt _ hx
  have h2 : ((b.drop p.toNat).take 8).length ≤ 8 := List.length_take_le _ _
  have h3 := p256_mono _ _ h2
  have h4 : (256 : Int) ^ 8 = 18446744073709551616 := by decide
  unfold wordT
  omega
/-- Two lists whose words at p are alike there. -/
theorem wordT_of {b c : List Int} {p : Int} {v : Int} (hc : AllB c) (h : inB c.length p) (v0 : 0 ≤ v) (v1 : v ≤ 18446744073709551615) (he : ∀ j : Nat, j < 8 → c[p.toNat + j]? = (putL 8 v)[j]?) : wordT c p = v := by
  have e : (c.drop p.toNat).take 8 = putL 8 v := by
    apply List.ext_getElem?
    intro j
    by_cases hj : j < 8
    · rw [List.getElem?_take, if_pos hj, List.getElem?_drop, he j hj]
    · rw [List.getElem?_take, if_neg hj, List.getElem?_eq_none (by rw [putT_len]; omega)]
  unfold wordT
  rw [e, getT_put8 v v0 v1]
/-- An address at another base. -/
def mvT (fr t x : Int) : Int := if x = 0 then 0 else x - fr + t
theorem goT_word {fr t n : Int} {b l : List Int} (hb : AllB b) (hl : ∀ p ∈ l, inB b.length p) (hw : l.Pairwise (fun x y => x + 8 ≤ y)) (ha : argT fr t n) (hn : allT fr n b l = true) {p : Int} (hp : p ∈ l) : wordT (goT fr t b l b) p = mvT fr t (wordT b p) := by
  have hlen := goT_len (fr := fr) (t := t) (b := b) l b hl
  have hin := hl p hp
  by_cases h0 : wordT b p = 0
  · rw [mvT, if_pos h0]
    refine wordT_of (b := b) (goT_all l b hb) (by rw [hlen]; exact hin) (by omega) (by omega) (fun j hj => ?_)
    rw [goT_get l b hl _ (fun q hq => ?_), wordT_bytes hb hin hj, h0]
    by_cases e : q = p
    · exact .inl (by rw [e]; exact h0)
    · right
      have hin' := hl q hq
      have h1 := hin.1
      have h2 := hin'.1
      have : p + 8 ≤ q ∨ q + 8 ≤ p := by
        obtain ⟨i, hi, e1⟩ := List.getElem_of_mem hp
        obtain ⟨k, hk, e2⟩ := List.getElem_of_mem hq
        rcases Nat.lt_trichotomy i k with c | c | c
        · left; rw [← e1, ← e2]; exact List.pairwise_iff_getElem.1 hw i k hi hk c
        · subst c; exact absurd (e2.symm.trans e1) e
        · right; rw [← e1, ← e2]; exact List.pairwise_iff_getElem.1 hw k i hk hi c
      omega
  · rw [mvT, if_neg h0]
    have hq : inT fr n (wordT b p) := by
      have := List.all_eq_true.1 hn p hp
      simpa using this
    obtain ⟨g1, g2, n0, n1⟩ := ha
    unfold goodR at g1 g2
    rcases hq with q | ⟨q1, q2⟩
    · exact absurd q h0
    · exact wordT_of (b := b) (goT_all l b hb) (by rw [hlen]; exact hin) (by omega) (by omega) (fun j hj => goT_at l b hl hw p hp h0 j hj)
/-- Bytes of one length, alike outside the words of a table, and with the same words, are the same. -/
theorem wordT_ext {b c l : List Int} (hb : AllB b) (hc : AllB c) (hlen : c.length = b.length) (hl : ∀ p ∈ l, inB b.length p) (hw : ∀ p ∈ l, wordT c p = wordT b p) (he : ∀ k : Nat, (∀ p ∈ l, (k : Int) < p ∨ p + 8 ≤ (k : Int)) → c[k]? = b[k]?) : c = b := by
  apply List.ext_getElem?
  intro k
  by_cases h : ∀ p ∈ l, (k : Int) < p ∨ p + 8 ≤ (k : Int)
  · exact he k h
  · have : ∃ p, p ∈ l ∧ ¬ ((k : Int) < p ∨ p + 8 ≤ (k : Int)) := by
      rcases Classical.em (∃ p, p ∈ l ∧ ¬ ((k : Int) < p ∨ p + 8 ≤ (k : Int))) with q | q
      · exact q
      · exact absurd (fun p hp => Classical.byContradiction (fun c => q ⟨p, hp, c⟩)) h
    obtain ⟨p, hp, hk⟩ := this
    have hin := hl p hp
    have h0 := hin.1
    obtain ⟨j, hj, rfl⟩ : ∃ j : Nat, j < 8 ∧ k = p.toNat + j := ⟨k - p.toNat, by omega, by omega⟩
    rw [wordT_bytes hc (by rw [hlen]; exact hin) hj, wordT_bytes hb hin hj, hw p hp]
end Go.Proofs.YtbfamjnnlcopiaaGreatDoor

/- Layer 17: SetU again -/
namespace Go.Proofs.YtbfamjnnlcopiaaGreatDoor
set_option linter.unusedVariables false
set_option maxRecDepth 4000
/-- Which places the bytes say. -/
def fB (l : List Int) (i : Nat) : Bool := (l.getD (i / 8) 0).toNat.testBit (i % 8)
/-- Of these the first p. -/
def cutP (l : List Int) (p : Nat) : Nat → Bool := fun i => decide (i < p) && fB l i

theorem fB_at (l : List Int) (j k : Nat) (hk : k < 8) : fB l (8 * j + k) = (l.getD j 0).toNat.testBit k := by
  rw [fB, show (8 * j + k) / 8 = j from by omega, show (8 * j + k) % 8 = k from by omega]

theorem fB_lt (l : List Int) (i : Nat) (h : fB l i = true) : i < 8 * l.length := by
  rcases Nat.lt_or_ge (i / 8) l.length with h' | h'
  · omega
  · rw [fB, List.getD, List.getElem?_eq_none h'] at h
    simp at h

theorem cutP_all (l : List Int) : ∀ i, cutP l (8 * l.length) i = fB l i := by
  intro i
  rw [cutP]
  cases h : fB l i
  · simp
  · have := fB_lt l i h
    simp [this]

theorem cutP_zero (l : List Int) : ∀ i, false = cutP l 0 i := fun i => by simp [cutP]

theorem byte_lt (l : List Int) (h : ∀ x ∈ l, 0 ≤ x ∧ x ≤ 255) (j : Nat) : 0 ≤ l.getD j 0 ∧ l.getD j 0 ≤ 255 := by
  rcases Nat.lt_or_ge j l.length with h' | h'
  · have : l.getD j 0 ∈ l := by simp [List.getD, h']
    exact h _ this
  · simp [List.getD, List.getElem?_eq_none h']

/-- Bits of the word k / 8 where a byte is laid in. -/
theorem read_word (l : List Int) (h : ∀ x ∈ l, 0 ≤ x ∧ x ≤ 255) (k : Nat) : wd (cutP l (8 * k)) (k / 8) ||| (l.getD k 0).toNat * 2 ^ (k % 8 * 8) = wd (cutP l (8 * (k + 1))) (k / 8) := by
  have hb := byte_lt l h k
  have h1 : (l.getD k 0).toNat < 2 ^ 8 := by omega
  have h2 : (l.getD k 0).toNat * 2 ^ (k % 8 * 8) < 2 ^ 64 := by
    have : (l.getD k 0).toNat * 2 ^ (k % 8 * 8) < 2 ^ 8 * 2 ^ (k % 8 * 8) := Nat.mul_lt_mul_of_pos_right h1 (Nat.two_pow_pos _)
    rw [← Nat.pow_add] at this
    exact Nat.lt_of_lt_of_le this (Nat.pow_le_pow_right (by decide) (by omega))
  refine eq_numOf (Nat.or_lt_two_pow (numOf_lt _ 64) h2) fun t ht => ?_
  rw [Nat.testBit_or, wd_bit _ _ _ ht, Nat.testBit_mul_two_pow, cutP, cutP]
  by_cases ha : t < k % 8 * 8
  · simp [show ¬ k % 8 * 8 ≤ t by omega, show 64 * (k / 8) + t < 8 * k by omega, show 64 * (k / 8) + t < 8 * (k + 1) by omega]
  · by_cases hc : t < k % 8 * 8 + 8
    · have e := fB_at l k (t - k % 8 * 8) (by omega)
      rw [show 8 * k + (t - k % 8 * 8) = 64 * (k / 8) + t from by omega] at e
      simp [show k % 8 * 8 ≤ t by omega, show ¬ 64 * (k / 8) + t < 8 * k by omega, show 64 * (k / 8) + t < 8 * (k + 1) by omega, e]
    · have hz : (l.getD k 0).toNat.testBit (t - k % 8 * 8) = false :=
        Nat.testBit_lt_two_pow (Nat.lt_of_lt_of_le h1 (Nat.pow_le_pow_right (by decide) (by omega)))
      rw [hz]
      simp [show ¬ 64 * (k / 8) + t < 8 * k by omega, show ¬ 64 * (k / 8) + t < 8 * (k + 1) by omega]

theorem read_else (l : List Int) (k j : Nat) (h : j ≠ k / 8) : wd (cutP l (8 * (k + 1))) j = wd (cutP l (8 * k)) j := by
  refine numOf_congr fun t ht => ?_
  rw [cutP, cutP]
  congr 1
  by_cases h' : 64 * j + t < 8 * k
  · simp [h', show 64 * j + t < 8 * (k + 1) by omega]
  · simp [h', show ¬ 64 * j + t < 8 * (k + 1) by omega]

/-- Is what is left over 0? -/
theorem left_over (l : List Int) (hb : ∀ x ∈ l, 0 ≤ x ∧ x ≤ 255) (n : Nat) (hl : l.length = (n + 7) / 8) (h : 0 < n % 8) (hz : (l.getD ((n + 7) / 8 - 1) 0).toNat / 2 ^ (n % 8) = 0) : ∀ i, fB l i = true → i < n := by
  intro i hi
  have h1 := fB_lt l i hi
  rcases Nat.lt_or_ge i n with h' | h'
  · exact h'
  · have e : i / 8 = (n + 7) / 8 - 1 := by omega
    rw [fB, e, show i % 8 = n % 8 + (i - n) from by omega, ← Nat.testBit_shiftRight, Nat.shiftRight_eq_div_pow, hz] at hi
    simp at hi

theorem left_whole (l : List Int) (n : Nat) (hl : l.length = (n + 7) / 8) (h : n % 8 = 0) : ∀ i, fB l i = true → i < n := by
  intro i hi
  have h1 := fB_lt l i hi
  omega

theorem left_some (l : List Int) (hb : ∀ x ∈ l, 0 ≤ x ∧ x ≤ 255) (n : Nat) (hl : l.length = (n + 7) / 8) (h : 0 < n % 8) (hz : (l.getD ((n + 7) / 8 - 1) 0).toNat / 2 ^ (n % 8) ≠ 0) : ∃ i, fB l i = true ∧ n ≤ i := by
  have hb' := byte_lt l hb ((n + 7) / 8 - 1)
  obtain ⟨t, ht⟩ := Nat.exists_testBit_of_ne_zero hz
  rw [← Nat.shiftRight_eq_div_pow, Nat.testBit_shiftRight] at ht
  have h8 : n % 8 + t < 8 := by
    rcases Nat.lt_or_ge (n % 8 + t) 8 with h' | h'
    · exact h'
    · have : (l.getD ((n + 7) / 8 - 1) 0).toNat < 2 ^ (n % 8 + t) := Nat.lt_of_lt_of_le (show _ < 2 ^ 8 by omega) (Nat.pow_le_pow_right (by decide) h')
      rw [Nat.testBit_lt_two_pow this] at ht
      cases ht
  refine ⟨8 * ((n + 7) / 8 - 1) + (n % 8 + t), ?_, by omega⟩
  rw [fB_at l _ _ h8]
  exact ht

/-- The bytes of a set say that set. -/
theorem fB_bys (f : Nat → Bool) (n : Nat) (h : ∀ i, f i = true → i < n) (l : List Int) (hl : l.length = (n + 7) / 8) (hc : ∀ j, j < (n + 7) / 8 → l.getD j 0 = (byt f j : Nat)) : ∀ i, fB l i = f i := by
  intro i
  rcases Nat.lt_or_ge (i / 8) ((n + 7) / 8) with h' | h'
  · rw [fB, hc _ h', Int.toNat_natCast, byt, numOf_bit]
    simp only [show i % 8 < 8 by omega, decide_true, Bool.true_and]
    congr 1
    omega
  · have e1 : fB l i ≠ true := fun e => by have := fB_lt l i e; omega
    have e2 : f i ≠ true := fun e => by have := h i e; omega
    simp at e1 e2
    rw [e1, e2]
end Go.Proofs.YtbfamjnnlcopiaaGreatDoor

/- Layer 17: SetE again -/
namespace Go.Proofs.YtbfamjnnlcopiaaGreatDoor
open Go.RowKit
set_option linter.unusedVariables false
set_option maxRecDepth 4000
theorem parts8 (x : Int) (n : Nat) (w : World) (hx : x = n) (hn : n ≤ 65536) :
    Calls Tryz.prog 104 #[.int .i64 x, .int .i64 8] w fun r w' => ∃ c : Nat, r = .returned (.int .i64 c) ∧ c ≤ 8192 ∧ Hid (c = (n + 7) / 8) ∧ w = w' := by
  subst hx
  refine (sparts_any n 8 w hn (.inl rfl)).mono ?_
  rintro r w' ⟨rfl, rfl⟩
  exact ⟨_, rfl, by omega, rfl, rfl⟩

end Go.Proofs.YtbfamjnnlcopiaaGreatDoor

/- Layer 17: SetF again -/
namespace Go.Proofs.YtbfamjnnlcopiaaGreatDoor
open Go.RowKit
set_option linter.unusedVariables false
set_option maxRecDepth 4000
/-- The bytes of a set of n places. -/
def bysL (f : Nat → Bool) (m : Nat) : List Int := (List.range m).map (fun j => ((byt f j : Nat) : Int))

theorem bysL_len (f : Nat → Bool) (m : Nat) : (bysL f m).length = m := by simp [bysL]
theorem bysL_at (f : Nat → Bool) (m j : Nat) (h : j < m) : (bysL f m).getD j 0 = (byt f j : Nat) := by simp [bysL, List.getD, h]

/-- The first k bytes lie in the block o. -/
structure Filled (wr : World) (o m k : Nat) (f : Nat → Bool) : Prop where
  cell : ∀ j, j < m → wr.cell? ⟨o, j, none⟩ = some (.int .u8 (if j < k then (byt f j : Nat) else 0 : Nat))
  thawed : ∀ j, wr.frozen? ⟨o, j, none⟩ = false
  size : o < wr.heap.size

theorem Filled.more {wr : World} {o m k : Nat} {f : Nat → Bool} (h : Filled wr o m k f) (hk : k < m) : Filled (wr.setCell ⟨o, k, none⟩ (.int .u8 (byt f k : Nat))) o m (k + 1) f where
  cell := fun j hj => by
    by_cases e : j = k
    · subst e
      rw [cell_set (h.cell j hj), if_pos (by omega)]
    · rw [cell_else e, h.cell j hj]
      by_cases h' : j < k
      · rw [if_pos h', if_pos (by omega)]
      · rw [if_neg h', if_neg (by omega)]
  thawed := fun j => by rw [frozen_set]; exact h.thawed j
  size := by simpa using h.size

theorem Filled.isL {wr : World} {o m : Nat} {f : Nat → Bool} (h : Filled wr o m m f) : IsL wr .u8 (some ⟨o, 0, none⟩) (bysL f m) := by
  refine .inr ⟨o, 0, rfl, h.size, fun i hi => ?_⟩
  rw [bysL_len] at hi
  rw [Nat.zero_add, h.cell i hi, if_pos hi, bysL_at f m i hi]

theorem byte_int (f : Nat → Bool) (k : Nat) : ((wd f (k / 8) : Nat) : Int) / 2 ^ (k % 8 * 8) % 256 = (byt f k : Nat) := by
  have e : (((wd f (k / 8) : Nat) : Int) / 2 ^ (k % 8 * 8)) = ((wd f (k / 8) / 2 ^ (k % 8 * 8) : Nat) : Int) := by simp
  rw [e, ← byte_word f k]
  omega

set_option maxHeartbeats 1000000 in
theorem sbytes_any (b g n : Nat) (f : Nat → Bool) (w : World) (hS : SetAt w b g n f) :
    Calls Tryz.prog 80 #[.pointer (some ⟨b, 0, none⟩)] w fun e w' => e = .returned (.slice (some ⟨w.heap.size, 0, none⟩) ((n + 7) / 8) ((n + 7) / 8)) ∧ Filled w' w.heap.size ((n + 7) / 8) ((n + 7) / 8) f ∧ Below w.heap.size w w' := by
  have few := hS.few
  have hl := hS.len
  have HS : Hid (SetAt w b g n f) := hS
  have hmk := fun c : Nat => fun hc : c ≤ 8192 => run_make_row' (P := Tryz.prog) 25 5 (.int .u8 0) 1 Tryz.underlying25 Tryz.info5 rfl .i64 .i64 c (by omega) (by omega)
  have HM : Hid (∀ c : Nat, c ≤ 8192 → ∀ w : World, (Instr.makeSlice 25 (.int .i64 (c : Int)) (.int .i64 (c : Int))).run Tryz.prog w = .ok (.slice (some ⟨w.heap.size, 0, none⟩) c c) (w.alloc (.cells (madeCells #[.int .u8 0] c) 5))) := hmk
  clear hmk hS
  obtain ⟨c, hcn⟩ : ∃ c : Nat, (n + 7) / 8 = c := ⟨_, rfl⟩
  have HN : Hid ((n + 7) / 8 = c) := hcn
  rw [hcn]
  clear hcn
  go_enter Tryz.func80, Tryz.ntmps80
  go_wp2_with (first | (go_at_call 108; refine (slen_any b n _ hl).mono ?_; rintro e w' ⟨rfl, rfl⟩) | (go_at_call 104; refine (parts8 _ n _ rfl few).mono ?_; rintro e w' ⟨c', rfl, hc, HC, rfl⟩; obtain rfl : c = c' := HN.out.symm.trans HC.out.symm; have hmk := HM.out c hc))
  go_loopw [11] (fun iv wr => ∃ k : Nat, k ≤ c ∧ iv = .int .i64 k ∧ Filled wr w.heap.size c k f ∧ Below w.heap.size w wr) (fun iv _ => c - (intOf iv).toNat)
  case atStart =>
    refine ⟨0, Nat.zero_le _, rfl, ⟨fun j hj => ?_, fun j => ?_, by simp⟩, (Below.refl _ w).alloc (Nat.le_refl _) _⟩
    · rw [World.cell?_alloc_at _ _ _ _ rfl, made_cell _ _ _ hj]; rfl
    · rw [World.frozen?_alloc_at _ _ _ _ rfl]
  case round =>
    obtain ⟨k, hk, rfl, hF, hB⟩ := hrel
    have HF : Hid (Filled _ w.heap.size c k f) := hF
    have HB : Hid (Below w.heap.size w _) := hB
    by_cases hlt : k < c
    · have hS2 := HS.out.keepAll hB
      have hcn := HN.out
      have hs := hS2.words
      have hj : k / 8 < (n + 63) / 64 := by omega
      have hw := hS2.word (k / 8) hj
      have hcell := hF.cell k hlt
      rw [if_neg (Nat.lt_irrefl k)] at hcell
      have hz := hF.thawed k
      have hwl := wd_lt f (k / 8)
      have HY : Hid (((wd f (k / 8) : Nat) : Int) / 2 ^ (k % 8 * 8) % 256 = (byt f k : Nat)) := byte_int f k
      clear hS2 hF hB hcn
      go_wp2
      go_roundw
      case rel =>
        refine ⟨k + 1, by omega, by go_num, ?_, ?_⟩
        · rw [HY.out]; exact HF.out.more hlt
        · exact HB.out.setCell (Nat.le_refl _) _
      case measure => simp [intOf]; omega
    · obtain rfl : k = c := by omega
      clear hF hB
      go_wp2
      go_ret
      exact ⟨rfl, HF.out, HB.out⟩
end Go.Proofs.YtbfamjnnlcopiaaGreatDoor
