/- Plain mathematics of layer 12: rows, handles, which index is given out, what a handle leads to. -/
namespace Go.Proofs.Ytjdgildeilcfiaa
set_option linter.unusedVariables false

/-- A row: its last generation, whether it is live, of which kind, at which place. -/
structure Rw where
  gen : Int
  live : Bool
  kind : Int
  pl : Int
def zr : Rw := ⟨0, false, 0, 0⟩
/-- Can it be given out? -/
def canG (r : Rw) : Bool := !r.live && decide (r.gen < 65535)
/-- The least one that can be given out. -/
def nxL (l : List Rw) : Nat := l.findIdx canG
theorem nx_le (l : List Rw) : nxL l ≤ l.length := List.findIdx_le_length
theorem nx_at {l : List Rw} (h : nxL l < l.length) : canG (l[nxL l]) = true := List.findIdx_getElem (p := canG) (w := h)
theorem nx_no {l : List Rw} {i : Nat} (h : i < nxL l) : canG (l[i]'(Nat.lt_of_lt_of_le h (nx_le l))) = false := by
  have := List.not_of_lt_findIdx (p := canG) h
  simpa using this
theorem nx_eq {l : List Rw} {i : Nat} (hi : i < l.length) (h1 : canG l[i] = true) (h2 : ∀ j (hj : j < i), canG (l[j]'(by omega)) = false) : nxL l = i := by
  rcases Nat.lt_trichotomy (nxL l) i with h | h | h
  · have := h2 _ h
    rw [nx_at (by omega)] at this
    cases this
  · exact h
  · have := nx_no h
    rw [h1] at this
    cases this
theorem nx_none {l : List Rw} (h : ∀ j (hj : j < l.length), canG l[j] = false) : nxL l = l.length := by
  rcases Nat.lt_or_ge (nxL l) l.length with k | k
  · have := h _ k
    rw [nx_at k] at this
    cases this
  · have := nx_le l
    omega
/-- The handle of an index and a generation. -/
def ofN (i g : Int) : Nat := if 1 ≤ i ∧ i ≤ 4096 ∧ 1 ≤ g ∧ g ≤ 65535 then (i + 65536 * g).toNat else 0
theorem of_in {i g : Int} (h : 1 ≤ i ∧ i ≤ 4096 ∧ 1 ≤ g ∧ g ≤ 65535) : ofN i g = (i + 65536 * g).toNat := if_pos h
theorem of_out {i g : Int} (h : ¬ (1 ≤ i ∧ i ≤ 4096 ∧ 1 ≤ g ∧ g ≤ 65535)) : ofN i g = 0 := if_neg h
theorem of_lt (i g : Int) : ofN i g < 4294967296 := by unfold ofN; split <;> omega
/-- What is right of a row. -/
def okR (r : Rw) : Prop := 0 ≤ r.gen ∧ r.gen ≤ 65535 ∧ (r.live = true → 1 ≤ r.gen) ∧ (r.live = false → r.kind = 0 ∧ r.pl = 0)
/-- Rows that a table may have. -/
structure Gd (n : Nat) (l : List Rw) : Prop where
  n1 : 1 ≤ n
  n2 : n ≤ 4096
  len : l.length ≤ n
  ok : ∀ r ∈ l, okR r
  last : ∀ r, l.getLast? = some r → r.gen ≠ 0
theorem Gd.nil {n : Nat} (h1 : 1 ≤ n) (h2 : n ≤ 4096) : Gd n [] := ⟨h1, h2, Nat.zero_le _, fun r hr => by simp at hr, fun r hr => by simp at hr⟩
theorem Gd.at {n : Nat} {l : List Rw} (h : Gd n l) {i : Nat} (hi : i < l.length) : okR l[i] := h.ok _ (List.getElem_mem hi)
/-- A handle leads to the i-th row. -/
def LvAt (l : List Rw) (h i : Nat) : Prop := ∃ r, l[i]? = some r ∧ r.live = true ∧ r.gen = (h / 65536 : Nat) ∧ h % 65536 = i + 1
theorem LvAt.one {l : List Rw} {h i j : Nat} (a : LvAt l h i) (b : LvAt l h j) : i = j := by
  obtain ⟨_, _, _, _, e1⟩ := a
  obtain ⟨_, _, _, _, e2⟩ := b
  omega
theorem LvAt.lt {l : List Rw} {h i : Nat} (a : LvAt l h i) : i < l.length := by
  obtain ⟨r, e, _⟩ := a
  exact (List.getElem?_eq_some_iff.1 e).1
theorem LvAt.live {l : List Rw} {h i : Nat} (a : LvAt l h i) : (l[i]'a.lt).live = true := by
  obtain ⟨r, e, k, _⟩ := a
  obtain ⟨h1, h2⟩ := List.getElem?_eq_some_iff.1 e
  rw [h2]; exact k
theorem LvAt.gen {l : List Rw} {h i : Nat} (a : LvAt l h i) : (l[i]'a.lt).gen = (h / 65536 : Nat) := by
  obtain ⟨r, e, _, k, _⟩ := a
  obtain ⟨h1, h2⟩ := List.getElem?_eq_some_iff.1 e
  rw [h2]; exact k
theorem lvAt_of {l : List Rw} {h i : Nat} (hi : i < l.length) (h1 : l[i].live = true) (h2 : l[i].gen = (h / 65536 : Nat)) (h3 : h % 65536 = i + 1) : LvAt l h i := ⟨l[i], List.getElem?_eq_getElem hi, h1, h2, h3⟩
/-- A live row's handle leads to it, and none else does. -/
theorem of_row {l : List Rw} {n : Nat} (hg : Gd n l) {i : Nat} (hi : i < l.length) (hl : l[i].live = true) (h : Nat) : ofN ((i : Int) + 1) l[i].gen = h ↔ LvAt l h i := by
  obtain ⟨o1, o2, o3, _⟩ := hg.at hi
  have := o3 hl
  have := hg.len
  have := hg.n2
  rw [of_in (by omega)]
  constructor
  · intro e
    exact lvAt_of hi hl (by omega) (by omega)
  · intro e
    have e1 := e.gen
    obtain ⟨_, _, _, _, e2⟩ := e
    omega
/-- All rows, to the last index. -/
def pad (n : Nat) (l : List Rw) : List Rw := l ++ List.replicate (n - l.length) zr
theorem pad_len {n : Nat} {l : List Rw} (h : l.length ≤ n) : (pad n l).length = n := by simp [pad]; omega
theorem pad_at {n : Nat} {l : List Rw} {i : Nat} (h : i < l.length) (h' : i < (pad n l).length) : (pad n l)[i] = l[i] := by
  exact List.getElem_append_left h
theorem pad_z {n : Nat} {l : List Rw} {i : Nat} (h : l.length ≤ i) (h' : i < (pad n l).length) : (pad n l)[i] = zr := by
  refine (List.getElem_append_right (as := l) (bs := List.replicate (n - l.length) zr) h).trans ?_
  simp
theorem pad_nx {n : Nat} {l : List Rw} (h : l.length ≤ n) : nxL (pad n l) = nxL l := by
  have hl := pad_len h
  rcases Nat.lt_or_ge (nxL l) l.length with k | k
  · refine nx_eq (by omega) ?_ (fun j hj => ?_)
    · rw [pad_at k]; exact nx_at k
    · rw [pad_at (by omega)]; exact nx_no hj
  · have e : nxL l = l.length := by have := nx_le l; omega
    rcases Nat.lt_or_ge l.length n with q | q
    · rw [e]
      refine nx_eq (by omega) ?_ (fun j hj => ?_)
      · rw [pad_z (Nat.le_refl _)]; rfl
      · rw [pad_at hj]; exact nx_no (by omega)
    · rw [e]
      refine (nx_none (fun j hj => ?_)).trans (by omega)
      rw [pad_at (by omega)]; exact nx_no (by omega)
theorem pad_lv {n : Nat} {l : List Rw} {h i : Nat} : LvAt (pad n l) h i ↔ LvAt l h i := by
  constructor
  · intro e
    have h1 := e.lt
    rcases Nat.lt_or_ge i l.length with k | k
    · have h2 := e.live
      have h3 := e.gen
      obtain ⟨_, _, _, _, h4⟩ := e
      rw [pad_at k] at h2 h3
      exact lvAt_of k h2 h3 h4
    · have h2 := e.live
      rw [pad_z k] at h2
      cases h2
  · intro e
    have h1 := e.lt
    have h2 := e.live
    have h3 := e.gen
    obtain ⟨_, _, _, _, h4⟩ := e
    have hlt : i < (pad n l).length := by simp [pad]; omega
    exact lvAt_of hlt (by rw [pad_at h1]; exact h2) (by rw [pad_at h1]; exact h3) h4
theorem pad_set {n : Nat} {l : List Rw} {i : Nat} (hi : i < l.length) (r : Rw) : (pad n l).set i r = pad n (l.set i r) := by
  unfold pad
  rw [List.set_append_left _ _ hi, List.length_set]
theorem pad_more {n : Nat} {l : List Rw} (h : l.length < n) (r : Rw) : (pad n l).set l.length r = pad n (l ++ [r]) := by
  unfold pad
  rw [List.set_append_right _ _ (Nat.le_refl _), Nat.sub_self, List.length_append, List.append_assoc]
  obtain ⟨k, hk⟩ : ∃ k, n - l.length = k + 1 := ⟨n - l.length - 1, by omega⟩
  rw [hk, List.replicate_succ, List.set_cons_zero]
  congr 2
  simp
  omega
/-- The rows behind a handle that was given out. -/
def makeL (l : List Rw) (k a : Int) : List Rw := if h : nxL l < l.length then l.set (nxL l) ⟨l[nxL l].gen + 1, true, k, a⟩ else l ++ [⟨1, true, k, a⟩]
def makeG (l : List Rw) : Int := if h : nxL l < l.length then l[nxL l].gen + 1 else 1
theorem makeL_len (l : List Rw) (k a : Int) : (makeL l k a).length = max l.length (nxL l + 1) := by
  have := nx_le l
  unfold makeL; split <;> simp <;> omega
theorem makeG_in {n : Nat} {l : List Rw} (h : Gd n l) : 1 ≤ makeG l ∧ makeG l ≤ 65535 := by
  unfold makeG
  split
  · rename_i k
    have h1 := (h.at k).1
    have h2 := nx_at k
    simp [canG] at h2
    omega
  · omega
theorem makeL_at (l : List Rw) (k a : Int) : (makeL l k a)[nxL l]? = some ⟨makeG l, true, k, a⟩ := by
  unfold makeL makeG
  by_cases h : nxL l < l.length
  · rw [dif_pos h, dif_pos h]; simp [h]
  · rw [dif_neg h, dif_neg h]
    have e : nxL l = l.length := by have := nx_le l; omega
    rw [e]; simp
theorem makeL_ne {l : List Rw} (k a : Int) {j : Nat} (h : j ≠ nxL l) (hj : j < l.length) : (makeL l k a)[j]? = l[j]? := by
  unfold makeL
  by_cases h' : nxL l < l.length
  · rw [dif_pos h', List.getElem?_set_ne (Ne.symm h)]
  · rw [dif_neg h', List.getElem?_append_left hj]
theorem pad_make {n : Nat} {l : List Rw} (hl : l.length ≤ n) (h : nxL l < n) (k a : Int) (hp : nxL l < (pad n l).length) : (pad n l).set (nxL l) ⟨((pad n l)[nxL l]).gen + 1, true, k, a⟩ = pad n (makeL l k a) ∧ ((pad n l)[nxL l]).gen + 1 = makeG l := by
  unfold makeL makeG
  by_cases h' : nxL l < l.length
  · rw [dif_pos h', dif_pos h', pad_at h', pad_set h']; exact ⟨rfl, rfl⟩
  · have e : nxL l = l.length := by have := nx_le l; omega
    rw [dif_neg h', dif_neg h', pad_z (by omega)]
    refine ⟨?_, rfl⟩
    rw [e, pad_more (by omega)]; rfl
theorem set_last {l : List Rw} {i : Nat} (hi : i < l.length) {x r : Rw} (h : (l.set i x).getLast? = some r) : r = x ∧ i = l.length - 1 ∨ l.getLast? = some r := by
  rw [List.getLast?_eq_getElem?, List.length_set] at h
  rw [List.getLast?_eq_getElem?]
  by_cases e : i = l.length - 1
  · rw [← e, List.getElem?_set_self hi] at h
    exact .inl ⟨(Option.some.inj h).symm, e⟩
  · rw [List.getElem?_set_ne e] at h
    exact .inr h
theorem Gd.set {n : Nat} {l : List Rw} (h : Gd n l) {i : Nat} (hi : i < l.length) {x : Rw} (hx : okR x) (hz : x.gen ≠ 0) : Gd n (l.set i x) := by
  refine ⟨h.n1, h.n2, by rw [List.length_set]; exact h.len, fun r hr => ?_, fun r hr => ?_⟩
  · rcases List.mem_or_eq_of_mem_set hr with e | e
    · exact h.ok r e
    · rw [e]; exact hx
  · rcases set_last hi hr with ⟨e, _⟩ | e
    · rw [e]; exact hz
    · exact h.last r e
theorem Gd.make {n : Nat} {l : List Rw} (h : Gd n l) (hn : nxL l < n) (k a : Int) : Gd n (makeL l k a) := by
  unfold makeL
  by_cases h' : nxL l < l.length
  · rw [dif_pos h']
    have h1 := (h.at h').1
    have h2 := nx_at h'
    simp [canG] at h2
    refine h.set h' ⟨?_, ?_, fun _ => ?_, fun e => ?_⟩ ?_
    · show 0 ≤ l[nxL l].gen + 1; omega
    · show l[nxL l].gen + 1 ≤ 65535; omega
    · show 1 ≤ l[nxL l].gen + 1; omega
    · cases e
    · show l[nxL l].gen + 1 ≠ 0; omega
  · rw [dif_neg h']
    have e : nxL l = l.length := by have := nx_le l; omega
    refine ⟨h.n1, h.n2, by simp; omega, fun r hr => ?_, fun r hr => ?_⟩
    · simp at hr
      rcases hr with hr | rfl
      · exact h.ok r hr
      · exact ⟨by show (0 : Int) ≤ 1; omega, by show (1 : Int) ≤ 65535; omega, fun _ => by show (1 : Int) ≤ 1; omega, fun e => by cases e⟩
    · simp at hr
      subst hr
      show (1 : Int) ≠ 0
      omega
/-- The rows behind a place that was turned, and behind a handle that was dropped. -/
def gtL (l : List Rw) (i : Nat) : Rw := (l[i]?).getD zr
theorem gtL_eq {l : List Rw} {i : Nat} (hi : i < l.length) : gtL l i = l[i] := by unfold gtL; rw [List.getElem?_eq_getElem hi]; rfl
def putL (l : List Rw) (i : Nat) (a : Int) : List Rw := l.set i ⟨(gtL l i).gen, (gtL l i).live, (gtL l i).kind, a⟩
def dropL (l : List Rw) (i : Nat) : List Rw := l.set i ⟨(gtL l i).gen, false, 0, 0⟩
theorem putL_eq {l : List Rw} {i : Nat} (hi : i < l.length) (a : Int) : putL l i a = l.set i ⟨l[i].gen, l[i].live, l[i].kind, a⟩ := by
  unfold putL; rw [gtL_eq hi]
theorem dropL_eq {l : List Rw} {i : Nat} (hi : i < l.length) : dropL l i = l.set i ⟨l[i].gen, false, 0, 0⟩ := by
  unfold dropL; rw [gtL_eq hi]
theorem Gd.put {n : Nat} {l : List Rw} (h : Gd n l) {i : Nat} (hi : i < l.length) (hl : l[i].live = true) (a : Int) : Gd n (putL l i a) := by
  obtain ⟨o1, o2, o3, o4⟩ := h.at hi
  have := o3 hl
  rw [putL_eq hi]
  exact h.set hi ⟨o1, o2, fun _ => o3 hl, fun e => by have e : l[i].live = false := e; rw [hl] at e; cases e⟩ (by show l[i].gen ≠ 0; omega)
theorem Gd.drop {n : Nat} {l : List Rw} (h : Gd n l) {i : Nat} (hi : i < l.length) (hl : l[i].live = true) : Gd n (dropL l i) := by
  obtain ⟨o1, o2, o3, o4⟩ := h.at hi
  have := o3 hl
  rw [dropL_eq hi]
  exact h.set hi ⟨o1, o2, fun e => (by cases e), fun _ => ⟨rfl, rfl⟩⟩ (by show l[i].gen ≠ 0; omega)
theorem pad_put {n : Nat} {l : List Rw} {i : Nat} (hi : i < l.length) (a : Int) : putL (pad n l) i a = pad n (putL l i a) := by
  have hp : i < (pad n l).length := by simp [pad]; omega
  rw [putL_eq hi, putL_eq hp, pad_at hi, pad_set hi]
theorem pad_drop {n : Nat} {l : List Rw} {i : Nat} (hi : i < l.length) : dropL (pad n l) i = pad n (dropL l i) := by
  have hp : i < (pad n l).length := by simp [pad]; omega
  rw [dropL_eq hi, dropL_eq hp, pad_at hi, pad_set hi]
/-- The handles of the live rows, from the index i on. -/
def liveF (i : Nat) : List Rw → List Nat
  | [] => []
  | r :: l => if r.live then ofN ((i : Int) + 1) r.gen :: liveF (i + 1) l else liveF (i + 1) l
theorem liveF_append : ∀ (l k : List Rw) (i : Nat), liveF i (l ++ k) = liveF i l ++ liveF (i + l.length) k
  | [], k, i => by simp [liveF]
  | r :: l, k, i => by
    have e : i + (r :: l).length = i + 1 + l.length := by simp; omega
    rw [List.cons_append, liveF, liveF, liveF_append l k (i + 1), e]
    split <;> rfl
theorem liveF_len : ∀ (l : List Rw) (i : Nat), (liveF i l).length ≤ l.length
  | [], i => by simp [liveF]
  | r :: l, i => by
    rw [liveF]
    have := liveF_len l (i + 1)
    split <;> simp <;> omega
theorem liveF_rep : ∀ (m i : Nat), liveF i (List.replicate m zr) = []
  | 0, i => rfl
  | m + 1, i => by rw [List.replicate_succ, liveF, if_neg (by decide)]; exact liveF_rep m (i + 1)
theorem liveF_pad {n : Nat} {l : List Rw} : liveF 0 (pad n l) = liveF 0 l := by
  unfold pad; rw [liveF_append, liveF_rep, List.append_nil]
theorem liveF_take {l : List Rw} {i : Nat} (hi : i < l.length) : liveF 0 (l.take (i + 1)) = if l[i].live then liveF 0 (l.take i) ++ [ofN ((i : Int) + 1) l[i].gen] else liveF 0 (l.take i) := by
  rw [List.take_succ_eq_append_getElem hi, liveF_append, List.length_take, Nat.min_eq_left (by omega), Nat.zero_add]
  simp only [liveF]
  split <;> simp
theorem mem_liveF : ∀ (l : List Rw) (i h : Nat), h ∈ liveF i l ↔ ∃ j, ∃ hj : j < l.length, l[j].live = true ∧ h = ofN ((i : Int) + (j : Int) + 1) l[j].gen
  | [], i, h => by simp [liveF]
  | r :: l, i, h => by
    have ih := mem_liveF l (i + 1) h
    have hsub : (∃ j, ∃ hj : j < (r :: l).length, (r :: l)[j].live = true ∧ h = ofN ((i : Int) + (j : Int) + 1) (r :: l)[j].gen) ↔ (r.live = true ∧ h = ofN ((i : Int) + 1) r.gen) ∨ h ∈ liveF (i + 1) l := by
      rw [ih]
      constructor
      · rintro ⟨j, hj, h1, h2⟩
        cases j with
        | zero => left; exact ⟨h1, by simpa using h2⟩
        | succ j =>
          right
          refine ⟨j, by simpa using hj, by simpa using h1, ?_⟩
          rw [h2]
          congr 1
          push_cast; omega
      · rintro (⟨h1, h2⟩ | ⟨j, hj, h1, h2⟩)
        · exact ⟨0, by simp, h1, by simpa using h2⟩
        · refine ⟨j + 1, by simpa using hj, by simpa using h1, ?_⟩
          rw [h2]
          simp
          congr 1
          omega
    rw [hsub, liveF]
    by_cases hr : r.live = true
    · simp [hr]
    · simp [hr]
theorem mem_live {n : Nat} {l : List Rw} (hg : Gd n l) (h : Nat) : h ∈ liveF 0 l ↔ ∃ i, LvAt l h i := by
  rw [mem_liveF]
  constructor
  · rintro ⟨j, hj, h1, h2⟩
    exact ⟨j, (of_row hg hj h1 h).1 (by rw [h2]; congr 1; omega)⟩
  · rintro ⟨i, hi⟩
    refine ⟨i, hi.lt, hi.live, ?_⟩
    refine ((of_row hg hi.lt hi.live h).2 hi).symm.trans ?_
    congr 1
    omega
/-- How many rows are told: up to the last one that was given out. -/
theorem pad_last {n : Nat} {l : List Rw} (hg : Gd n l) (hl : 0 < l.length) : 0 < (l[l.length - 1]'(by omega)).gen := by
  have h1 := hg.last (l[l.length - 1]'(by omega)) (by rw [List.getLast?_eq_getElem?, List.getElem?_eq_getElem])
  have h2 := (hg.at (i := l.length - 1) (by omega)).1
  omega
end Go.Proofs.Ytjdgildeilcfiaa
