/- Layer 15: CaU again -/
import Derived.Test.YtgdjlopnhecmjaaGreatDoorGzAM
import Derived.Test.YtgdjlopnhecmjaaGreatDoorGzAK
import Derived.Test.YtgdjlopnhecmjaaGreatDoorGzAJ
namespace Go.Proofs.YtgdjlopnhecmjaaGreatDoor
set_option linter.unusedVariables false
set_option maxRecDepth 4000
/-- Is a page one of a span's? -/
def pgF (m : List Sg) : Nat → Bool := fun p => m.any (fun s => decide (s.pg ≤ p ∧ p < s.pg + s.k))
theorem pgF_true {m : List Sg} {p : Nat} : pgF m p = true ↔ ∃ s ∈ m, s.pg ≤ p ∧ p < s.pg + s.k := by
  unfold pgF; rw [List.any_eq_true]
  exact ⟨fun ⟨s, h1, h2⟩ => ⟨s, h1, of_decide_eq_true h2⟩, fun ⟨s, h1, h2⟩ => ⟨s, h1, decide_eq_true h2⟩⟩
theorem pgF_cons (s : Sg) (l : List Sg) (p : Nat) : pgF (s :: l) p = (decide (s.pg ≤ p ∧ p < s.pg + s.k) || pgF l p) := rfl
theorem pgF_low {W P a p : Nat} {m : List Sg} (h : Fit W P a m) (hp : p < a) : pgF m p = false := by
  cases e : pgF m p
  · rfl
  · obtain ⟨s, hs, h1, _⟩ := pgF_true.1 e
    have := (h.ok s hs).2.1
    omega
theorem free_parts {W P : Nat} : ∀ {m : List Sg} {a : Nat}, Fit W P a m → (∀ r ∈ freeM P a m, 1 ≤ r.2 ∧ a ≤ r.1 ∧ r.1 + r.2 ≤ P) ∧ (freeM P a m).Pairwise (fun r s => r.1 + r.2 < s.1) ∧ (∀ i, a ≤ i → i < P → (pgF m i = false ↔ ∃ r ∈ freeM P a m, r.1 ≤ i ∧ i < r.1 + r.2))
  | [], a, h => by
    have h : a ≤ P := h
    unfold freeM
    split
    · refine ⟨fun r hr => ?_, by simp, fun i h1 h2 => ?_⟩
      · rw [List.mem_singleton] at hr; subst hr; simp only; omega
      · refine ⟨fun _ => ⟨(a, P - a), by simp, h1, by simp only; omega⟩, fun _ => rfl⟩
    · exact ⟨fun r hr => by (cases hr), List.Pairwise.nil, fun i h1 h2 => by omega⟩
  | s :: l, a, h => by
    obtain ⟨i1, i2, i3⟩ := free_parts h.2.2
    have hk := h.2.1.facts
    have hle := Fit.le h.2.2
    have ha := h.1
    unfold freeM
    refine ⟨fun r hr => ?_, ?_, fun i h1 h2 => ?_⟩
    · rcases List.mem_append.1 hr with hr | hr
      · split at hr
        · rw [List.mem_singleton] at hr; subst hr; simp only; omega
        · cases hr
      · have := i1 r hr; omega
    · rw [List.pairwise_append]
      refine ⟨by split <;> simp, i2, fun r hr r' hr' => ?_⟩
      have := i1 r' hr'
      split at hr
      · rw [List.mem_singleton] at hr; subst hr; simp only; omega
      · cases hr
    · rw [pgF_cons]
      rcases Nat.lt_or_ge i s.pg with hi | hi
      · rw [decide_eq_false (by omega), Bool.false_or, pgF_low h.2.2 (by omega)]
        refine ⟨fun _ => ⟨(a, s.pg - a), List.mem_append_left _ ?_, h1, by simp only; omega⟩, fun _ => rfl⟩
        rw [if_pos (by omega)]; simp
      · rcases Nat.lt_or_ge i (s.pg + s.k) with hi2 | hi2
        · rw [decide_eq_true ⟨hi, hi2⟩, Bool.true_or]
          refine ⟨fun e => by (cases e), ?_⟩
          rintro ⟨r, hr, k1, k2⟩
          rcases List.mem_append.1 hr with hr | hr
          · split at hr
            · rw [List.mem_singleton] at hr; subst hr; simp only at k1 k2; omega
            · cases hr
          · have := i1 r hr; omega
        · rw [decide_eq_false (by omega), Bool.false_or, i3 i hi2 h2]
          constructor
          · rintro ⟨r, hr, k⟩; exact ⟨r, List.mem_append_right _ hr, k⟩
          · rintro ⟨r, hr, k1, k2⟩
            rcases List.mem_append.1 hr with hr | hr
            · split at hr
              · rw [List.mem_singleton] at hr; subst hr; simp only at k1 k2; omega
              · cases hr
            · exact ⟨r, hr, k1, k2⟩
/-- The free pages are the free units. -/
theorem free_FL {W P : Nat} {m : List Sg} (h : Fit W P 0 m) : FL P (pgF m) (freeM P 0 m) := by
  obtain ⟨i1, i2, i3⟩ := free_parts h
  exact ⟨fun r hr => by have := i1 r hr; omega, i2, fun i hi => i3 i (Nat.zero_le _) hi⟩
/-- Where pages side by side are free is where units are. -/
theorem lay_take {W P k : Nat} {m : List Sg} (h : Fit W P 0 m) (hk : 1 ≤ k) : TakeIs P (pgF m) k (layP P k 0 m) := by
  rw [layP_free hk h]
  rcases e : (freeM P 0 m).find? (fun r => decide (k ≤ r.2)) with _ | r
  · rw [e]
    exact (free_FL h).take_none hk fun r hr => by
      have := List.find?_eq_none.1 e r hr
      simpa using this
  · obtain ⟨h1, A, B, h2, h3⟩ := List.find?_eq_some_iff_append.1 e
    have hi : A.length < (freeM P 0 m).length := by rw [h2]; simp
    have hg : (freeM P 0 m)[A.length] = r := by simp [h2]
    have := (free_FL h).take_some hk hi (by rw [hg]; exact of_decide_eq_true h1) (fun x hx => by
      rw [h2, List.take_left'  rfl] at hx
      have := h3 x hx
      simpa using this)
    rw [hg] at this
    rw [e]
    exact this
theorem mem_ins {s t : Sg} : ∀ {m : List Sg}, t ∈ ins s m ↔ t = s ∨ t ∈ m
  | [] => by simp [ins]
  | u :: l => by
    rw [ins]
    split
    · rw [List.mem_cons, mem_ins, List.mem_cons]
      constructor
      · rintro (h | h | h)
        · exact .inr (.inl h)
        · exact .inl h
        · exact .inr (.inr h)
      · rintro (h | h | h)
        · exact .inr (.inl h)
        · exact .inl h
        · exact .inr (.inr h)
    · rw [List.mem_cons]
theorem pgF_ins (s : Sg) (m : List Sg) : pgF (ins s m) = turnU (pgF m) s.pg s.k true := by
  funext p
  unfold turnU
  split
  · rename_i h; exact pgF_true.2 ⟨s, mem_ins.2 (.inl rfl), h⟩
  · rename_i h
    cases e : pgF m p
    · cases e2 : pgF (ins s m) p
      · rfl
      · obtain ⟨t, ht, h1⟩ := pgF_true.1 e2
        rcases mem_ins.1 ht with rfl | ht
        · exact absurd h1 h
        · have := pgF_true.2 ⟨t, ht, h1⟩
          rw [e] at this; cases this
    · obtain ⟨t, ht, h1⟩ := pgF_true.1 e
      exact pgF_true.2 ⟨t, mem_ins.2 (.inr ht), h1⟩
/-- Two spans are one, or lie apart. -/
theorem Fit.two {W P : Nat} : ∀ {m : List Sg} {a : Nat}, Fit W P a m → ∀ s ∈ m, ∀ t ∈ m, s = t ∨ s.pg + s.k ≤ t.pg ∨ t.pg + t.k ≤ s.pg
  | u :: l, a, h, s, hs, t, ht => by
    rcases List.mem_cons.1 hs with h1 | h1 <;> rcases List.mem_cons.1 ht with h2 | h2
    · exact .inl (h1.trans h2.symm)
    · subst h1; exact .inr (.inl (h.2.2.ok t h2).2.1)
    · subst h2; exact .inr (.inr (h.2.2.ok s h1).2.1)
    · exact Fit.two h.2.2 s h1 t h2
/-- A span is gone. -/
theorem pgF_gone {W P a : Nat} {m : List Sg} (h : Fit W P a m) {s : Sg} (hs : s ∈ m) (q : Sg → Bool) (hq : ∀ t ∈ m, q t = false ↔ t = s) : pgF (m.filter q) = turnU (pgF m) s.pg s.k false := by
  funext p
  unfold turnU
  split
  · rename_i hp
    cases e : pgF (m.filter q) p
    · rfl
    · obtain ⟨t, ht, h1⟩ := pgF_true.1 e
      obtain ⟨h2, h3⟩ := List.mem_filter.1 ht
      have hts : t ≠ s := fun e => by rw [(hq t h2).2 e] at h3; cases h3
      rcases h.two t h2 s hs with h4 | h4 | h4
      · exact absurd h4 hts
      · omega
      · omega
  · rename_i hp
    cases e : pgF m p
    · cases e2 : pgF (m.filter q) p
      · rfl
      · obtain ⟨t, ht, h1⟩ := pgF_true.1 e2
        have := pgF_true.2 ⟨t, (List.mem_filter.1 ht).1, h1⟩
        rw [e] at this; cases this
    · obtain ⟨t, ht, h1⟩ := pgF_true.1 e
      refine pgF_true.2 ⟨t, List.mem_filter.2 ⟨ht, ?_⟩, h1⟩
      cases e3 : q t
      · have := (hq t ht).1 e3
        subst this
        exact absurd h1 hp
      · rfl
theorem pgF_turn (g : Nat → Nat → Nat → Nat) (m : List Sg) : pgF (turnM g m) = pgF m := by
  funext p
  unfold pgF turnM
  rw [List.any_map]
  rfl
theorem drop_one {W P a b z x : Nat} {m : List Sg} (h : Fit W P a m) (hb : In m b z 7 x) : ∃ s ∈ m, s.cl = 7 ∧ s.at 0 = b ∧ (∀ t ∈ m, (!decide (t.cl = 7 ∧ t.at 0 = b)) = false ↔ t = s) ∧ pgF (dropM b m) = turnU (pgF m) s.pg s.k false := by
  obtain ⟨s, hs, h7, h1, h2, h3⟩ := large_onC h hb
  have key : ∀ t ∈ m, (!decide (t.cl = 7 ∧ t.at 0 = b)) = false ↔ t = s := by
    intro t ht
    constructor
    · intro e
      have e' : t.cl = 7 ∧ t.at 0 = b := by simpa using e
      have hto := (h.ok t ht).1
      have hl : t.st.length = 1 := by rw [hto.len, e'.1]; rfl
      rcases h.two t ht s hs with h4 | h4 | h4
      · exact h4
      · have k1 := hto.at_in (i := 0) (by omega)
        have k2 := (h.ok s hs).1.at_in (i := 0) (by rw [h2]; exact Nat.one_pos)
        have k3 := hto.facts
        omega
      · have k1 := hto.at_in (i := 0) (by omega)
        have k2 := (h.ok s hs).1.at_in (i := 0) (by rw [h2]; exact Nat.one_pos)
        have k3 := (h.ok s hs).1.facts
        omega
    · rintro rfl
      simp [h7, h1.symm]
  exact ⟨s, hs, h7, h1.symm, key, pgF_gone h hs _ key⟩
end Go.Proofs.YtgdjlopnhecmjaaGreatDoor

/- Layer 15: CaV again -/
namespace Go.Proofs.YtgdjlopnhecmjaaGreatDoor
set_option linter.unusedVariables false
set_option maxRecDepth 4000
theorem pl_append (q : Nat → Nat → Bool) : ∀ a b : List Sg, pl q (a ++ b) = pl q a ++ pl q b
  | [], _ => rfl
  | s :: a, b => by rw [List.cons_append, pl, pl, pl_append q a b, List.append_assoc]
theorem gS_gS (g h : Nat → Nat → Nat → Nat) (s t : Sg) (e1 : ∀ i, t.at i = s.at i) (e2 : t.cl = s.cl) : ∀ (l : List Nat) (i : Nat), gS g t i (gS h s i l) = gS (fun a c x => g a c (h a c x)) s i l
  | [], _ => rfl
  | x :: l, i => by rw [gS, gS, gS, gS_gS g h s t e1 e2 l (i + 1), e1, e2]
theorem turn_turn (g h : Nat → Nat → Nat → Nat) (m : List Sg) : turnM g (turnM h m) = turnM (fun a c x => g a c (h a c x)) m := by
  unfold turnM
  rw [List.map_map]
  congr 1
  funext s
  show Sg.turn g (Sg.turn h s) = _
  unfold Sg.turn
  simp only
  congr 1
  exact gS_gS g h s { s with st := gS h s 0 s.st } (fun _ => rfl) rfl s.st 0
/-- One place more is turned. -/
theorem set_sets (T : List Nat) (a v : Nat) (m : List Sg) : setM a v (setsM T v m) = setsM (T ++ [a]) v m := by
  unfold setM setsM
  rw [turn_turn]
  congr 1
  funext b c x
  by_cases h1 : b = a
  · subst h1; rw [if_pos rfl, if_pos (by simp)]
  · rw [if_neg h1]
    by_cases h2 : b ∈ T
    · rw [if_pos h2, if_pos (by simp [h2])]
    · rw [if_neg h2, if_neg (by simp [h1, h2])]
theorem gS_same (s : Sg) : ∀ (l : List Nat) (i : Nat), gS (fun _ _ x => x) s i l = l
  | [], _ => rfl
  | x :: l, i => by rw [gS, gS_same s l (i + 1)]
theorem sets_nil (v : Nat) (m : List Sg) : setsM [] v m = m := by
  unfold setsM turnM
  have : (Sg.turn (fun b _ x => if b ∈ ([] : List Nat) then v else x)) = id := by
    funext s
    unfold Sg.turn
    have e : (fun (b c x : Nat) => if b ∈ ([] : List Nat) then v else x) = (fun _ _ x => x) := by funext b c x; simp
    rw [e, gS_same]
    rfl
  rw [this, List.map_id]

/-- Free slots are kept, as far as the number goes. -/
def someSt (w : Nat) : Nat → List Nat → List Nat
  | _, [] => []
  | b, x :: l => if x = 0 ∧ 0 < b then (w + 2) :: someSt w (b - 1) l else x :: someSt w b l
/-- What is left of the number. -/
def someLeft : Nat → List Nat → Nat
  | b, [] => b
  | b, x :: l => if x = 0 ∧ 0 < b then someLeft (b - 1) l else someLeft b l
def someB (w c : Nat) : Nat → List Sg → List Sg
  | _, [] => []
  | b, s :: l => if s.cl = c then { s with st := someSt w b s.st } :: someB w c (someLeft b s.st) l else s :: someB w c b l
def zQ : Nat → Bool := fun x => decide (x = 0)
theorem someLeft_eq : ∀ (l : List Nat) (b : Nat), someLeft b l = b - l.countP zQ
  | [], b => by simp [someLeft]
  | x :: l, b => by
    rw [someLeft, List.countP_cons]
    by_cases h0 : x = 0
    · by_cases hb : 0 < b
      · rw [if_pos ⟨h0, hb⟩, someLeft_eq l (b - 1), if_pos (by simp [zQ, h0])]; omega
      · rw [if_neg (by omega), someLeft_eq l b]; omega
    · rw [if_neg (by omega), someLeft_eq l b, if_neg (by simp [zQ, h0])]; omega
theorem someSt_at (w : Nat) : ∀ (l : List Nat) (b j : Nat), (someSt w b l)[j]? = (l[j]?).map (fun x => if x = 0 ∧ (l.take j).countP zQ < b then w + 2 else x)
  | [], _, _ => by simp [someSt]
  | x :: l, b, 0 => by
    rw [someSt]
    split
    · rename_i h; simp [h]
    · rename_i h; simp [h]
  | x :: l, b, j + 1 => by
    rw [someSt, List.take_succ_cons, List.countP_cons, List.getElem?_cons_succ]
    by_cases h : x = 0 ∧ 0 < b
    · rw [if_pos h, List.getElem?_cons_succ, someSt_at w l (b - 1) j, if_pos (by simp [zQ, h.1])]
      congr 1
      funext y
      by_cases hy : y = 0 ∧ (l.take j).countP zQ < b - 1
      · rw [if_pos hy, if_pos ⟨hy.1, by omega⟩]
      · rw [if_neg hy, if_neg (fun k => hy ⟨k.1, by omega⟩)]
    · rw [if_neg h, List.getElem?_cons_succ, someSt_at w l b j]
      congr 1
      funext y
      have hz : zQ x = true → b = 0 := fun k => by have := of_decide_eq_true k; omega
      by_cases hy : y = 0 ∧ (l.take j).countP zQ < b
      · have hx : ¬ zQ x = true := fun k => by have := hz k; omega
        rw [if_pos hy, if_neg hx, if_pos ⟨hy.1, by omega⟩]
      · rw [if_neg hy, if_neg]
        rintro ⟨k1, k2⟩
        exact hy ⟨k1, by omega⟩
/-- A free place is among the first ones just if fewer stand ahead of it. -/
theorem mem_take_plS (s : Sg) (hz : 1 ≤ s.z) (q : Nat → Bool) : ∀ (l : List Nat) (i j b x : Nat), l[j]? = some x → (s.at (i + j) ∈ (plS s q i l).take b ↔ q x = true ∧ (l.take j).countP q < b)
  | [], _, _, _, _, h => by simp at h
  | y :: l, i, 0, b, x, h => by
    simp at h
    subst h
    rw [plS]
    by_cases hq : q y = true
    · rw [if_pos hq]
      rcases b with _ | b
      · simp
      · simp [hq]
    · rw [if_neg hq, List.nil_append]
      constructor
      · intro hm
        obtain ⟨j, x, _, _, e⟩ := (mem_plS s q _ l (i + 1)).1 (List.mem_of_mem_take hm)
        have := Sg.at_lt (s := s) (i := i + 0) (j := i + 1 + j) (by omega)
        omega
      · rintro ⟨h, _⟩; exact absurd h hq
  | y :: l, i, j + 1, b, x, h => by
    have h' : l[j]? = some x := by simpa using h
    have ih := mem_take_plS s hz q l (i + 1) j
    rw [plS, List.take_succ_cons, List.countP_cons, show i + (j + 1) = i + 1 + j by omega]
    by_cases hq : q y = true
    · rw [if_pos hq, if_pos hq]
      rcases b with _ | b
      · simp
      · rw [List.cons_append, List.nil_append, List.take_succ_cons, List.mem_cons, ih b x h']
        have hne : s.at (i + 1 + j) ≠ s.at i := by
          have := Sg.at_lt (s := s) (i := i) (j := i + 1 + j) (by omega)
          omega
        constructor
        · rintro (e | ⟨k1, k2⟩)
          · exact absurd e hne
          · exact ⟨k1, by omega⟩
        · rintro ⟨k1, k2⟩; exact .inr ⟨k1, by omega⟩
    · rw [if_neg hq, if_neg hq, List.nil_append, ih b x h', Nat.add_zero]
theorem sets_congr {T T' : List Nat} {v : Nat} : ∀ {m : List Sg}, (∀ a z c x, In m a z c x → (a ∈ T ↔ a ∈ T')) → setsM T v m = setsM T' v m
  | [], _ => rfl
  | s :: l, h => by
    have ih := sets_congr (T := T) (T' := T') (v := v) (m := l) (fun a z c x hi => h a z c x (in_cons.2 (.inr hi)))
    unfold setsM turnM at *
    rw [List.map_cons, List.map_cons, ih]
    congr 1
    unfold Sg.turn
    congr 1
    apply List.ext_getElem?
    intro j
    rw [gS_at, gS_at]
    rcases e : s.st[j]? with _ | x
    · rfl
    · have := h (s.at j) s.z s.cl x (in_cons.2 (.inl ⟨j, e, rfl, rfl, rfl⟩))
      simp only [Option.map_some, Nat.zero_add]
      congr 1
      by_cases hm : s.at j ∈ T
      · rw [if_pos hm, if_pos (this.1 hm)]
      · rw [if_neg hm, if_neg (fun k => hm (this.2 k))]
theorem freeQ_z (c : Nat) : freeQ c c = zQ := by funext x; simp [freeQ, zQ]
/-- What the document's worker takes. -/
theorem some_eq {W P : Nat} (w c : Nat) : ∀ {m : List Sg} {a b : Nat}, Fit W P a m → someB w c b m = setsM ((freeP c m).take b) (w + 2) m
  | [], _, _, _ => rfl
  | s :: l, a, b, h => by
    have hk := h.2.1.facts
    have hf : freeP c (s :: l) = plS s (freeQ c s.cl) 0 s.st ++ freeP c l := rfl
    have hlow : ∀ x ∈ plS s (freeQ c s.cl) 0 s.st, x < 256 * (s.pg + s.k) := by
      intro x hx
      obtain ⟨j, y, h1, _, rfl⟩ := (mem_plS _ _ _ _ _).1 hx
      have := h.2.1.at_in (List.getElem?_eq_some_iff.1 h1).1
      rw [Nat.zero_add]; omega
    have hhigh : ∀ x ∈ freeP c l, 256 * (s.pg + s.k) ≤ x := by
      intro x hx
      obtain ⟨z, hi⟩ := mem_freeP.1 hx
      exact (hi.bound h.2.2).1
    rw [someB]
    by_cases e : s.cl = c
    · rw [if_pos e, some_eq w c h.2.2]
      have hsplit : (freeP c (s :: l)).take b = (plS s zQ 0 s.st).take b ++ (freeP c l).take (someLeft b s.st) := by
        rw [hf, e, freeQ_z, List.take_append, someLeft_eq, plS_len]
      have hcons : setsM ((freeP c (s :: l)).take b) (w + 2) (s :: l) = Sg.turn (fun x _ y => if x ∈ (freeP c (s :: l)).take b then w + 2 else y) s :: setsM ((freeP c (s :: l)).take b) (w + 2) l := rfl
      rw [hcons]
      congr 1
      · unfold Sg.turn
        congr 1
        apply List.ext_getElem?
        intro j
        rw [someSt_at, gS_at]
        rcases ej : s.st[j]? with _ | x
        · rfl
        · simp only [Option.map_some, Nat.zero_add]
          congr 1
          have key : s.at j ∈ (freeP c (s :: l)).take b ↔ x = 0 ∧ (s.st.take j).countP zQ < b := by
            rw [hsplit, List.mem_append]
            have k1 := mem_take_plS s (by omega) zQ s.st 0 j b x ej
            rw [Nat.zero_add] at k1
            rw [k1]
            constructor
            · rintro (⟨k2, k3⟩ | k2)
              · exact ⟨of_decide_eq_true k2, k3⟩
              · have := hhigh _ (List.mem_of_mem_take k2)
                have := h.2.1.at_in (List.getElem?_eq_some_iff.1 ej).1
                omega
            · rintro ⟨k2, k3⟩; exact .inl ⟨decide_eq_true k2, k3⟩
          by_cases hm : s.at j ∈ (freeP c (s :: l)).take b
          · rw [if_pos (key.1 hm), if_pos hm]
          · rw [if_neg (fun k => hm (key.2 k)), if_neg hm]
      · refine (sets_congr fun x z c' y hi => ?_).symm
        rw [hsplit, List.mem_append]
        constructor
        · rintro (k | k)
          · have k2 : x ∈ plS s (freeQ c s.cl) 0 s.st := by rw [e, freeQ_z]; exact List.mem_of_mem_take k
            have := hlow x k2
            have := (hi.bound h.2.2).1
            omega
          · exact k
        · exact .inr
    · rw [if_neg e, some_eq w c h.2.2]
      have h0 : plS s (freeQ c s.cl) 0 s.st = [] := plS_none s _ (fun x => by simp [freeQ, e]) _ _
      have hsplit : (freeP c (s :: l)).take b = (freeP c l).take b := by rw [hf, h0, List.nil_append]
      rw [hsplit]
      have hcons : setsM ((freeP c l).take b) (w + 2) (s :: l) = Sg.turn (fun x _ y => if x ∈ (freeP c l).take b then w + 2 else y) s :: setsM ((freeP c l).take b) (w + 2) l := rfl
      rw [hcons]
      congr 1
      have hst : gS (fun x _ y => if x ∈ (freeP c l).take b then w + 2 else y) s 0 s.st = s.st := by
        apply List.ext_getElem?
        intro j
        rw [gS_at]
        rcases ej : s.st[j]? with _ | x
        · rfl
        · simp only [Option.map_some, Nat.zero_add]
          rw [if_neg]
          intro k
          have := hhigh _ (List.mem_of_mem_take k)
          have := h.2.1.at_in (List.getElem?_eq_some_iff.1 ej).1
          omega
      unfold Sg.turn
      rw [hst]

end Go.Proofs.YtgdjlopnhecmjaaGreatDoor

/- Layer 15: CaW again -/
namespace Go.Proofs.YtgdjlopnhecmjaaGreatDoor
set_option linter.unusedVariables false
set_option maxRecDepth 4000
/-- Which slots of a span are taken. -/
def Sg.f (s : Sg) : Nat → Bool := fun j => decide (s.st.getD j 0 ≠ 0)
theorem Sg.f_at {s : Sg} {j x : Nat} (h : s.st[j]? = some x) : s.f j = decide (x ≠ 0) := by unfold Sg.f; simp [List.getD, h]
/-- Which span is the first that ends behind a place. -/
def FindM (m : List Sg) (x : Int) (i : Nat) : Prop := i ≤ m.length ∧ (∀ s ∈ m.take i, 256 * ((s.pg : Int) + (s.k : Int)) ≤ x) ∧ (∀ s ∈ m.drop i, x < 256 * ((s.pg : Int) + (s.k : Int)))
theorem Fit.split {W P : Nat} : ∀ {m : List Sg} {a i : Nat}, Fit W P a m → (h : i < m.length) → Fit W P (m[i].pg + m[i].k) (m.drop (i + 1)) ∧ ∀ s ∈ m.take i, s.pg + s.k ≤ m[i].pg
  | s :: l, a, 0, h, _ => by simp; exact h.2.2
  | s :: l, a, i + 1, h, hi => by
    have hi' : i < l.length := by simpa using hi
    obtain ⟨h1, h2⟩ := Fit.split h.2.2 hi'
    simp only [List.getElem_cons_succ, List.drop_succ_cons, List.take_succ_cons]
    refine ⟨h1, fun t ht => ?_⟩
    rcases List.mem_cons.1 ht with rfl | ht
    · exact (h.2.2.ok _ (List.getElem_mem hi')).2.1
    · exact h2 t ht
/-- A slot at a place is one of the span that is found. -/
theorem FindM.in {W P a0 : Nat} {m : List Sg} {a i : Nat} (hf : Fit W P a0 m) (h : FindM m (a : Nat) i) (hi : i < m.length) {z c x : Nat} : In m a z c x ↔ InS m[i] a z c x := by
  constructor
  · rintro ⟨s, hs, hin⟩
    have hb := hin.bound (hf.ok s hs).1
    obtain ⟨j, hj, rfl⟩ := List.getElem_of_mem hs
    rcases Nat.lt_trichotomy j i with e | e | e
    · have := h.2.1 m[j] (by rw [List.mem_iff_getElem]; exact ⟨j, by simp; omega, by simp⟩)
      omega
    · subst e; exact hin
    · have h1 := h.2.2 m[i] (by rw [List.mem_iff_getElem]; exact ⟨0, by simp; omega, by simp⟩)
      have h2 := (hf.split hj).2 m[i] (by rw [List.mem_iff_getElem]; exact ⟨i, by simp; omega, by simp⟩)
      omega
  · exact fun k => ⟨m[i], List.getElem_mem hi, k⟩
theorem FindM.none {W P a0 : Nat} {m : List Sg} {a : Nat} (hf : Fit W P a0 m) (h : FindM m (a : Nat) m.length) {z c x : Nat} : ¬ In m a z c x := by
  rintro ⟨s, hs, hin⟩
  have hb := hin.bound (hf.ok s hs).1
  have := h.2.1 s (by rw [List.take_length]; exact hs)
  omega
theorem FindM.lt {W P a0 : Nat} {m : List Sg} {a i z c x : Nat} (hf : Fit W P a0 m) (h : FindM m (a : Nat) i) (hin : In m a z c x) : i < m.length := by
  rcases Nat.lt_or_eq_of_le h.1 with e | e
  · exact e
  · subst e; exact absurd hin (h.none hf)
theorem gS_other {s : Sg} {a v : Nat} : ∀ (l : List Nat) (i : Nat), (∀ j, j < l.length → s.at (i + j) ≠ a) → gS (fun b _ x => if b = a then v else x) s i l = l
  | [], _, _ => rfl
  | x :: l, i, h => by
    rw [gS, if_neg (show s.at i ≠ a from h 0 (by simp)), gS_other l (i + 1) (fun j hj => by rw [show i + 1 + j = i + (j + 1) by omega]; exact h (j + 1) (by simp; omega))]
/-- A slot of the span i is turned. -/
theorem set_at {W P a0 : Nat} {m : List Sg} (hf : Fit W P a0 m) (i j v : Nat) (hi : i < m.length) (hj : j < m[i].st.length) : setM (m[i].at j) v m = m.set i { m[i] with st := m[i].st.set j v } := by
  unfold setM turnM
  apply List.ext_getElem (by simp)
  intro k hk hk'
  simp only [List.getElem_map, List.getElem_set]
  have hkm : k < m.length := by simpa using hk
  by_cases e : i = k
  · subst e
    rw [if_pos rfl]
    unfold Sg.turn
    congr 1
    apply List.ext_getElem?
    intro n
    rw [gS_at, List.getElem?_set]
    by_cases en : j = n
    · subst en
      rw [if_pos rfl, if_pos hj, List.getElem?_eq_getElem hj, Option.map_some, Nat.zero_add, if_pos rfl]
    · rw [if_neg en]
      rcases ex : m[i].st[n]? with _ | x
      · rfl
      · rw [Option.map_some, Nat.zero_add, if_neg]
        have hz := (hf.ok _ (List.getElem_mem hi)).1.facts.2.2.1
        intro e
        rcases Nat.lt_or_gt_of_ne en with h | h
        · have := Sg.at_lt (s := m[i]) h; omega
        · have := Sg.at_lt (s := m[i]) h; omega
  · rw [if_neg e]
    unfold Sg.turn
    rw [gS_other]
    intro n hn
    rw [Nat.zero_add]
    have ok1 := (hf.ok _ (List.getElem_mem hkm)).1
    have ok2 := (hf.ok _ (List.getElem_mem hi)).1
    have b1 := ok1.at_in hn
    have b2 := ok2.at_in hj
    have z1 := ok1.facts.2.2.1
    have z2 := ok2.facts.2.2.1
    rcases Nat.lt_or_gt_of_ne e with h | h
    · have := (hf.split hkm).2 m[i] (by rw [List.mem_iff_getElem]; exact ⟨i, by simp; omega, by simp⟩)
      omega
    · have := (hf.split hi).2 m[k] (by rw [List.mem_iff_getElem]; exact ⟨k, by simp; omega, by simp⟩)
      omega
theorem f_set {s : Sg} {j v : Nat} (hj : j < s.st.length) : Sg.f { s with st := s.st.set j v } = fun x => if x = j then decide (v ≠ 0) else s.f x := by
  funext x
  unfold Sg.f
  simp only [List.getD, List.getElem?_set]
  by_cases e : j = x
  · subst e; simp [hj]
  · rw [if_neg e, if_neg (fun k => e k.symm)]; rfl
end Go.Proofs.YtgdjlopnhecmjaaGreatDoor
