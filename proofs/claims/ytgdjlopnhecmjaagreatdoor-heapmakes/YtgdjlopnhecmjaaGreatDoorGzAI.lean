/- Plain mathematics of layer 11: spans in pages, the slots that lie there and their states. -/
import Derived.Test.YtgdjlopnhecmjaaGreatDoorGzAA
namespace Go.Proofs.YtgdjlopnhecmjaaGreatDoor
set_option linter.unusedVariables false
set_option maxRecDepth 4000

/-- A span: its first page, its class, its bytes (of Large), the states of its slots: 0 free, 1 live, w + 2 kept by w. -/
structure Sg where
  pg : Nat
  cl : Nat
  bts : Nat
  st : List Nat
/-- How many pages it has. -/
def Sg.k (s : Sg) : Nat := pgsN (s.cl : Int) (s.bts : Int)
/-- How many bytes a slot has. -/
def Sg.z (s : Sg) : Nat := (szI (s.cl : Int) (s.bts : Int)).toNat
/-- Where a slot begins. -/
def Sg.at (s : Sg) (i : Nat) : Nat := 256 * s.pg + i * s.z
/-- A span that may be, of W workers. -/
structure Sg.Ok (W : Nat) (s : Sg) : Prop where
  c7 : s.cl ≤ 7
  sm : s.cl < 7 → s.bts = 0
  lg : s.cl = 7 → ofI (s.bts : Int) = 7
  len : s.st.length = slN (s.cl : Int)
  w2 : ∀ x ∈ s.st, x < W + 2
  l1 : s.cl = 7 → ∀ x ∈ s.st, x ≤ 1

theorem Sg.Ok.facts {W : Nat} {s : Sg} (h : s.Ok W) : 1 ≤ s.st.length ∧ s.st.length ≤ 16 ∧ 16 ≤ s.z ∧ s.z ≤ 4096 ∧ 1 ≤ s.k ∧ s.k ≤ 16 ∧ s.st.length * s.z ≤ 256 * s.k ∧ szI (s.cl : Int) (s.bts : Int) = (s.z : Int) := by
  have r : Rt 0 (s.cl : Int) (s.bts : Int) := ⟨by omega, by have := h.c7; omega, fun e => by have := h.sm (by omega); omega, fun e => h.lg (by omega), by omega, by have := pgsN_le (s.cl : Int) (s.bts : Int); omega⟩
  obtain ⟨f1, f2, f3, f4, f5, f6, f7, f8, _, _, f16⟩ := r.facts
  have hz : szI (s.cl : Int) (s.bts : Int) = (s.z : Int) := by unfold Sg.z; omega
  rw [hz] at f4 f5 f6 f16
  rw [h.len]
  refine ⟨f1, f2, by omega, by omega, f7, f8, ?_, hz⟩
  have e : ((slN (s.cl : Int) * s.z : Nat) : Int) ≤ ((256 * s.k : Nat) : Int) := by
    rw [Int.natCast_mul, Int.natCast_mul]; exact f6
  omega

theorem Sg.at_lt {s : Sg} {i j : Nat} (h : i < j) : s.at i + s.z ≤ s.at j := by
  unfold Sg.at
  have : (i + 1) * s.z ≤ j * s.z := Nat.mul_le_mul_right _ h
  rw [Nat.add_mul, Nat.one_mul] at this
  omega
theorem Sg.Ok.at_in {W : Nat} {s : Sg} (h : s.Ok W) {i : Nat} (hi : i < s.st.length) : 256 * s.pg ≤ s.at i ∧ s.at i + s.z ≤ 256 * (s.pg + s.k) := by
  obtain ⟨_, _, _, _, _, _, f, _⟩ := h.facts
  have : (i + 1) * s.z ≤ s.st.length * s.z := Nat.mul_le_mul_right _ hi
  rw [Nat.add_mul, Nat.one_mul] at this
  unfold Sg.at
  omega

/-- Spans that lie in pages from a on, one behind the other. -/
def Fit (W P : Nat) : Nat → List Sg → Prop
  | a, [] => a ≤ P
  | a, s :: l => a ≤ s.pg ∧ s.Ok W ∧ Fit W P (s.pg + s.k) l
theorem Fit.le {W P : Nat} : ∀ {m : List Sg} {a : Nat}, Fit W P a m → a ≤ P
  | [], _, h => h
  | s :: l, a, h => by have := Fit.le h.2.2; have := h.1; omega
theorem Fit.mono {W P a b : Nat} (hb : b ≤ a) : ∀ {m : List Sg}, Fit W P a m → Fit W P b m
  | [], h => Nat.le_trans hb h
  | s :: l, h => ⟨Nat.le_trans hb h.1, h.2⟩
theorem Fit.ok {W P : Nat} : ∀ {m : List Sg} {a : Nat}, Fit W P a m → ∀ s ∈ m, s.Ok W ∧ a ≤ s.pg ∧ s.pg + s.k ≤ P
  | s :: l, a, h, t, ht => by
    rcases List.mem_cons.1 ht with rfl | ht
    · exact ⟨h.2.1, h.1, Fit.le h.2.2⟩
    · obtain ⟨h1, h2, h3⟩ := Fit.ok h.2.2 t ht
      exact ⟨h1, by have := h.1; omega, h3⟩

/-- A slot of a span: where it begins, its bytes, its class, its state. -/
def InS (s : Sg) (a z c x : Nat) : Prop := ∃ i, s.st[i]? = some x ∧ a = s.at i ∧ z = s.z ∧ c = s.cl
/-- A slot of spans. -/
def In (m : List Sg) (a z c x : Nat) : Prop := ∃ s ∈ m, InS s a z c x
theorem in_nil {a z c x : Nat} : ¬ In [] a z c x := fun ⟨_, h, _⟩ => by cases h
theorem in_cons {s : Sg} {l : List Sg} {a z c x : Nat} : In (s :: l) a z c x ↔ InS s a z c x ∨ In l a z c x := by
  constructor
  · rintro ⟨t, ht, h⟩
    rcases List.mem_cons.1 ht with rfl | ht
    · exact .inl h
    · exact .inr ⟨t, ht, h⟩
  · rintro (h | ⟨t, ht, h⟩)
    · exact ⟨s, List.mem_cons_self, h⟩
    · exact ⟨t, List.mem_cons_of_mem _ ht, h⟩
theorem InS.bound {W : Nat} {s : Sg} {a z c x : Nat} (h : s.Ok W) (hi : InS s a z c x) : 256 * s.pg ≤ a ∧ a + z ≤ 256 * (s.pg + s.k) ∧ x < W + 2 ∧ (c = 7 → x ≤ 1) ∧ 16 ≤ z ∧ c ≤ 7 := by
  obtain ⟨i, h1, rfl, rfl, rfl⟩ := hi
  have hl := (List.getElem?_eq_some_iff.1 h1).1
  have hm := List.mem_of_getElem? h1
  obtain ⟨k1, k2⟩ := h.at_in hl
  exact ⟨k1, k2, h.w2 x hm, fun e => h.l1 e x hm, h.facts.2.2.1, h.c7⟩
theorem In.bound {W P a0 : Nat} {m : List Sg} {a z c x : Nat} (h : Fit W P a0 m) (hi : In m a z c x) : 256 * a0 ≤ a ∧ a + z ≤ 256 * P ∧ x < W + 2 ∧ (c = 7 → x ≤ 1) ∧ 16 ≤ z ∧ c ≤ 7 := by
  obtain ⟨s, hs, hi⟩ := hi
  obtain ⟨k1, k2, k3⟩ := h.ok s hs
  obtain ⟨b1, b2, b3, b4, b5, b6⟩ := hi.bound k1
  exact ⟨by omega, by omega, b3, b4, b5, b6⟩
/-- Two slots are one, or lie apart. -/
theorem In.apart {W P : Nat} : ∀ {m : List Sg} {a0 a z c x a' z' c' x' : Nat}, Fit W P a0 m → In m a z c x → In m a' z' c' x' → (a = a' ∧ z = z' ∧ c = c' ∧ x = x') ∨ a + z ≤ a' ∨ a' + z' ≤ a
  | [], _, _, _, _, _, _, _, _, _, _, h, _ => absurd h in_nil
  | s :: l, a0, a, z, c, x, a', z', c', x', hf, h, h' => by
    rcases in_cons.1 h with h | h <;> rcases in_cons.1 h' with h' | h'
    · obtain ⟨i, h1, rfl, rfl, rfl⟩ := h
      obtain ⟨j, k1, rfl, rfl, rfl⟩ := h'
      rcases Nat.lt_trichotomy i j with e | e | e
      · exact .inr (.inl (Sg.at_lt e))
      · subst e; rw [h1] at k1; cases k1; exact .inl ⟨rfl, rfl, rfl, rfl⟩
      · exact .inr (.inr (Sg.at_lt e))
    · have b1 := h.bound hf.2.1
      have b2 := h'.bound hf.2.2
      exact .inr (.inl (by omega))
    · have b1 := h.bound hf.2.2
      have b2 := h'.bound hf.2.1
      exact .inr (.inr (by omega))
    · exact In.apart hf.2.2 h h'
theorem In.one {W P a0 : Nat} {m : List Sg} {a z c x z' c' x' : Nat} (hf : Fit W P a0 m) (h : In m a z c x) (h' : In m a z' c' x') : z = z' ∧ c = c' ∧ x = x' := by
  have b := h.bound hf
  have b' := h'.bound hf
  rcases h.apart hf h' with ⟨_, h⟩ | h | h
  · exact h
  · omega
  · omega

/-- The places of a span's slots of which q says yes, from the slot i on. -/
def plS (s : Sg) (q : Nat → Bool) : Nat → List Nat → List Nat
  | _, [] => []
  | i, x :: l => (if q x then [s.at i] else []) ++ plS s q (i + 1) l
/-- The same of all spans; q is asked of the class and the state. -/
def pl (q : Nat → Nat → Bool) : List Sg → List Nat
  | [] => []
  | s :: l => plS s (q s.cl) 0 s.st ++ pl q l
theorem mem_plS (s : Sg) (q : Nat → Bool) (a : Nat) : ∀ (l : List Nat) (i : Nat), a ∈ plS s q i l ↔ ∃ j x, l[j]? = some x ∧ q x = true ∧ a = s.at (i + j)
  | [], i => by simp [plS]
  | y :: l, i => by
    rw [plS, List.mem_append, mem_plS s q a l (i + 1)]
    constructor
    · rintro (h | ⟨j, x, h1, h2, h3⟩)
      · by_cases hq : q y = true
        · rw [if_pos hq] at h
          exact ⟨0, y, rfl, hq, by simpa using h⟩
        · rw [if_neg hq] at h; cases h
      · exact ⟨j + 1, x, by simpa using h1, h2, by rw [h3]; congr 1; omega⟩
    · rintro ⟨j, x, h1, h2, h3⟩
      rcases j with _ | j
      · simp at h1
        subst h1
        rw [if_pos h2]
        exact .inl (by simp [h3])
      · exact .inr ⟨j, x, by simpa using h1, h2, by rw [h3]; congr 1; omega⟩
theorem mem_pl (q : Nat → Nat → Bool) (a : Nat) : ∀ m : List Sg, a ∈ pl q m ↔ ∃ z c x, In m a z c x ∧ q c x = true
  | [] => by simp [pl, in_nil]
  | s :: l => by
    rw [pl, List.mem_append, mem_plS, mem_pl q a l]
    constructor
    · rintro (⟨j, x, h1, h2, h3⟩ | ⟨z, c, x, h1, h2⟩)
      · exact ⟨s.z, s.cl, x, in_cons.2 (.inl ⟨j, h1, by rw [h3]; congr 1; omega, rfl, rfl⟩), h2⟩
      · exact ⟨z, c, x, in_cons.2 (.inr h1), h2⟩
    · rintro ⟨z, c, x, h1, h2⟩
      rcases in_cons.1 h1 with ⟨j, k1, k2, _, rfl⟩ | h1
      · exact .inl ⟨j, x, k1, h2, by rw [k2]; congr 1; omega⟩
      · exact .inr ⟨z, c, x, h1, h2⟩
theorem plS_rises (s : Sg) (hz : 1 ≤ s.z) (q : Nat → Bool) : ∀ (l : List Nat) (i : Nat), (plS s q i l).Pairwise (· < ·)
  | [], _ => List.Pairwise.nil
  | y :: l, i => by
    rw [plS, List.pairwise_append]
    refine ⟨by split <;> simp, plS_rises s hz q l (i + 1), fun a ha b hb => ?_⟩
    obtain ⟨j, x, _, _, rfl⟩ := (mem_plS s q b l (i + 1)).1 hb
    have e : a = s.at i := by
      split at ha
      · simpa using ha
      · cases ha
    have := Sg.at_lt (s := s) (i := i) (j := i + 1 + j) (by omega)
    omega
theorem pl_rises {W P : Nat} (q : Nat → Nat → Bool) : ∀ {m : List Sg} {a0 : Nat}, Fit W P a0 m → (pl q m).Pairwise (· < ·)
  | [], _, _ => List.Pairwise.nil
  | s :: l, a0, h => by
    rw [pl, List.pairwise_append]
    refine ⟨plS_rises s (by have := h.2.1.facts; omega) _ _ _, pl_rises q h.2.2, fun a ha b hb => ?_⟩
    obtain ⟨j, x, h1, _, rfl⟩ := (mem_plS _ _ _ _ _).1 ha
    obtain ⟨z, c, y, h2, _⟩ := (mem_pl _ _ _).1 hb
    have h3 := h2.bound h.2.2
    have h4 := h.2.1.at_in (List.getElem?_eq_some_iff.1 h1).1
    have h5 := h.2.1.facts
    rw [Nat.zero_add]
    omega
theorem plS_len (s : Sg) (q : Nat → Bool) : ∀ (l : List Nat) (i : Nat), (plS s q i l).length = l.countP q
  | [], _ => rfl
  | y :: l, i => by
    rw [plS, List.length_append, plS_len s q l (i + 1), List.countP_cons]
    split <;> simp <;> omega

/-- Each slot's state is turned as g says. -/
def gS (g : Nat → Nat → Nat → Nat) (s : Sg) : Nat → List Nat → List Nat
  | _, [] => []
  | i, x :: l => g (s.at i) s.cl x :: gS g s (i + 1) l
def Sg.turn (g : Nat → Nat → Nat → Nat) (s : Sg) : Sg := { s with st := gS g s 0 s.st }
def turnM (g : Nat → Nat → Nat → Nat) (m : List Sg) : List Sg := m.map (Sg.turn g)
theorem gS_len (g : Nat → Nat → Nat → Nat) (s : Sg) : ∀ (l : List Nat) (i : Nat), (gS g s i l).length = l.length
  | [], _ => rfl
  | x :: l, i => by simp [gS, gS_len g s l (i + 1)]
theorem gS_at (g : Nat → Nat → Nat → Nat) (s : Sg) : ∀ (l : List Nat) (i j : Nat), (gS g s i l)[j]? = (l[j]?).map (fun x => g (s.at (i + j)) s.cl x)
  | [], _, _ => by simp [gS]
  | x :: l, i, 0 => by simp [gS]
  | x :: l, i, j + 1 => by
    rw [gS, List.getElem?_cons_succ, gS_at g s l (i + 1) j, List.getElem?_cons_succ]
    congr 2
    funext y
    congr 2
    omega
theorem turn_in (g : Nat → Nat → Nat → Nat) (s : Sg) (a z c y : Nat) : InS (s.turn g) a z c y ↔ ∃ x, InS s a z c x ∧ y = g a c x := by
  constructor
  · rintro ⟨i, h1, h2, h3, h4⟩
    have h1 : (gS g s 0 s.st)[i]? = some y := h1
    rw [gS_at, Option.map_eq_some_iff] at h1
    obtain ⟨x, k1, k2⟩ := h1
    have h2 : a = s.at i := h2
    have h4 : c = s.cl := h4
    exact ⟨x, ⟨i, k1, h2, h3, h4⟩, by rw [h2, h4, ← k2]; congr 2; omega⟩
  · rintro ⟨x, ⟨i, h1, h2, h3, h4⟩, rfl⟩
    refine ⟨i, ?_, h2, h3, h4⟩
    show (gS g s 0 s.st)[i]? = _
    rw [gS_at, h1, h2, h4]
    simp
theorem turnM_in (g : Nat → Nat → Nat → Nat) (m : List Sg) (a z c y : Nat) : In (turnM g m) a z c y ↔ ∃ x, In m a z c x ∧ y = g a c x := by
  constructor
  · rintro ⟨t, ht, h⟩
    obtain ⟨s, hs, rfl⟩ := List.mem_map.1 ht
    obtain ⟨x, h1, h2⟩ := (turn_in g s a z c y).1 h
    exact ⟨x, ⟨s, hs, h1⟩, h2⟩
  · rintro ⟨x, ⟨s, hs, h⟩, h2⟩
    exact ⟨s.turn g, List.mem_map.2 ⟨s, hs, rfl⟩, (turn_in g s a z c y).2 ⟨x, h, h2⟩⟩
theorem Sg.Ok.turn {W : Nat} {s : Sg} (h : s.Ok W) (g : Nat → Nat → Nat → Nat) (hg : ∀ a z c x, InS s a z c x → g a c x < W + 2 ∧ (c = 7 → g a c x ≤ 1)) : (s.turn g).Ok W := by
  have key : ∀ y ∈ gS g s 0 s.st, y < W + 2 ∧ (s.cl = 7 → y ≤ 1) := by
    intro y hy
    obtain ⟨i, hi⟩ := List.getElem?_of_mem hy
    rw [gS_at, Option.map_eq_some_iff] at hi
    obtain ⟨x, k1, k2⟩ := hi
    have := hg (s.at i) s.z s.cl x ⟨i, k1, rfl, rfl, rfl⟩
    rw [Nat.zero_add] at k2
    rw [← k2]
    exact this
  exact ⟨h.c7, h.sm, h.lg, by show (gS g s 0 s.st).length = _; rw [gS_len]; exact h.len, fun y hy => (key y hy).1, fun e y hy => (key y hy).2 e⟩
theorem Fit.turn {W P : Nat} (g : Nat → Nat → Nat → Nat) : ∀ {m : List Sg} {a0 : Nat}, Fit W P a0 m → (∀ a z c x, In m a z c x → g a c x < W + 2 ∧ (c = 7 → g a c x ≤ 1)) → Fit W P a0 (turnM g m)
  | [], _, h, _ => h
  | s :: l, a0, h, hg => ⟨h.1, h.2.1.turn g (fun a z c x hi => hg a z c x (in_cons.2 (.inl hi))), Fit.turn g h.2.2 (fun a z c x hi => hg a z c x (in_cons.2 (.inr hi)))⟩
end Go.Proofs.YtgdjlopnhecmjaaGreatDoor

/- Plain mathematics of layer 11, going on: what Take, Give, Flush and Scavenge make of spans. -/
namespace Go.Proofs.YtgdjlopnhecmjaaGreatDoor
set_option linter.unusedVariables false
set_option maxRecDepth 4000

def freeQ (c : Nat) : Nat → Nat → Bool := fun c' x => decide (c' = c ∧ x = 0)
def keptQ (w c : Nat) : Nat → Nat → Bool := fun c' x => decide (c' = c ∧ x = w + 2)
def liveQ : Nat → Nat → Bool := fun _ x => decide (x = 1)
/-- The free places of a class. -/
def freeP (c : Nat) (m : List Sg) : List Nat := pl (freeQ c) m
/-- What a worker keeps of a class. -/
def keptM (w c : Nat) (m : List Sg) : List Nat := pl (keptQ w c) m
theorem mem_freeP {c a : Nat} {m : List Sg} : a ∈ freeP c m ↔ ∃ z, In m a z c 0 := by
  unfold freeP; rw [mem_pl]
  constructor
  · rintro ⟨z, c', x, h, hq⟩; obtain ⟨rfl, rfl⟩ := of_decide_eq_true hq; exact ⟨z, h⟩
  · rintro ⟨z, h⟩; exact ⟨z, c, 0, h, decide_eq_true ⟨rfl, rfl⟩⟩
theorem mem_keptM {w c a : Nat} {m : List Sg} : a ∈ keptM w c m ↔ ∃ z, In m a z c (w + 2) := by
  unfold keptM; rw [mem_pl]
  constructor
  · rintro ⟨z, c', x, h, hq⟩; obtain ⟨rfl, rfl⟩ := of_decide_eq_true hq; exact ⟨z, h⟩
  · rintro ⟨z, h⟩; exact ⟨z, c, _, h, decide_eq_true ⟨rfl, rfl⟩⟩
/-- A slot's state is turned. -/
def setM (a v : Nat) (m : List Sg) : List Sg := turnM (fun b _ x => if b = a then v else x) m
/-- Slots at these places are turned. -/
def setsM (T : List Nat) (v : Nat) (m : List Sg) : List Sg := turnM (fun b _ x => if b ∈ T then v else x) m
def someM (w c : Nat) (m : List Sg) : List Sg := setsM ((freeP c m).take 4) (w + 2) m
def trimM (w c : Nat) (m : List Sg) : List Sg := if 8 < (keptM w c m).length then setsM ((keptM w c m).drop ((keptM w c m).length - 4)) 0 m else m

theorem sets_in {T : List Nat} {v : Nat} {m : List Sg} {a z c y : Nat} : In (setsM T v m) a z c y ↔ (a ∈ T ∧ y = v ∧ ∃ x, In m a z c x) ∨ (a ∉ T ∧ In m a z c y) := by
  unfold setsM; rw [turnM_in]
  constructor
  · rintro ⟨x, h, rfl⟩
    by_cases ha : a ∈ T
    · rw [if_pos ha]; exact .inl ⟨ha, rfl, x, h⟩
    · rw [if_neg ha]; exact .inr ⟨ha, h⟩
  · rintro (⟨ha, rfl, x, h⟩ | ⟨ha, h⟩)
    · exact ⟨x, h, by rw [if_pos ha]⟩
    · exact ⟨y, h, by rw [if_neg ha]⟩
theorem set_in {b v : Nat} {m : List Sg} {a z c y : Nat} : In (setM b v m) a z c y ↔ (a = b ∧ y = v ∧ ∃ x, In m a z c x) ∨ (a ≠ b ∧ In m a z c y) := by
  unfold setM; rw [turnM_in]
  constructor
  · rintro ⟨x, h, rfl⟩
    by_cases ha : a = b
    · rw [if_pos ha]; exact .inl ⟨ha, rfl, x, h⟩
    · rw [if_neg ha]; exact .inr ⟨ha, h⟩
  · rintro (⟨ha, rfl, x, h⟩ | ⟨ha, h⟩)
    · exact ⟨x, h, by rw [if_pos ha]⟩
    · exact ⟨y, h, by rw [if_neg ha]⟩
theorem Fit.sets {W P a0 : Nat} {m : List Sg} (h : Fit W P a0 m) (T : List Nat) (v : Nat) (hv : v < W + 2) (hT : ∀ a z c x, a ∈ T → In m a z c x → c = 7 → v ≤ 1) : Fit W P a0 (setsM T v m) := by
  refine h.turn _ fun a z c x hi => ?_
  have b := hi.bound h
  by_cases ha : a ∈ T
  · rw [if_pos ha]; exact ⟨hv, hT a z c x ha hi⟩
  · rw [if_neg ha]; exact ⟨b.2.2.1, b.2.2.2.1⟩
theorem Fit.set {W P a0 : Nat} {m : List Sg} (h : Fit W P a0 m) (b v : Nat) (hv : v < W + 2) (hT : ∀ z c x, In m b z c x → c = 7 → v ≤ 1) : Fit W P a0 (setM b v m) := by
  refine h.turn _ fun a z c x hi => ?_
  have k := hi.bound h
  by_cases ha : a = b
  · rw [if_pos ha]; subst ha; exact ⟨hv, hT z c x hi⟩
  · rw [if_neg ha]; exact ⟨k.2.2.1, k.2.2.2.1⟩
theorem Fit.someM {W P a0 : Nat} {m : List Sg} (h : Fit W P a0 m) (w c : Nat) (hw : w < W) (hc : c < 7) : Fit W P a0 (someM w c m) := by
  refine h.sets _ _ (by omega) fun a z c' x ha hi e => ?_
  obtain ⟨z', h'⟩ := mem_freeP.1 (List.mem_of_mem_take ha)
  have := (hi.one h h').2.1
  omega
/-- Where so many pages side by side are free, from a on. -/
def layP (P k : Nat) : Nat → List Sg → Option Nat
  | a, [] => if a + k ≤ P then some a else none
  | a, s :: l => if a + k ≤ s.pg then some a else layP P k (s.pg + s.k) l
/-- A span more, in its place. -/
def ins (s : Sg) : List Sg → List Sg
  | [] => [s]
  | t :: l => if t.pg < s.pg then t :: ins s l else s :: t :: l
theorem layP_ge {W P k : Nat} : ∀ {m : List Sg} {a p : Nat}, Fit W P a m → layP P k a m = some p → a ≤ p ∧ p + k ≤ P
  | [], a, p, h, e => by
    unfold layP at e
    split at e
    · cases e; exact ⟨Nat.le_refl _, by omega⟩
    · cases e
  | s :: l, a, p, h, e => by
    unfold layP at e
    split at e
    · cases e; have := Fit.le h.2.2; exact ⟨Nat.le_refl _, by omega⟩
    · have := layP_ge h.2.2 e; have := h.1; omega
theorem Fit.lay {W P : Nat} {s : Sg} (hs : s.Ok W) : ∀ {m : List Sg} {a : Nat}, Fit W P a m → layP P s.k a m = some s.pg → Fit W P a (ins s m)
  | [], a, h, e => by
    unfold layP at e
    split at e
    · simp only [Option.some.injEq] at e; exact ⟨by omega, hs, by show s.pg + s.k ≤ P; omega⟩
    · cases e
  | t :: l, a, h, e => by
    unfold layP at e
    have hk := h.2.1.facts
    split at e
    · simp only [Option.some.injEq] at e
      have ht : ¬ t.pg < s.pg := by have := hs.facts; omega
      rw [ins, if_neg ht]
      exact ⟨by omega, hs, by omega, h.2⟩
    · have := layP_ge h.2.2 e
      rw [ins, if_pos (by omega)]
      exact ⟨h.1, h.2.1, Fit.lay hs h.2.2 e⟩
theorem ins_in {s : Sg} {a z c x : Nat} : ∀ {m : List Sg}, In (ins s m) a z c x ↔ InS s a z c x ∨ In m a z c x
  | [] => by simp [ins, in_cons, in_nil]
  | t :: l => by
    rw [ins]
    split
    · rw [in_cons, ins_in, in_cons]
      constructor
      · rintro (h | h | h)
        · exact .inr (.inl h)
        · exact .inl h
        · exact .inr (.inr h)
      · rintro (h | h | h)
        · exact .inr (.inl h)
        · exact .inl h
        · exact .inr (.inr h)
    · rw [in_cons]

/-- The free pages, as runs. -/
def freeM (P : Nat) : Nat → List Sg → List (Nat × Nat)
  | a, [] => if a < P then [(a, P - a)] else []
  | a, s :: l => (if a < s.pg then [(a, s.pg - a)] else []) ++ freeM P (s.pg + s.k) l
theorem layP_free {W P k : Nat} (hk : 1 ≤ k) : ∀ {m : List Sg} {a : Nat}, Fit W P a m → layP P k a m = ((freeM P a m).find? (fun r => decide (k ≤ r.2))).map (·.1)
  | [], a, h => by
    unfold layP freeM
    by_cases h1 : a + k ≤ P
    · rw [if_pos h1, if_pos (by omega)]
      simp [show k ≤ P - a by omega]
    · rw [if_neg h1]
      split
      · simp [show ¬ k ≤ P - a by omega]
      · rfl
  | s :: l, a, h => by
    unfold layP freeM
    by_cases h1 : a + k ≤ s.pg
    · rw [if_pos h1, if_pos (by omega)]
      simp [show k ≤ s.pg - a by omega]
    · rw [if_neg h1, layP_free hk h.2.2]
      split
      · simp [show ¬ k ≤ s.pg - a by omega]
      · rfl
/-- The Large span at a place is gone. -/
def dropM (a : Nat) (m : List Sg) : List Sg := m.filter (fun s => !decide (s.cl = 7 ∧ s.at 0 = a))
theorem Fit.filter {W P : Nat} (p : Sg → Bool) : ∀ {m : List Sg} {a : Nat}, Fit W P a m → Fit W P a (m.filter p)
  | [], _, h => h
  | s :: l, a, h => by
    rw [List.filter_cons]
    split
    · exact ⟨h.1, h.2.1, Fit.filter p h.2.2⟩
    · exact (Fit.filter p h.2.2).mono (by have := h.1; omega)
theorem in_filter {p : Sg → Bool} {m : List Sg} {a z c x : Nat} (h : In (m.filter p) a z c x) : In m a z c x := by
  obtain ⟨s, hs, h⟩ := h
  exact ⟨s, (List.mem_filter.1 hs).1, h⟩
/-- The one slot of a Large span. -/
theorem large_onC {W P a0 : Nat} {m : List Sg} {a z x : Nat} (h : Fit W P a0 m) (hi : In m a z 7 x) : ∃ s ∈ m, s.cl = 7 ∧ a = s.at 0 ∧ s.st = [x] ∧ z = s.bts := by
  obtain ⟨s, hs, i, h1, h2, h3, h4⟩ := hi
  have hk := (h.ok s hs).1
  have hl : s.st.length = 1 := by rw [hk.len, ← h4]; rfl
  have hi := (List.getElem?_eq_some_iff.1 h1).1
  obtain rfl : i = 0 := by omega
  refine ⟨s, hs, h4.symm, h2, ?_, ?_⟩
  · match s.st, hl, h1 with
    | [y], _, h1 => simp at h1; rw [h1]
  · rw [h3]; unfold Sg.z; rw [← h4]; show (szI 7 _).toNat = _; unfold szI; simp
theorem drop_in {W P a0 : Nat} {m : List Sg} {b a z c x : Nat} (h : Fit W P a0 m) (hb : ∃ z y, In m b z 7 y) : In (dropM b m) a z c x ↔ a ≠ b ∧ In m a z c x := by
  obtain ⟨zb, y, hb⟩ := hb
  constructor
  · intro hi
    refine ⟨?_, in_filter hi⟩
    rintro rfl
    obtain ⟨s, hs, hi'⟩ := hi
    obtain ⟨h1, h2⟩ := List.mem_filter.1 hs
    have e := (In.one h ⟨s, h1, hi'⟩ hb).2.1
    obtain ⟨i, k1, k2, k3, k4⟩ := hi'
    have hk := (h.ok s h1).1
    have hl : s.st.length = 1 := by rw [hk.len, ← k4, e]; rfl
    have := (List.getElem?_eq_some_iff.1 k1).1
    obtain rfl : i = 0 := by omega
    simp at h2
    exact h2.elim (fun h2 => h2 (by rw [← k4, e])) (fun h2 => h2 k2.symm)
  · rintro ⟨hne, s, hs, i, k1, k2, k3, k4⟩
    refine ⟨s, List.mem_filter.2 ⟨hs, ?_⟩, i, k1, k2, k3, k4⟩
    rw [Bool.not_eq_true', decide_eq_false_iff_not]
    rintro ⟨h7, hat⟩
    have hk := (h.ok s hs).1
    have hl : s.st.length = 1 := by rw [hk.len, h7]; rfl
    have := (List.getElem?_eq_some_iff.1 k1).1
    obtain rfl : i = 0 := by omega
    exact hne (k2.trans hat)
end Go.Proofs.YtgdjlopnhecmjaaGreatDoor

/- Plain mathematics of layer 11, going on: Take and Give whole; objects that never lie over one another. -/
namespace Go.Proofs.YtgdjlopnhecmjaaGreatDoor
set_option linter.unusedVariables false
set_option maxRecDepth 4000

/-- A span just made. -/
def fresh (p c b x : Nat) : Sg := ⟨p, c, b, List.replicate (slN (c : Int)) x⟩
theorem fresh_ok {W p c b x : Nat} (hc : c ≤ 7) (hs : c < 7 → b = 0) (hl : c = 7 → ofI (b : Int) = 7) (hx : x < W + 2) (h1 : c = 7 → x ≤ 1) : (fresh p c b x).Ok W :=
  ⟨hc, hs, hl, by simp [fresh], fun y hy => by have := List.eq_of_mem_replicate hy; omega, fun e y hy => by have := List.eq_of_mem_replicate hy; have := h1 e; omega⟩
theorem fresh_in {p c b x a z c' y : Nat} : InS (fresh p c b x) a z c' y → y = x ∧ c' = c := by
  rintro ⟨i, h1, _, _, h4⟩
  have hm : y ∈ List.replicate (slN (c : Int)) x := List.mem_of_getElem? h1
  exact ⟨List.eq_of_mem_replicate hm, h4⟩

/-- A worker is to have a slot of a small class: what lies there then; none: no page is free. -/
def fillM (P w c : Nat) (m : List Sg) : Option (List Sg) :=
  if keptM w c m ≠ [] then some m else if freeP c m ≠ [] then some (someM w c m) else (layP P 1 0 m).map (fun p => someM w c (ins (fresh p c 0 0) m))
/-- What Take answers, and what lies there then. -/
def takeM (P W : Nat) (w n : Int) (m : List Sg) : Nat × Nat × List Sg :=
  if ¬ (0 ≤ w ∧ w < (W : Int)) ∨ ofI n = -1 then (0, 2, m)
  else if ofI n = 7 then match layP P (pagesN n) 0 m with
    | none => (0, 13, m)
    | some p => (256 * p, 0, ins (fresh p 7 n.toNat 1) m)
  else match fillM P w.toNat (ofI n).toNat m with
    | none => (0, 13, m)
    | some m2 => ((keptM w.toNat (ofI n).toNat m2).headD 0, 0, setM ((keptM w.toNat (ofI n).toNat m2).headD 0) 1 m2)

theorem some_in {W P a0 w c : Nat} {m : List Sg} (h : Fit W P a0 m) {a z c' : Nat} : In (someM w c m) a z c' 1 ↔ In m a z c' 1 := by
  unfold someM
  rw [sets_in]
  constructor
  · rintro (⟨_, e, _⟩ | ⟨_, h'⟩)
    · omega
    · exact h'
  · intro h'
    refine .inr ⟨fun ha => ?_, h'⟩
    obtain ⟨z', k⟩ := mem_freeP.1 (List.mem_of_mem_take ha)
    have := (h'.one h k).2.2
    omega
theorem some_kept {w c : Nat} {m : List Sg} (h : freeP c m ≠ []) : keptM w c (someM w c m) ≠ [] := by
  obtain ⟨a, l, e⟩ : ∃ a l, freeP c m = a :: l := by
    rcases hf : freeP c m with _ | ⟨a, l⟩
    · exact absurd hf h
    · exact ⟨a, l, rfl⟩
  have ha : a ∈ freeP c m := by rw [e]; exact List.mem_cons_self
  obtain ⟨z, hz⟩ := mem_freeP.1 ha
  have : a ∈ keptM w c (someM w c m) := mem_keptM.2 ⟨z, by
    unfold someM
    rw [sets_in]
    exact .inl ⟨by rw [e]; simp, rfl, 0, hz⟩⟩
  intro e'
  rw [e'] at this
  cases this

structure Filled (W P w c : Nat) (m m2 : List Sg) : Prop where
  fit : Fit W P 0 m2
  kept : keptM w c m2 ≠ []
  live : ∀ a z c', In m2 a z c' 1 ↔ In m a z c' 1
theorem fill_ok {W P w c : Nat} {m m2 : List Sg} (h : Fit W P 0 m) (hw : w < W) (hc : c < 7) (e : fillM P w c m = some m2) : Filled W P w c m m2 := by
  unfold fillM at e
  split at e
  · rename_i hk
    cases e
    exact ⟨h, hk, fun _ _ _ => Iff.rfl⟩
  · split at e
    · rename_i hk hf
      cases e
      exact ⟨h.someM w c hw hc, some_kept hf, fun _ _ _ => some_in h⟩
    · rename_i hk hf
      rw [Option.map_eq_some_iff] at e
      obtain ⟨p, hp, rfl⟩ := e
      have hok : (fresh p c 0 0).Ok W := fresh_ok (by omega) (fun _ => rfl) (fun e => by omega) (by omega) (fun _ => by omega)
      have hk1 : (fresh p c 0 0).k = 1 := by show pgsN (c : Int) _ = 1; unfold pgsN; rw [if_neg (by omega)]
      have hfit : Fit W P 0 (ins (fresh p c 0 0) m) := Fit.lay hok h (by rw [hk1]; exact hp)
      refine ⟨hfit.someM w c hw hc, some_kept ?_, fun a z c' => ?_⟩
      · have hl := hok.facts.1
        have h0 : ((fresh p c 0 0).st)[0]? = some 0 := by
          have : (fresh p c 0 0).st = List.replicate (slN (c : Int)) 0 := rfl
          rw [this] at hl ⊢
          rw [List.getElem?_replicate, if_pos (by rw [List.length_replicate] at hl; exact hl)]
        have : (fresh p c 0 0).at 0 ∈ freeP c (ins (fresh p c 0 0) m) := mem_freeP.2 ⟨_, ins_in.2 (.inl ⟨0, h0, rfl, rfl, rfl⟩)⟩
        intro e
        rw [e] at this
        cases this
      · rw [some_in hfit, ins_in]
        constructor
        · rintro (h' | h')
          · have := (fresh_in h').1; omega
          · exact h'
        · exact .inr

/-- A new span lies elsewhere than the old ones. -/
theorem lay_apart {W P : Nat} {t : Sg} (ht : t.Ok W) : ∀ {m : List Sg} {a0 : Nat}, Fit W P a0 m → layP P t.k a0 m = some t.pg → ∀ s ∈ m, s.pg + s.k ≤ t.pg ∨ t.pg + t.k ≤ s.pg
  | s' :: l, a0, h, e, s, hs => by
    unfold layP at e
    split at e
    · simp only [Option.some.injEq] at e
      rcases List.mem_cons.1 hs with rfl | hs
      · exact .inr (by omega)
      · have := (h.2.2.ok s hs).2.1
        exact .inr (by omega)
    · have hge := layP_ge h.2.2 e
      rcases List.mem_cons.1 hs with rfl | hs
      · exact .inl hge.1
      · exact lay_apart ht h.2.2 e s hs

/-- What is so behind a Take that was answered. -/
structure Took (W P : Nat) (n : Int) (a : Nat) (m m' : List Sg) : Prop where
  fit : Fit W P 0 m'
  here : ∃ z c, In m' a z c 1 ∧ n ≤ (z : Int)
  new : ∀ z c, ¬ In m a z c 1
  else' : ∀ b z c, b ≠ a → (In m' b z c 1 ↔ In m b z c 1)
theorem z_smalC {W : Nat} {s : Sg} (h : s.Ok W) (n : Int) (hn : ofI n = (s.cl : Int)) (h7 : s.cl < 7) : n ≤ (s.z : Int) := by
  have e : (s.z : Int) = sizeI (s.cl : Int) := by rw [← h.facts.2.2.2.2.2.2.2]; unfold szI; rw [if_neg (by omega)]
  rw [e]
  have := ofI_cases n
  rcases (by omega : s.cl = 0 ∨ s.cl = 1 ∨ s.cl = 2 ∨ s.cl = 3 ∨ s.cl = 4 ∨ s.cl = 5 ∨ s.cl = 6) with h | h | h | h | h | h | h <;> rw [h] at hn ⊢ <;> simp [sizeI] <;> omega
theorem head_mem {l : List Nat} (h : l ≠ []) : l.headD 0 ∈ l := by
  rcases l with _ | ⟨a, l⟩
  · exact absurd rfl h
  · exact List.mem_cons_self
theorem take_ok {W P : Nat} {w n : Int} {m m' : List Sg} {a : Nat} (h : Fit W P 0 m) (e : takeM P W w n m = (a, 0, m')) : Took W P n a m m' := by
  unfold takeM at e
  split at e
  · simp at e
  rename_i hw
  have hw' : 0 ≤ w ∧ w < (W : Int) := by
    rcases Decidable.em (0 ≤ w ∧ w < (W : Int)) with h | h
    · exact h
    · exact absurd (.inl h) hw
  have hn1 : ofI n ≠ -1 := fun e => hw (.inr e)
  have hr := ofI_range n
  split at e
  · rename_i h7
    split at e
    · simp at e
    · rename_i p hp
      simp only [Prod.mk.injEq] at e
      obtain ⟨rfl, _, rfl⟩ := e
      obtain ⟨_, k1, k2⟩ := pagesN_large h7
      have hnn : ((n.toNat : Nat) : Int) = n := by omega
      have hok : (fresh p 7 n.toNat 1).Ok W := fresh_ok (by omega) (fun e => by omega) (fun _ => by rw [hnn]; exact h7) (by omega) (fun _ => by omega)
      have hk : (fresh p 7 n.toNat 1).k = pagesN n := by show pgsN (7 : Int) ((n.toNat : Nat) : Int) = _; rw [hnn]; rfl
      have hz : (fresh p 7 n.toNat 1).z = n.toNat := by show (szI (7 : Int) ((n.toNat : Nat) : Int)).toNat = _; rw [hnn]; rfl
      have hfit : Fit W P 0 (ins (fresh p 7 n.toNat 1) m) := Fit.lay hok h (by rw [hk]; exact hp)
      have hat : (fresh p 7 n.toNat 1).at 0 = 256 * p := by unfold Sg.at; rw [Nat.zero_mul]; rfl
      have hin : InS (fresh p 7 n.toNat 1) (256 * p) n.toNat 7 1 := ⟨0, rfl, hat.symm, hz.symm, rfl⟩
      refine ⟨hfit, ⟨n.toNat, 7, ins_in.2 (.inl hin), by omega⟩, fun z c hi => ?_, fun b z c hb => ?_⟩
      · obtain ⟨s, hs, hi⟩ := hi
        have hb := hi.bound (h.ok s hs).1
        have hkf := hok.facts
        have hpg : (fresh p 7 n.toNat 1).pg = p := rfl
        rcases lay_apart hok h (by rw [hk]; exact hp) s hs with h' | h' <;> rw [hpg] at h' <;> omega
      · rw [ins_in]
        constructor
        · rintro (⟨i, k1, k2, _⟩ | h')
          · have hi : i < (fresh p 7 n.toNat 1).st.length := (List.getElem?_eq_some_iff.1 k1).1
            have : (fresh p 7 n.toNat 1).st.length = 1 := by simp [fresh]; rfl
            obtain rfl : i = 0 := by omega
            exact absurd (k2.trans hat) hb
          · exact h'
        · exact .inr
  · rename_i h7
    obtain ⟨c, hc⟩ : ∃ c : Nat, ofI n = (c : Int) := ⟨(ofI n).toNat, by omega⟩
    rw [hc] at e h7 hr
    simp only [Int.toNat_natCast] at e
    split at e
    · simp at e
    · rename_i m2 hm2
      simp only [Prod.mk.injEq] at e
      obtain ⟨rfl, _, rfl⟩ := e
      obtain ⟨f1, f2, f3⟩ := fill_ok h (by omega) (by omega) hm2
      obtain ⟨z, hz⟩ := mem_keptM.1 (head_mem f2)
      generalize hg : (keptM w.toNat c m2).headD 0 = a at *
      refine ⟨f1.set _ 1 (by omega) (fun _ _ _ _ _ => by omega), ⟨z, c, set_in.2 (.inl ⟨rfl, rfl, _, hz⟩), ?_⟩, fun z' c' hi => ?_, fun b z' c' hb => ?_⟩
      · obtain ⟨s, hs, i, _, _, k3, k4⟩ := hz
        rw [k3]
        exact z_smalC (f1.ok s hs).1 n (by rw [hc, k4]) (by omega)
      · have := (((f3 a z' c').2 hi).one f1 hz).2.2
        omega
      · rw [set_in, ← f3 b z' c']
        constructor
        · rintro (⟨e, _⟩ | ⟨_, h'⟩)
          · exact absurd e hb
          · exact h'
        · exact fun h' => .inr ⟨hb, h'⟩
end Go.Proofs.YtgdjlopnhecmjaaGreatDoor

/- Plain mathematics of layer 11, going on: Give; objects, their places and how many there are; what is left behind flushing and scavenging. -/
namespace Go.Proofs.YtgdjlopnhecmjaaGreatDoor
set_option linter.unusedVariables false
set_option maxRecDepth 4000

/-- The class of the object at a place. -/
def liveC (a : Nat) : List Sg → Option Nat
  | [] => none
  | s :: l => if a ∈ plS s (liveQ s.cl) 0 s.st then some s.cl else liveC a l
theorem liveC_in {a c : Nat} : ∀ {m : List Sg}, liveC a m = some c → ∃ z, In m a z c 1
  | s :: l, e => by
    unfold liveC at e
    split at e
    · rename_i h
      cases e
      obtain ⟨j, x, h1, h2, h3⟩ := (mem_plS _ _ _ _ _).1 h
      obtain rfl := of_decide_eq_true h2
      exact ⟨s.z, in_cons.2 (.inl ⟨j, h1, by rw [h3]; congr 1; omega, rfl, rfl⟩)⟩
    · obtain ⟨z, h⟩ := liveC_in e
      exact ⟨z, in_cons.2 (.inr h)⟩
theorem liveC_none {a : Nat} : ∀ {m : List Sg}, liveC a m = none → ∀ z c, ¬ In m a z c 1
  | [], _, _, _, h => in_nil h
  | s :: l, e, z, c, h => by
    unfold liveC at e
    split at e
    · cases e
    · rename_i hn
      rcases in_cons.1 h with ⟨i, h1, h2, _⟩ | h
      · exact hn ((mem_plS _ _ _ _ _).2 ⟨i, 1, h1, decide_eq_true rfl, by rw [h2]; congr 1; omega⟩)
      · exact liveC_none e z c h
theorem liveC_of {W P a0 a z c : Nat} {m : List Sg} (hf : Fit W P a0 m) (h : In m a z c 1) : liveC a m = some c := by
  rcases e : liveC a m with _ | c'
  · exact absurd h (liveC_none e z c)
  · obtain ⟨z', h'⟩ := liveC_in e
    rw [(h.one hf h').2.1]

/-- What Give answers, and what lies there then. -/
def giveM (W : Nat) (w x : Int) (m : List Sg) : Nat × List Sg :=
  if ¬ (0 ≤ w ∧ w < (W : Int)) then (2, m)
  else match (if 0 ≤ x then liveC x.toNat m else none) with
    | none => (10, m)
    | some c => if c = 7 then (0, dropM x.toNat m) else (0, trimM w.toNat c (setM x.toNat (w.toNat + 2) m))
end Go.Proofs.YtgdjlopnhecmjaaGreatDoor
