/- Plain mathematics of layer 11: spans in pages, the slots that lie there and their states. -/
import Derived.Test.YtgmljgogmbaioaaGreatDoorPuA
namespace Go.Proofs.YtgmljgogmbaioaaGreatDoor
set_option linter.unusedVariables false
set_option maxRecDepth 4000

/-- A span: its first page, its class, its bytes (of Large), the states of its slots: 0 free, 1 live, w + 2 kept by w. -/
structure Sg where
  pg : Nat
  cl : Nat
  bts : Nat
  st : List Nat
/-- How many pages it has. -/
def Sg.k (s : Sg) : Nat := pgsN (s.cl : Int) (s.bts : Int)
/-- How many bytes a slot has. -/
def Sg.z (s : Sg) : Nat := (szI (s.cl : Int) (s.bts : Int)).toNat
/-- Where a slot begins. -/
def Sg.at (s : Sg) (i : Nat) : Nat := 256 * s.pg + i * s.z
/-- A span that may be, of W workers. -/
structure Sg.Ok (W : Nat) (s : Sg) : Prop where
  c7 : s.cl ≤ 7
  sm : s.cl < 7 → s.bts = 0
  lg : s.cl = 7 → ofI (s.bts : Int) = 7
  len : s.st.length = slN (s.cl : Int)
  w2 : ∀ x ∈ s.st, x < W + 2
  l1 : s.cl = 7 → ∀ x ∈ s.st, x ≤ 1

theorem Sg.Ok.facts {W : Nat} {s : Sg} (h : s.Ok W) : 1 ≤ s.st.length ∧ s.st.length ≤ 16 ∧ 16 ≤ s.z ∧ s.z ≤ 4096 ∧ 1 ≤ s.k ∧ s.k ≤ 16 ∧ s.st.length * s.z ≤ 256 * s.k ∧ szI (s.cl : Int) (s.bts : Int) = (s.z : Int) := by
  have r : Rt 0 (s.cl : Int) (s.bts : Int) := ⟨by omega, by have := h.c7; omega, fun e => by have := h.sm (by omega); omega, fun e => h.lg (by omega), by omega, by have := pgsN_le (s.cl : Int) (s.bts : Int); omega⟩
  obtain ⟨f1, f2, f3, f4, f5, f6, f7, f8, _, _, f16⟩ := r.facts
  have hz : szI (s.cl : Int) (s.bts : Int) = (s.z : Int) := by unfold Sg.z; omega
  rw [hz] at f4 f5 f6 f16
  rw [h.len]
  refine ⟨f1, f2, by omega, by omega, f7, f8, ?_, hz⟩
  have e : ((slN (s.cl : Int) * s.z : Nat) : Int) ≤ ((256 * s.k : Nat) : Int) := by
    rw [Int.natCast_mul, Int.natCast_mul]; exact f6
  omega

theorem Sg.at_lt {s : Sg} {i j : Nat} (h : i < j) : s.at i + s.z ≤ s.at j := by
  unfold Sg.at
  have : (i + 1) * s.z ≤ j * s.z := Nat.mul_le_mul_right _ h
  rw [Nat.add_mul, Nat.one_mul] at this
  omega
theorem Sg.Ok.at_in {W : Nat} {s : Sg} (h : s.Ok W) {i : Nat} (hi : i < s.st.length) : 256 * s.pg ≤ s.at i ∧ s.at i + s.z ≤ 256 * (s.pg + s.k) := by
  obtain ⟨_, _, _, _, _, _, f, _⟩ := h.facts
  have : (i + 1) * s.z ≤ s.st.length * s.z := Nat.mul_le_mul_right _ hi
  rw [Nat.add_mul, Nat.one_mul] at this
  unfold Sg.at
  omega

/-- Spans that lie in pages from a on, one behind the other. -/
def Fit (W P : Nat) : Nat → List Sg → Prop
  | a, [] => a ≤ P
  | a, s :: l => a ≤ s.pg ∧ s.Ok W ∧ Fit W P (s.pg + s.k) l
theorem Fit.le {W P : Nat} : ∀ {m : List Sg} {a : Nat}, Fit W P a m → a ≤ P
  | [], _, h => h
  | s :: l, a, h => by have := Fit.le h.2.2; have := h.1; omega
theorem Fit.mono {W P a b : Nat} (hb : b ≤ a) : ∀ {m : List Sg}, Fit W P a m → Fit W P b m
  | [], h => Nat.le_trans hb h
  | s :: l, h => ⟨Nat.le_trans hb h.1, h.2⟩
theorem Fit.ok {W P : Nat} : ∀ {m : List Sg} {a : Nat}, Fit W P a m → ∀ s ∈ m, s.Ok W ∧ a ≤ s.pg ∧ s.pg + s.k ≤ P
  | s :: l, a, h, t, ht => by
    rcases List.mem_cons.1 ht with rfl | ht
    · exact ⟨h.2.1, h.1, Fit.le h.2.2⟩
    · obtain ⟨h1, h2, h3⟩ := Fit.ok h.2.2 t ht
      exact ⟨h1, by have := h.1; omega, h3⟩

/-- A slot of a span: where it begins, its bytes, its class, its state. -/
def InS (s : Sg) (a z c x : Nat) : Prop := ∃ i, s.st[i]? = some x ∧ a = s.at i ∧ z = s.z ∧ c = s.cl
/-- A slot of spans. -/
def In (m : List Sg) (a z c x : Nat) : Prop := ∃ s ∈ m, InS s a z c x
theorem in_nil {a z c x : Nat} : ¬ In [] a z c x := fun ⟨_, h, _⟩ => by cases h
theorem in_cons {s : Sg} {l : List Sg} {a z c x : Nat} : In (s :: l) a z c x ↔ InS s a z c x ∨ In l a z c x := by
  constructor
  · rintro ⟨t, ht, h⟩
    rcases List.mem_cons.1 ht with rfl | ht
    · exact .inl h
    · exact .inr ⟨t, ht, h⟩
  · rintro (h | ⟨t, ht, h⟩)
    · exact ⟨s, List.mem_cons_self, h⟩
    · exact ⟨t, List.mem_cons_of_mem _ ht, h⟩
theorem in_append {l l' : List Sg} {a z c x : Nat} : In (l ++ l') a z c x ↔ In l a z c x ∨ In l' a z c x := by
  constructor
  · rintro ⟨t, ht, h⟩
    rcases List.mem_append.1 ht with ht | ht
    · exact .inl ⟨t, ht, h⟩
    · exact .inr ⟨t, ht, h⟩
  · rintro (⟨t, ht, h⟩ | ⟨t, ht, h⟩)
    · exact ⟨t, List.mem_append_left _ ht, h⟩
    · exact ⟨t, List.mem_append_right _ ht, h⟩
theorem InS.bound {W : Nat} {s : Sg} {a z c x : Nat} (h : s.Ok W) (hi : InS s a z c x) : 256 * s.pg ≤ a ∧ a + z ≤ 256 * (s.pg + s.k) ∧ x < W + 2 ∧ (c = 7 → x ≤ 1) ∧ 16 ≤ z ∧ c ≤ 7 := by
  obtain ⟨i, h1, rfl, rfl, rfl⟩ := hi
  have hl := (List.getElem?_eq_some_iff.1 h1).1
  have hm := List.mem_of_getElem? h1
  obtain ⟨k1, k2⟩ := h.at_in hl
  exact ⟨k1, k2, h.w2 x hm, fun e => h.l1 e x hm, h.facts.2.2.1, h.c7⟩
theorem In.bound {W P a0 : Nat} {m : List Sg} {a z c x : Nat} (h : Fit W P a0 m) (hi : In m a z c x) : 256 * a0 ≤ a ∧ a + z ≤ 256 * P ∧ x < W + 2 ∧ (c = 7 → x ≤ 1) ∧ 16 ≤ z ∧ c ≤ 7 := by
  obtain ⟨s, hs, hi⟩ := hi
  obtain ⟨k1, k2, k3⟩ := h.ok s hs
  obtain ⟨b1, b2, b3, b4, b5, b6⟩ := hi.bound k1
  exact ⟨by omega, by omega, b3, b4, b5, b6⟩
/-- Two slots are one, or lie apart. -/
theorem In.apart {W P : Nat} : ∀ {m : List Sg} {a0 a z c x a' z' c' x' : Nat}, Fit W P a0 m → In m a z c x → In m a' z' c' x' → (a = a' ∧ z = z' ∧ c = c' ∧ x = x') ∨ a + z ≤ a' ∨ a' + z' ≤ a
  | [], _, _, _, _, _, _, _, _, _, _, h, _ => absurd h in_nil
  | s :: l, a0, a, z, c, x, a', z', c', x', hf, h, h' => by
    rcases in_cons.1 h with h | h <;> rcases in_cons.1 h' with h' | h'
    · obtain ⟨i, h1, rfl, rfl, rfl⟩ := h
      obtain ⟨j, k1, rfl, rfl, rfl⟩ := h'
      rcases Nat.lt_trichotomy i j with e | e | e
      · exact .inr (.inl (Sg.at_lt e))
      · subst e; rw [h1] at k1; cases k1; exact .inl ⟨rfl, rfl, rfl, rfl⟩
      · exact .inr (.inr (Sg.at_lt e))
    · have b1 := h.bound hf.2.1
      have b2 := h'.bound hf.2.2
      exact .inr (.inl (by omega))
    · have b1 := h.bound hf.2.2
      have b2 := h'.bound hf.2.1
      exact .inr (.inr (by omega))
    · exact In.apart hf.2.2 h h'
theorem In.one {W P a0 : Nat} {m : List Sg} {a z c x z' c' x' : Nat} (hf : Fit W P a0 m) (h : In m a z c x) (h' : In m a z' c' x') : z = z' ∧ c = c' ∧ x = x' := by
  have b := h.bound hf
  have b' := h'.bound hf
  rcases h.apart hf h' with ⟨_, h⟩ | h | h
  · exact h
  · omega
  · omega

/-- The places of a span's slots of which q says yes, from the slot i on. -/
def plS (s : Sg) (q : Nat → Bool) : Nat → List Nat → List Nat
  | _, [] => []
  | i, x :: l => (if q x then [s.at i] else []) ++ plS s q (i + 1) l
/-- The same of all spans; q is asked of the class and the state. -/
def pl (q : Nat → Nat → Bool) : List Sg → List Nat
  | [] => []
  | s :: l => plS s (q s.cl) 0 s.st ++ pl q l
theorem mem_plS (s : Sg) (q : Nat → Bool) (a : Nat) : ∀ (l : List Nat) (i : Nat), a ∈ plS s q i l ↔ ∃ j x, l[j]? = some x ∧ q x = true ∧ a = s.at (i + j)
  | [], i => by simp [plS]
  | y :: l, i => by
    rw [plS, List.mem_append, mem_plS s q a l (i + 1)]
    constructor
    · rintro (h | ⟨j, x, h1, h2, h3⟩)
      · by_cases hq : q y = true
        · rw [if_pos hq] at h
          exact ⟨0, y, rfl, hq, by simpa using h⟩
        · rw [if_neg hq] at h; cases h
      · exact ⟨j + 1, x, by simpa using h1, h2, by rw [h3]; congr 1; omega⟩
    · rintro ⟨j, x, h1, h2, h3⟩
      rcases j with _ | j
      · simp at h1
        subst h1
        rw [if_pos h2]
        exact .inl (by simp [h3])
      · exact .inr ⟨j, x, by simpa using h1, h2, by rw [h3]; congr 1; omega⟩
theorem mem_pl (q : Nat → Nat → Bool) (a : Nat) : ∀ m : List Sg, a ∈ pl q m ↔ ∃ z c x, In m a z c x ∧ q c x = true
  | [] => by simp [pl, in_nil]
  | s :: l => by
    rw [pl, List.mem_append, mem_plS, mem_pl q a l]
    constructor
    · rintro (⟨j, x, h1, h2, h3⟩ | ⟨z, c, x, h1, h2⟩)
      · exact ⟨s.z, s.cl, x, in_cons.2 (.inl ⟨j, h1, by rw [h3]; congr 1; omega, rfl, rfl⟩), h2⟩
      · exact ⟨z, c, x, in_cons.2 (.inr h1), h2⟩
    · rintro ⟨z, c, x, h1, h2⟩
      rcases in_cons.1 h1 with ⟨j, k1, k2, _, rfl⟩ | h1
      · exact .inl ⟨j, x, k1, h2, by rw [k2]; congr 1; omega⟩
      · exact .inr ⟨z, c, x, h1, h2⟩
theorem plS_rises (s : Sg) (hz : 1 ≤ s.z) (q : Nat → Bool) : ∀ (l : List Nat) (i : Nat), (plS s q i l).Pairwise (· < ·)
  | [], _ => List.Pairwise.nil
  | y :: l, i => by
    rw [plS, List.pairwise_append]
    refine ⟨by split <;> simp, plS_rises s hz q l (i + 1), fun a ha b hb => ?_⟩
    obtain ⟨j, x, _, _, rfl⟩ := (mem_plS s q b l (i + 1)).1 hb
    have e : a = s.at i := by
      split at ha
      · simpa using ha
      · cases ha
    have := Sg.at_lt (s := s) (i := i) (j := i + 1 + j) (by omega)
    omega
theorem pl_rises {W P : Nat} (q : Nat → Nat → Bool) : ∀ {m : List Sg} {a0 : Nat}, Fit W P a0 m → (pl q m).Pairwise (· < ·)
  | [], _, _ => List.Pairwise.nil
  | s :: l, a0, h => by
    rw [pl, List.pairwise_append]
    refine ⟨plS_rises s (by have := h.2.1.facts; omega) _ _ _, pl_rises q h.2.2, fun a ha b hb => ?_⟩
    obtain ⟨j, x, h1, _, rfl⟩ := (mem_plS _ _ _ _ _).1 ha
    obtain ⟨z, c, y, h2, _⟩ := (mem_pl _ _ _).1 hb
    have h3 := h2.bound h.2.2
    have h4 := h.2.1.at_in (List.getElem?_eq_some_iff.1 h1).1
    have h5 := h.2.1.facts
    rw [Nat.zero_add]
    omega
theorem plS_len (s : Sg) (q : Nat → Bool) : ∀ (l : List Nat) (i : Nat), (plS s q i l).length = l.countP q
  | [], _ => rfl
  | y :: l, i => by
    rw [plS, List.length_append, plS_len s q l (i + 1), List.countP_cons]
    split <;> simp <;> omega

/-- Each slot's state is turned as g says. -/
def gS (g : Nat → Nat → Nat → Nat) (s : Sg) : Nat → List Nat → List Nat
  | _, [] => []
  | i, x :: l => g (s.at i) s.cl x :: gS g s (i + 1) l
def Sg.turn (g : Nat → Nat → Nat → Nat) (s : Sg) : Sg := { s with st := gS g s 0 s.st }
def turnM (g : Nat → Nat → Nat → Nat) (m : List Sg) : List Sg := m.map (Sg.turn g)
theorem gS_len (g : Nat → Nat → Nat → Nat) (s : Sg) : ∀ (l : List Nat) (i : Nat), (gS g s i l).length = l.length
  | [], _ => rfl
  | x :: l, i => by simp [gS, gS_len g s l (i + 1)]
theorem gS_at (g : Nat → Nat → Nat → Nat) (s : Sg) : ∀ (l : List Nat) (i j : Nat), (gS g s i l)[j]? = (l[j]?).map (fun x => g (s.at (i + j)) s.cl x)
  | [], _, _ => by simp [gS]
  | x :: l, i, 0 => by simp [gS]
  | x :: l, i, j + 1 => by
    rw [gS, List.getElem?_cons_succ, gS_at g s l (i + 1) j, List.getElem?_cons_succ]
    congr 2
    funext y
    congr 2
    omega
theorem turn_in (g : Nat → Nat → Nat → Nat) (s : Sg) (a z c y : Nat) : InS (s.turn g) a z c y ↔ ∃ x, InS s a z c x ∧ y = g a c x := by
  constructor
  · rintro ⟨i, h1, h2, h3, h4⟩
    have h1 : (gS g s 0 s.st)[i]? = some y := h1
    rw [gS_at, Option.map_eq_some_iff] at h1
    obtain ⟨x, k1, k2⟩ := h1
    have h2 : a = s.at i := h2
    have h4 : c = s.cl := h4
    exact ⟨x, ⟨i, k1, h2, h3, h4⟩, by rw [h2, h4, ← k2]; congr 2; omega⟩
  · rintro ⟨x, ⟨i, h1, h2, h3, h4⟩, rfl⟩
    refine ⟨i, ?_, h2, h3, h4⟩
    show (gS g s 0 s.st)[i]? = _
    rw [gS_at, h1, h2, h4]
    simp
theorem turnM_in (g : Nat → Nat → Nat → Nat) (m : List Sg) (a z c y : Nat) : In (turnM g m) a z c y ↔ ∃ x, In m a z c x ∧ y = g a c x := by
  constructor
  · rintro ⟨t, ht, h⟩
    obtain ⟨s, hs, rfl⟩ := List.mem_map.1 ht
    obtain ⟨x, h1, h2⟩ := (turn_in g s a z c y).1 h
    exact ⟨x, ⟨s, hs, h1⟩, h2⟩
  · rintro ⟨x, ⟨s, hs, h⟩, h2⟩
    exact ⟨s.turn g, List.mem_map.2 ⟨s, hs, rfl⟩, (turn_in g s a z c y).2 ⟨x, h, h2⟩⟩
theorem Sg.Ok.turn {W : Nat} {s : Sg} (h : s.Ok W) (g : Nat → Nat → Nat → Nat) (hg : ∀ a z c x, InS s a z c x → g a c x < W + 2 ∧ (c = 7 → g a c x ≤ 1)) : (s.turn g).Ok W := by
  have key : ∀ y ∈ gS g s 0 s.st, y < W + 2 ∧ (s.cl = 7 → y ≤ 1) := by
    intro y hy
    obtain ⟨i, hi⟩ := List.getElem?_of_mem hy
    rw [gS_at, Option.map_eq_some_iff] at hi
    obtain ⟨x, k1, k2⟩ := hi
    have := hg (s.at i) s.z s.cl x ⟨i, k1, rfl, rfl, rfl⟩
    rw [Nat.zero_add] at k2
    rw [← k2]
    exact this
  exact ⟨h.c7, h.sm, h.lg, by show (gS g s 0 s.st).length = _; rw [gS_len]; exact h.len, fun y hy => (key y hy).1, fun e y hy => (key y hy).2 e⟩
theorem Fit.turn {W P : Nat} (g : Nat → Nat → Nat → Nat) : ∀ {m : List Sg} {a0 : Nat}, Fit W P a0 m → (∀ a z c x, In m a z c x → g a c x < W + 2 ∧ (c = 7 → g a c x ≤ 1)) → Fit W P a0 (turnM g m)
  | [], _, h, _ => h
  | s :: l, a0, h, hg => ⟨h.1, h.2.1.turn g (fun a z c x hi => hg a z c x (in_cons.2 (.inl hi))), Fit.turn g h.2.2 (fun a z c x hi => hg a z c x (in_cons.2 (.inr hi)))⟩
end Go.Proofs.YtgmljgogmbaioaaGreatDoor

/- Plain mathematics of layer 11, going on: what Take, Give, Flush and Scavenge make of spans. -/
namespace Go.Proofs.YtgmljgogmbaioaaGreatDoor
set_option linter.unusedVariables false
set_option maxRecDepth 4000

def freeQ (c : Nat) : Nat → Nat → Bool := fun c' x => decide (c' = c ∧ x = 0)
def keptQ (w c : Nat) : Nat → Nat → Bool := fun c' x => decide (c' = c ∧ x = w + 2)
def liveQ : Nat → Nat → Bool := fun _ x => decide (x = 1)
/-- The free places of a class. -/
def freeP (c : Nat) (m : List Sg) : List Nat := pl (freeQ c) m
/-- What a worker keeps of a class. -/
def keptM (w c : Nat) (m : List Sg) : List Nat := pl (keptQ w c) m
/-- The places of all objects. -/
def liveM (m : List Sg) : List Nat := pl liveQ m
theorem mem_freeP {c a : Nat} {m : List Sg} : a ∈ freeP c m ↔ ∃ z, In m a z c 0 := by
  unfold freeP; rw [mem_pl]
  constructor
  · rintro ⟨z, c', x, h, hq⟩; obtain ⟨rfl, rfl⟩ := of_decide_eq_true hq; exact ⟨z, h⟩
  · rintro ⟨z, h⟩; exact ⟨z, c, 0, h, decide_eq_true ⟨rfl, rfl⟩⟩
theorem mem_keptM {w c a : Nat} {m : List Sg} : a ∈ keptM w c m ↔ ∃ z, In m a z c (w + 2) := by
  unfold keptM; rw [mem_pl]
  constructor
  · rintro ⟨z, c', x, h, hq⟩; obtain ⟨rfl, rfl⟩ := of_decide_eq_true hq; exact ⟨z, h⟩
  · rintro ⟨z, h⟩; exact ⟨z, c, _, h, decide_eq_true ⟨rfl, rfl⟩⟩
theorem mem_liveM {a : Nat} {m : List Sg} : a ∈ liveM m ↔ ∃ z c, In m a z c 1 := by
  unfold liveM; rw [mem_pl]
  constructor
  · rintro ⟨z, c', x, h, hq⟩; obtain rfl := of_decide_eq_true hq; exact ⟨z, c', h⟩
  · rintro ⟨z, c, h⟩; exact ⟨z, c, 1, h, decide_eq_true rfl⟩

/-- A slot's state is turned. -/
def setM (a v : Nat) (m : List Sg) : List Sg := turnM (fun b _ x => if b = a then v else x) m
/-- Slots at these places are turned. -/
def setsM (T : List Nat) (v : Nat) (m : List Sg) : List Sg := turnM (fun b _ x => if b ∈ T then v else x) m
def someM (w c : Nat) (m : List Sg) : List Sg := setsM ((freeP c m).take 4) (w + 2) m
def flushM (w : Nat) (m : List Sg) : List Sg := turnM (fun _ _ x => if x = w + 2 then 0 else x) m
def trimM (w c : Nat) (m : List Sg) : List Sg := if 8 < (keptM w c m).length then setsM ((keptM w c m).drop ((keptM w c m).length - 4)) 0 m else m

theorem sets_in {T : List Nat} {v : Nat} {m : List Sg} {a z c y : Nat} : In (setsM T v m) a z c y ↔ (a ∈ T ∧ y = v ∧ ∃ x, In m a z c x) ∨ (a ∉ T ∧ In m a z c y) := by
  unfold setsM; rw [turnM_in]
  constructor
  · rintro ⟨x, h, rfl⟩
    by_cases ha : a ∈ T
    · rw [if_pos ha]; exact .inl ⟨ha, rfl, x, h⟩
    · rw [if_neg ha]; exact .inr ⟨ha, h⟩
  · rintro (⟨ha, rfl, x, h⟩ | ⟨ha, h⟩)
    · exact ⟨x, h, by rw [if_pos ha]⟩
    · exact ⟨y, h, by rw [if_neg ha]⟩
theorem set_in {b v : Nat} {m : List Sg} {a z c y : Nat} : In (setM b v m) a z c y ↔ (a = b ∧ y = v ∧ ∃ x, In m a z c x) ∨ (a ≠ b ∧ In m a z c y) := by
  unfold setM; rw [turnM_in]
  constructor
  · rintro ⟨x, h, rfl⟩
    by_cases ha : a = b
    · rw [if_pos ha]; exact .inl ⟨ha, rfl, x, h⟩
    · rw [if_neg ha]; exact .inr ⟨ha, h⟩
  · rintro (⟨ha, rfl, x, h⟩ | ⟨ha, h⟩)
    · exact ⟨x, h, by rw [if_pos ha]⟩
    · exact ⟨y, h, by rw [if_neg ha]⟩
theorem flush_in {w : Nat} {m : List Sg} {a z c y : Nat} : In (flushM w m) a z c y ↔ (y = 0 ∧ In m a z c (w + 2)) ∨ (y ≠ w + 2 ∧ In m a z c y) := by
  unfold flushM; rw [turnM_in]
  constructor
  · rintro ⟨x, h, rfl⟩
    by_cases hx : x = w + 2
    · rw [if_pos hx]; subst hx; exact .inl ⟨rfl, h⟩
    · rw [if_neg hx]; exact .inr ⟨hx, h⟩
  · rintro (⟨rfl, h⟩ | ⟨hy, h⟩)
    · exact ⟨_, h, by rw [if_pos rfl]⟩
    · exact ⟨y, h, by rw [if_neg hy]⟩
theorem Fit.sets {W P a0 : Nat} {m : List Sg} (h : Fit W P a0 m) (T : List Nat) (v : Nat) (hv : v < W + 2) (hT : ∀ a z c x, a ∈ T → In m a z c x → c = 7 → v ≤ 1) : Fit W P a0 (setsM T v m) := by
  refine h.turn _ fun a z c x hi => ?_
  have b := hi.bound h
  by_cases ha : a ∈ T
  · rw [if_pos ha]; exact ⟨hv, hT a z c x ha hi⟩
  · rw [if_neg ha]; exact ⟨b.2.2.1, b.2.2.2.1⟩
theorem Fit.set {W P a0 : Nat} {m : List Sg} (h : Fit W P a0 m) (b v : Nat) (hv : v < W + 2) (hT : ∀ z c x, In m b z c x → c = 7 → v ≤ 1) : Fit W P a0 (setM b v m) := by
  refine h.turn _ fun a z c x hi => ?_
  have k := hi.bound h
  by_cases ha : a = b
  · rw [if_pos ha]; subst ha; exact ⟨hv, hT z c x hi⟩
  · rw [if_neg ha]; exact ⟨k.2.2.1, k.2.2.2.1⟩
theorem Fit.flush {W P a0 : Nat} {m : List Sg} (h : Fit W P a0 m) (w : Nat) : Fit W P a0 (flushM w m) := by
  refine h.turn _ fun a z c x hi => ?_
  have k := hi.bound h
  split
  · exact ⟨by omega, fun _ => by omega⟩
  · exact ⟨k.2.2.1, k.2.2.2.1⟩
theorem Fit.someM {W P a0 : Nat} {m : List Sg} (h : Fit W P a0 m) (w c : Nat) (hw : w < W) (hc : c < 7) : Fit W P a0 (someM w c m) := by
  refine h.sets _ _ (by omega) fun a z c' x ha hi e => ?_
  obtain ⟨z', h'⟩ := mem_freeP.1 (List.mem_of_mem_take ha)
  have := (hi.one h h').2.1
  omega
theorem Fit.trim {W P a0 : Nat} {m : List Sg} (h : Fit W P a0 m) (w c : Nat) : Fit W P a0 (trimM w c m) := by
  unfold trimM
  split
  · exact h.sets _ _ (by omega) fun _ _ _ _ _ _ _ => by omega
  · exact h

/-- Where so many pages side by side are free, from a on. -/
def layP (P k : Nat) : Nat → List Sg → Option Nat
  | a, [] => if a + k ≤ P then some a else none
  | a, s :: l => if a + k ≤ s.pg then some a else layP P k (s.pg + s.k) l
/-- A span more, in its place. -/
def ins (s : Sg) : List Sg → List Sg
  | [] => [s]
  | t :: l => if t.pg < s.pg then t :: ins s l else s :: t :: l
theorem layP_ge {W P k : Nat} : ∀ {m : List Sg} {a p : Nat}, Fit W P a m → layP P k a m = some p → a ≤ p ∧ p + k ≤ P
  | [], a, p, h, e => by
    unfold layP at e
    split at e
    · cases e; exact ⟨Nat.le_refl _, by omega⟩
    · cases e
  | s :: l, a, p, h, e => by
    unfold layP at e
    split at e
    · cases e; have := Fit.le h.2.2; exact ⟨Nat.le_refl _, by omega⟩
    · have := layP_ge h.2.2 e; have := h.1; omega
theorem Fit.lay {W P : Nat} {s : Sg} (hs : s.Ok W) : ∀ {m : List Sg} {a : Nat}, Fit W P a m → layP P s.k a m = some s.pg → Fit W P a (ins s m)
  | [], a, h, e => by
    unfold layP at e
    split at e
    · simp only [Option.some.injEq] at e; exact ⟨by omega, hs, by show s.pg + s.k ≤ P; omega⟩
    · cases e
  | t :: l, a, h, e => by
    unfold layP at e
    have hk := h.2.1.facts
    split at e
    · simp only [Option.some.injEq] at e
      have ht : ¬ t.pg < s.pg := by have := hs.facts; omega
      rw [ins, if_neg ht]
      exact ⟨by omega, hs, by omega, h.2⟩
    · have := layP_ge h.2.2 e
      rw [ins, if_pos (by omega)]
      exact ⟨h.1, h.2.1, Fit.lay hs h.2.2 e⟩
theorem ins_in {s : Sg} {a z c x : Nat} : ∀ {m : List Sg}, In (ins s m) a z c x ↔ InS s a z c x ∨ In m a z c x
  | [] => by simp [ins, in_cons, in_nil]
  | t :: l => by
    rw [ins]
    split
    · rw [in_cons, ins_in, in_cons]
      constructor
      · rintro (h | h | h)
        · exact .inr (.inl h)
        · exact .inl h
        · exact .inr (.inr h)
      · rintro (h | h | h)
        · exact .inr (.inl h)
        · exact .inl h
        · exact .inr (.inr h)
    · rw [in_cons]

/-- The free pages, as runs. -/
def freeM (P : Nat) : Nat → List Sg → List (Nat × Nat)
  | a, [] => if a < P then [(a, P - a)] else []
  | a, s :: l => (if a < s.pg then [(a, s.pg - a)] else []) ++ freeM P (s.pg + s.k) l
theorem layP_free {W P k : Nat} (hk : 1 ≤ k) : ∀ {m : List Sg} {a : Nat}, Fit W P a m → layP P k a m = ((freeM P a m).find? (fun r => decide (k ≤ r.2))).map (·.1)
  | [], a, h => by
    unfold layP freeM
    by_cases h1 : a + k ≤ P
    · rw [if_pos h1, if_pos (by omega)]
      simp [show k ≤ P - a by omega]
    · rw [if_neg h1]
      split
      · simp [show ¬ k ≤ P - a by omega]
      · rfl
  | s :: l, a, h => by
    unfold layP freeM
    by_cases h1 : a + k ≤ s.pg
    · rw [if_pos h1, if_pos (by omega)]
      simp [show k ≤ s.pg - a by omega]
    · rw [if_neg h1, layP_free hk h.2.2]
      split
      · simp [show ¬ k ≤ s.pg - a by omega]
      · rfl
theorem layP_none {W P k a : Nat} {m : List Sg} (hk : 1 ≤ k) (h : Fit W P a m) : layP P k a m = none ↔ ∀ r ∈ freeM P a m, r.2 < k := by
  rw [layP_free hk h]
  simp
theorem free_sum {W P : Nat} : ∀ {m : List Sg} {a : Nat}, Fit W P a m → ((freeM P a m).map (·.2)).sum + (m.map Sg.k).sum + a = P
  | [], a, h => by
    have h : a ≤ P := h
    unfold freeM
    split <;> simp <;> omega
  | s :: l, a, h => by
    have ih := free_sum h.2.2
    have h1 := h.1
    unfold freeM
    rw [List.map_append, List.sum_append, List.map_cons, List.sum_cons]
    split <;> simp <;> omega

/-- Spans without an object, and without a slot that is kept, are gone. -/
def scavM (m : List Sg) : List Sg := m.filter (fun s => s.st.any (fun x => x != 0))
/-- How many pages they had. -/
def scavN (m : List Sg) : Nat := ((m.filter (fun s => !s.st.any (fun x => x != 0))).map Sg.k).sum
/-- The Large span at a place is gone. -/
def dropM (a : Nat) (m : List Sg) : List Sg := m.filter (fun s => !decide (s.cl = 7 ∧ s.at 0 = a))
theorem Fit.filter {W P : Nat} (p : Sg → Bool) : ∀ {m : List Sg} {a : Nat}, Fit W P a m → Fit W P a (m.filter p)
  | [], _, h => h
  | s :: l, a, h => by
    rw [List.filter_cons]
    split
    · exact ⟨h.1, h.2.1, Fit.filter p h.2.2⟩
    · exact (Fit.filter p h.2.2).mono (by have := h.1; omega)
theorem in_filter {p : Sg → Bool} {m : List Sg} {a z c x : Nat} (h : In (m.filter p) a z c x) : In m a z c x := by
  obtain ⟨s, hs, h⟩ := h
  exact ⟨s, (List.mem_filter.1 hs).1, h⟩
theorem scav_in {m : List Sg} {a z c x : Nat} (hx : x ≠ 0) : In (scavM m) a z c x ↔ In m a z c x := by
  refine ⟨in_filter, ?_⟩
  rintro ⟨s, hs, i, h1, h2⟩
  refine ⟨s, List.mem_filter.2 ⟨hs, ?_⟩, i, h1, h2⟩
  rw [List.any_eq_true]
  exact ⟨x, List.mem_of_getElem? h1, by simpa using hx⟩
/-- The one slot of a Large span. -/
theorem large_one {W P a0 : Nat} {m : List Sg} {a z x : Nat} (h : Fit W P a0 m) (hi : In m a z 7 x) : ∃ s ∈ m, s.cl = 7 ∧ a = s.at 0 ∧ s.st = [x] ∧ z = s.bts := by
  obtain ⟨s, hs, i, h1, h2, h3, h4⟩ := hi
  have hk := (h.ok s hs).1
  have hl : s.st.length = 1 := by rw [hk.len, ← h4]; rfl
  have hi := (List.getElem?_eq_some_iff.1 h1).1
  obtain rfl : i = 0 := by omega
  refine ⟨s, hs, h4.symm, h2, ?_, ?_⟩
  · match s.st, hl, h1 with
    | [y], _, h1 => simp at h1; rw [h1]
  · rw [h3]; unfold Sg.z; rw [← h4]; show (szI 7 _).toNat = _; unfold szI; simp
theorem drop_in {W P a0 : Nat} {m : List Sg} {b a z c x : Nat} (h : Fit W P a0 m) (hb : ∃ z y, In m b z 7 y) : In (dropM b m) a z c x ↔ a ≠ b ∧ In m a z c x := by
  obtain ⟨zb, y, hb⟩ := hb
  constructor
  · intro hi
    refine ⟨?_, in_filter hi⟩
    rintro rfl
    obtain ⟨s, hs, hi'⟩ := hi
    obtain ⟨h1, h2⟩ := List.mem_filter.1 hs
    have e := (In.one h ⟨s, h1, hi'⟩ hb).2.1
    obtain ⟨i, k1, k2, k3, k4⟩ := hi'
    have hk := (h.ok s h1).1
    have hl : s.st.length = 1 := by rw [hk.len, ← k4, e]; rfl
    have := (List.getElem?_eq_some_iff.1 k1).1
    obtain rfl : i = 0 := by omega
    simp at h2
    exact h2.elim (fun h2 => h2 (by rw [← k4, e])) (fun h2 => h2 k2.symm)
  · rintro ⟨hne, s, hs, i, k1, k2, k3, k4⟩
    refine ⟨s, List.mem_filter.2 ⟨hs, ?_⟩, i, k1, k2, k3, k4⟩
    rw [Bool.not_eq_true', decide_eq_false_iff_not]
    rintro ⟨h7, hat⟩
    have hk := (h.ok s hs).1
    have hl : s.st.length = 1 := by rw [hk.len, h7]; rfl
    have := (List.getElem?_eq_some_iff.1 k1).1
    obtain rfl : i = 0 := by omega
    exact hne (k2.trans hat)
end Go.Proofs.YtgmljgogmbaioaaGreatDoor

/- Plain mathematics of layer 11, going on: Take and Give whole; objects that never lie over one another. -/
namespace Go.Proofs.YtgmljgogmbaioaaGreatDoor
set_option linter.unusedVariables false
set_option maxRecDepth 4000

/-- A span just made. -/
def fresh (p c b x : Nat) : Sg := ⟨p, c, b, List.replicate (slN (c : Int)) x⟩
theorem fresh_ok {W p c b x : Nat} (hc : c ≤ 7) (hs : c < 7 → b = 0) (hl : c = 7 → ofI (b : Int) = 7) (hx : x < W + 2) (h1 : c = 7 → x ≤ 1) : (fresh p c b x).Ok W :=
  ⟨hc, hs, hl, by simp [fresh], fun y hy => by have := List.eq_of_mem_replicate hy; omega, fun e y hy => by have := List.eq_of_mem_replicate hy; have := h1 e; omega⟩
theorem fresh_in {p c b x a z c' y : Nat} : InS (fresh p c b x) a z c' y → y = x ∧ c' = c := by
  rintro ⟨i, h1, _, _, h4⟩
  have hm : y ∈ List.replicate (slN (c : Int)) x := List.mem_of_getElem? h1
  exact ⟨List.eq_of_mem_replicate hm, h4⟩

/-- A worker is to have a slot of a small class: what lies there then; none: no page is free. -/
def fillM (P w c : Nat) (m : List Sg) : Option (List Sg) :=
  if keptM w c m ≠ [] then some m else if freeP c m ≠ [] then some (someM w c m) else (layP P 1 0 m).map (fun p => someM w c (ins (fresh p c 0 0) m))
/-- What Take answers, and what lies there then. -/
def takeM (P W : Nat) (w n : Int) (m : List Sg) : Nat × Nat × List Sg :=
  if ¬ (0 ≤ w ∧ w < (W : Int)) ∨ ofI n = -1 then (0, 2, m)
  else if ofI n = 7 then match layP P (pagesN n) 0 m with
    | none => (0, 13, m)
    | some p => (256 * p, 0, ins (fresh p 7 n.toNat 1) m)
  else match fillM P w.toNat (ofI n).toNat m with
    | none => (0, 13, m)
    | some m2 => ((keptM w.toNat (ofI n).toNat m2).headD 0, 0, setM ((keptM w.toNat (ofI n).toNat m2).headD 0) 1 m2)

theorem some_in {W P a0 w c : Nat} {m : List Sg} (h : Fit W P a0 m) {a z c' : Nat} : In (someM w c m) a z c' 1 ↔ In m a z c' 1 := by
  unfold someM
  rw [sets_in]
  constructor
  · rintro (⟨_, e, _⟩ | ⟨_, h'⟩)
    · omega
    · exact h'
  · intro h'
    refine .inr ⟨fun ha => ?_, h'⟩
    obtain ⟨z', k⟩ := mem_freeP.1 (List.mem_of_mem_take ha)
    have := (h'.one h k).2.2
    omega
theorem some_kept {w c : Nat} {m : List Sg} (h : freeP c m ≠ []) : keptM w c (someM w c m) ≠ [] := by
  obtain ⟨a, l, e⟩ : ∃ a l, freeP c m = a :: l := by
    rcases hf : freeP c m with _ | ⟨a, l⟩
    · exact absurd hf h
    · exact ⟨a, l, rfl⟩
  have ha : a ∈ freeP c m := by rw [e]; exact List.mem_cons_self
  obtain ⟨z, hz⟩ := mem_freeP.1 ha
  have : a ∈ keptM w c (someM w c m) := mem_keptM.2 ⟨z, by
    unfold someM
    rw [sets_in]
    exact .inl ⟨by rw [e]; simp, rfl, 0, hz⟩⟩
  intro e'
  rw [e'] at this
  cases this

structure Filled (W P w c : Nat) (m m2 : List Sg) : Prop where
  fit : Fit W P 0 m2
  kept : keptM w c m2 ≠ []
  live : ∀ a z c', In m2 a z c' 1 ↔ In m a z c' 1
theorem fill_ok {W P w c : Nat} {m m2 : List Sg} (h : Fit W P 0 m) (hw : w < W) (hc : c < 7) (e : fillM P w c m = some m2) : Filled W P w c m m2 := by
  unfold fillM at e
  split at e
  · rename_i hk
    cases e
    exact ⟨h, hk, fun _ _ _ => Iff.rfl⟩
  · split at e
    · rename_i hk hf
      cases e
      exact ⟨h.someM w c hw hc, some_kept hf, fun _ _ _ => some_in h⟩
    · rename_i hk hf
      rw [Option.map_eq_some_iff] at e
      obtain ⟨p, hp, rfl⟩ := e
      have hok : (fresh p c 0 0).Ok W := fresh_ok (by omega) (fun _ => rfl) (fun e => by omega) (by omega) (fun _ => by omega)
      have hk1 : (fresh p c 0 0).k = 1 := by show pgsN (c : Int) _ = 1; unfold pgsN; rw [if_neg (by omega)]
      have hfit : Fit W P 0 (ins (fresh p c 0 0) m) := Fit.lay hok h (by rw [hk1]; exact hp)
      refine ⟨hfit.someM w c hw hc, some_kept ?_, fun a z c' => ?_⟩
      · have hl := hok.facts.1
        have h0 : ((fresh p c 0 0).st)[0]? = some 0 := by
          have : (fresh p c 0 0).st = List.replicate (slN (c : Int)) 0 := rfl
          rw [this] at hl ⊢
          rw [List.getElem?_replicate, if_pos (by rw [List.length_replicate] at hl; exact hl)]
        have : (fresh p c 0 0).at 0 ∈ freeP c (ins (fresh p c 0 0) m) := mem_freeP.2 ⟨_, ins_in.2 (.inl ⟨0, h0, rfl, rfl, rfl⟩)⟩
        intro e
        rw [e] at this
        cases this
      · rw [some_in hfit, ins_in]
        constructor
        · rintro (h' | h')
          · have := (fresh_in h').1; omega
          · exact h'
        · exact .inr

/-- A new span lies elsewhere than the old ones. -/
theorem lay_apart {W P : Nat} {t : Sg} (ht : t.Ok W) : ∀ {m : List Sg} {a0 : Nat}, Fit W P a0 m → layP P t.k a0 m = some t.pg → ∀ s ∈ m, s.pg + s.k ≤ t.pg ∨ t.pg + t.k ≤ s.pg
  | s' :: l, a0, h, e, s, hs => by
    unfold layP at e
    split at e
    · simp only [Option.some.injEq] at e
      rcases List.mem_cons.1 hs with rfl | hs
      · exact .inr (by omega)
      · have := (h.2.2.ok s hs).2.1
        exact .inr (by omega)
    · have hge := layP_ge h.2.2 e
      rcases List.mem_cons.1 hs with rfl | hs
      · exact .inl hge.1
      · exact lay_apart ht h.2.2 e s hs

/-- What is so behind a Take that was answered. -/
structure Took (W P : Nat) (n : Int) (a : Nat) (m m' : List Sg) : Prop where
  fit : Fit W P 0 m'
  here : ∃ z c, In m' a z c 1 ∧ n ≤ (z : Int)
  new : ∀ z c, ¬ In m a z c 1
  else' : ∀ b z c, b ≠ a → (In m' b z c 1 ↔ In m b z c 1)
theorem z_small {W : Nat} {s : Sg} (h : s.Ok W) (n : Int) (hn : ofI n = (s.cl : Int)) (h7 : s.cl < 7) : n ≤ (s.z : Int) := by
  have e : (s.z : Int) = sizeI (s.cl : Int) := by rw [← h.facts.2.2.2.2.2.2.2]; unfold szI; rw [if_neg (by omega)]
  rw [e]
  have := ofI_cases n
  rcases (by omega : s.cl = 0 ∨ s.cl = 1 ∨ s.cl = 2 ∨ s.cl = 3 ∨ s.cl = 4 ∨ s.cl = 5 ∨ s.cl = 6) with h | h | h | h | h | h | h <;> rw [h] at hn ⊢ <;> simp [sizeI] <;> omega
theorem head_mem {l : List Nat} (h : l ≠ []) : l.headD 0 ∈ l := by
  rcases l with _ | ⟨a, l⟩
  · exact absurd rfl h
  · exact List.mem_cons_self
theorem take_ok {W P : Nat} {w n : Int} {m m' : List Sg} {a : Nat} (h : Fit W P 0 m) (e : takeM P W w n m = (a, 0, m')) : Took W P n a m m' := by
  unfold takeM at e
  split at e
  · simp at e
  rename_i hw
  have hw' : 0 ≤ w ∧ w < (W : Int) := by
    rcases Decidable.em (0 ≤ w ∧ w < (W : Int)) with h | h
    · exact h
    · exact absurd (.inl h) hw
  have hn1 : ofI n ≠ -1 := fun e => hw (.inr e)
  have hr := ofI_range n
  split at e
  · rename_i h7
    split at e
    · simp at e
    · rename_i p hp
      simp only [Prod.mk.injEq] at e
      obtain ⟨rfl, _, rfl⟩ := e
      obtain ⟨_, k1, k2⟩ := pagesN_large h7
      have hnn : ((n.toNat : Nat) : Int) = n := by omega
      have hok : (fresh p 7 n.toNat 1).Ok W := fresh_ok (by omega) (fun e => by omega) (fun _ => by rw [hnn]; exact h7) (by omega) (fun _ => by omega)
      have hk : (fresh p 7 n.toNat 1).k = pagesN n := by show pgsN (7 : Int) ((n.toNat : Nat) : Int) = _; rw [hnn]; rfl
      have hz : (fresh p 7 n.toNat 1).z = n.toNat := by show (szI (7 : Int) ((n.toNat : Nat) : Int)).toNat = _; rw [hnn]; rfl
      have hfit : Fit W P 0 (ins (fresh p 7 n.toNat 1) m) := Fit.lay hok h (by rw [hk]; exact hp)
      have hat : (fresh p 7 n.toNat 1).at 0 = 256 * p := by unfold Sg.at; rw [Nat.zero_mul]; rfl
      have hin : InS (fresh p 7 n.toNat 1) (256 * p) n.toNat 7 1 := ⟨0, rfl, hat.symm, hz.symm, rfl⟩
      refine ⟨hfit, ⟨n.toNat, 7, ins_in.2 (.inl hin), by omega⟩, fun z c hi => ?_, fun b z c hb => ?_⟩
      · obtain ⟨s, hs, hi⟩ := hi
        have hb := hi.bound (h.ok s hs).1
        have hkf := hok.facts
        have hpg : (fresh p 7 n.toNat 1).pg = p := rfl
        rcases lay_apart hok h (by rw [hk]; exact hp) s hs with h' | h' <;> rw [hpg] at h' <;> omega
      · rw [ins_in]
        constructor
        · rintro (⟨i, k1, k2, _⟩ | h')
          · have hi : i < (fresh p 7 n.toNat 1).st.length := (List.getElem?_eq_some_iff.1 k1).1
            have : (fresh p 7 n.toNat 1).st.length = 1 := by simp [fresh]; rfl
            obtain rfl : i = 0 := by omega
            exact absurd (k2.trans hat) hb
          · exact h'
        · exact .inr
  · rename_i h7
    obtain ⟨c, hc⟩ : ∃ c : Nat, ofI n = (c : Int) := ⟨(ofI n).toNat, by omega⟩
    rw [hc] at e h7 hr
    simp only [Int.toNat_natCast] at e
    split at e
    · simp at e
    · rename_i m2 hm2
      simp only [Prod.mk.injEq] at e
      obtain ⟨rfl, _, rfl⟩ := e
      obtain ⟨f1, f2, f3⟩ := fill_ok h (by omega) (by omega) hm2
      obtain ⟨z, hz⟩ := mem_keptM.1 (head_mem f2)
      generalize hg : (keptM w.toNat c m2).headD 0 = a at *
      refine ⟨f1.set _ 1 (by omega) (fun _ _ _ _ _ => by omega), ⟨z, c, set_in.2 (.inl ⟨rfl, rfl, _, hz⟩), ?_⟩, fun z' c' hi => ?_, fun b z' c' hb => ?_⟩
      · obtain ⟨s, hs, i, _, _, k3, k4⟩ := hz
        rw [k3]
        exact z_small (f1.ok s hs).1 n (by rw [hc, k4]) (by omega)
      · have := (((f3 a z' c').2 hi).one f1 hz).2.2
        omega
      · rw [set_in, ← f3 b z' c']
        constructor
        · rintro (⟨e, _⟩ | ⟨_, h'⟩)
          · exact absurd e hb
          · exact h'
        · exact fun h' => .inr ⟨hb, h'⟩
end Go.Proofs.YtgmljgogmbaioaaGreatDoor

/- Plain mathematics of layer 11, going on: Give; objects, their places and how many there are; what is left behind flushing and scavenging. -/
namespace Go.Proofs.YtgmljgogmbaioaaGreatDoor
set_option linter.unusedVariables false
set_option maxRecDepth 4000

/-- The class of the object at a place. -/
def liveC (a : Nat) : List Sg → Option Nat
  | [] => none
  | s :: l => if a ∈ plS s (liveQ s.cl) 0 s.st then some s.cl else liveC a l
theorem liveC_in {a c : Nat} : ∀ {m : List Sg}, liveC a m = some c → ∃ z, In m a z c 1
  | s :: l, e => by
    unfold liveC at e
    split at e
    · rename_i h
      cases e
      obtain ⟨j, x, h1, h2, h3⟩ := (mem_plS _ _ _ _ _).1 h
      obtain rfl := of_decide_eq_true h2
      exact ⟨s.z, in_cons.2 (.inl ⟨j, h1, by rw [h3]; congr 1; omega, rfl, rfl⟩)⟩
    · obtain ⟨z, h⟩ := liveC_in e
      exact ⟨z, in_cons.2 (.inr h)⟩
theorem liveC_none {a : Nat} : ∀ {m : List Sg}, liveC a m = none → ∀ z c, ¬ In m a z c 1
  | [], _, _, _, h => in_nil h
  | s :: l, e, z, c, h => by
    unfold liveC at e
    split at e
    · cases e
    · rename_i hn
      rcases in_cons.1 h with ⟨i, h1, h2, _⟩ | h
      · exact hn ((mem_plS _ _ _ _ _).2 ⟨i, 1, h1, decide_eq_true rfl, by rw [h2]; congr 1; omega⟩)
      · exact liveC_none e z c h
theorem liveC_of {W P a0 a z c : Nat} {m : List Sg} (hf : Fit W P a0 m) (h : In m a z c 1) : liveC a m = some c := by
  rcases e : liveC a m with _ | c'
  · exact absurd h (liveC_none e z c)
  · obtain ⟨z', h'⟩ := liveC_in e
    rw [(h.one hf h').2.1]

/-- What Give answers, and what lies there then. -/
def giveM (W : Nat) (w x : Int) (m : List Sg) : Nat × List Sg :=
  if ¬ (0 ≤ w ∧ w < (W : Int)) then (2, m)
  else match (if 0 ≤ x then liveC x.toNat m else none) with
    | none => (10, m)
    | some c => if c = 7 then (0, dropM x.toNat m) else (0, trimM w.toNat c (setM x.toNat (w.toNat + 2) m))
/-- What is so behind a Give that was answered. -/
structure Gave (W P a : Nat) (m m' : List Sg) : Prop where
  fit : Fit W P 0 m'
  was : ∃ z c, In m a z c 1
  gone : ∀ z c, ¬ In m' a z c 1
  else' : ∀ b z c, b ≠ a → (In m' b z c 1 ↔ In m b z c 1)
theorem trim_in {W P a0 w c : Nat} {m : List Sg} (h : Fit W P a0 m) {a z c' : Nat} : In (trimM w c m) a z c' 1 ↔ In m a z c' 1 := by
  unfold trimM
  split
  · rw [sets_in]
    constructor
    · rintro (⟨_, e, _⟩ | ⟨_, h'⟩)
      · omega
      · exact h'
    · intro h'
      refine .inr ⟨fun ha => ?_, h'⟩
      obtain ⟨z', k⟩ := mem_keptM.1 (List.mem_of_mem_drop ha)
      have := (h'.one h k).2.2
      omega
  · exact Iff.rfl
theorem give_ok {W P : Nat} {w x : Int} {m m' : List Sg} (h : Fit W P 0 m) (e : giveM W w x m = (0, m')) : 0 ≤ x ∧ Gave W P x.toNat m m' := by
  unfold giveM at e
  split at e
  · simp at e
  rename_i hw
  split at e
  · simp at e
  rename_i c hc
  split at hc
  · rename_i hx
    obtain ⟨z, hz⟩ := liveC_in hc
    refine ⟨hx, ?_⟩
    generalize x.toNat = a at *
    split at e
    · rename_i h7
      simp only [Prod.mk.injEq, true_and] at e
      subst e h7
      exact ⟨h.filter _, ⟨z, 7, hz⟩, fun z' c' hi => ((drop_in h ⟨z, 1, hz⟩).1 hi).1 rfl, fun b z' c' hb => by rw [drop_in h ⟨z, 1, hz⟩]; exact ⟨fun h => h.2, fun h => ⟨hb, h⟩⟩⟩
    · rename_i h7
      simp only [Prod.mk.injEq, true_and] at e
      subst e
      have hf : Fit W P 0 (setM a (w.toNat + 2) m) := h.set _ _ (by omega) (fun z' c' x' hi e7 => by have := (hi.one h hz).2.1; omega)
      refine ⟨hf.trim _ _, ⟨z, c, hz⟩, fun z' c' hi => ?_, fun b z' c' hb => ?_⟩
      · rw [trim_in hf, set_in] at hi
        rcases hi with ⟨_, e, _⟩ | ⟨e, _⟩
        · omega
        · exact e rfl
      · rw [trim_in hf, set_in]
        constructor
        · rintro (⟨e, _⟩ | ⟨_, h'⟩)
          · exact absurd e hb
          · exact h'
        · exact fun h' => .inr ⟨hb, h'⟩
  · cases hc
theorem give_live {W P a : Nat} {w : Int} {m : List Sg} (h : Fit W P 0 m) (hw : 0 ≤ w ∧ w < (W : Int)) (hi : ∃ z c, In m a z c 1) : ∃ m', giveM W w (a : Int) m = (0, m') := by
  obtain ⟨z, c, hi⟩ := hi
  unfold giveM
  rw [if_neg (by simpa using hw), if_pos (by omega), Int.toNat_natCast, liveC_of h hi]
  simp only
  split
  · exact ⟨_, rfl⟩
  · exact ⟨_, rfl⟩

/-- Objects: where they lie, and how many bytes were asked. -/
structure Objs (m : List Sg) (live : List (Nat × Nat)) : Prop where
  here : ∀ y ∈ live, ∃ z c, In m y.1 z c 1 ∧ y.2 ≤ z
  once : (live.map (·.1)).Nodup
  all : ∀ a z c, In m a z c 1 → a ∈ live.map (·.1)
theorem Objs.nil : Objs [] [] := ⟨fun y hy => by (cases hy), List.nodup_nil, fun a z c h => absurd h in_nil⟩
theorem Objs.same {m m' : List Sg} {live : List (Nat × Nat)} (h : Objs m live) (e : ∀ a z c, In m' a z c 1 ↔ In m a z c 1) : Objs m' live :=
  ⟨fun y hy => by obtain ⟨z, c, h1, h2⟩ := h.here y hy; exact ⟨z, c, (e _ _ _).2 h1, h2⟩, h.once, fun a z c hi => h.all a z c ((e _ _ _).1 hi)⟩
theorem Objs.took {W P : Nat} {n a : Nat} {m m' : List Sg} {live : List (Nat × Nat)} (h : Objs m live) (t : Took W P (n : Int) a m m') : Objs m' (live ++ [(a, n)]) := by
  have hna : a ∉ live.map (·.1) := by
    intro hm
    obtain ⟨y, hy, rfl⟩ := List.mem_map.1 hm
    obtain ⟨z, c, h1, _⟩ := h.here y hy
    exact t.new z c h1
  refine ⟨fun y hy => ?_, ?_, fun b z c hi => ?_⟩
  · rcases List.mem_append.1 hy with hy | hy
    · obtain ⟨z, c, h1, h2⟩ := h.here y hy
      refine ⟨z, c, (t.else' y.1 z c ?_).2 h1, h2⟩
      intro e
      exact t.new z c (e ▸ h1)
    · rw [List.mem_singleton] at hy
      subst hy
      obtain ⟨z, c, h1, h2⟩ := t.here
      exact ⟨z, c, h1, by simpa using h2⟩
  · rw [List.map_append, List.nodup_append]
    refine ⟨h.once, by simp, ?_⟩
    intro b hb b' hb' e
    simp at hb'
    subst e hb'
    exact hna hb
  · rw [List.map_append, List.mem_append]
    by_cases hb : b = a
    · exact .inr (by simp [hb])
    · exact .inl (h.all b z c ((t.else' b z c hb).1 hi))
/-- A new object lies over no other one. -/
theorem Objs.over {W P : Nat} {n a : Nat} {m m' : List Sg} {live : List (Nat × Nat)} (h : Objs m live) (t : Took W P (n : Int) a m m') : ∀ y ∈ live, a + n ≤ y.1 ∨ y.1 + y.2 ≤ a := by
  intro y hy
  obtain ⟨z, c, h1, h2⟩ := h.here y hy
  obtain ⟨z', c', k1, k2⟩ := t.here
  have hne : y.1 ≠ a := fun e => t.new z c (e ▸ h1)
  have := In.apart t.fit k1 ((t.else' y.1 z c hne).2 h1)
  have k2 : n ≤ z' := by omega
  rcases this with ⟨e, _⟩ | h' | h'
  · exact absurd e.symm hne
  · exact .inl (by omega)
  · exact .inr (by omega)
theorem Objs.gave {W P : Nat} {k : Nat} {m m' : List Sg} {live : List (Nat × Nat)} (h : Objs m live) (hk : k < live.length) (g : Gave W P (live[k]).1 m m') : Objs m' (live.take k ++ live.drop (k + 1)) := by
  have e : live = live.take k ++ live[k] :: live.drop (k + 1) := by
    rw [List.getElem_cons_drop, List.take_append_drop]
  have hn : ((live.take k ++ live[k] :: live.drop (k + 1)).map (·.1)).Nodup := by rw [← e]; exact h.once
  rw [List.map_append, List.map_cons, List.nodup_append] at hn
  obtain ⟨n1, n2, n3⟩ := hn
  obtain ⟨n4, n5⟩ := List.nodup_cons.1 n2
  have hne : ∀ y ∈ live.take k ++ live.drop (k + 1), y.1 ≠ (live[k]).1 := by
    intro y hy
    rcases List.mem_append.1 hy with hy | hy
    · exact n3 _ (List.mem_map.2 ⟨y, hy, rfl⟩) _ List.mem_cons_self
    · intro e'
      exact n4 (e' ▸ List.mem_map.2 ⟨y, hy, rfl⟩)
  have hsub : ∀ y ∈ live.take k ++ live.drop (k + 1), y ∈ live := by
    intro y hy
    rcases List.mem_append.1 hy with hy | hy
    · exact List.mem_of_mem_take hy
    · exact List.mem_of_mem_drop hy
  refine ⟨fun y hy => ?_, ?_, fun a z c hi => ?_⟩
  · obtain ⟨z, c, h1, h2⟩ := h.here y (hsub y hy)
    exact ⟨z, c, (g.else' y.1 z c (hne y hy)).2 h1, h2⟩
  · rw [List.map_append, List.nodup_append]
    exact ⟨n1, n5, fun a ha b hb => n3 a ha b (List.mem_cons_of_mem _ hb)⟩
  · by_cases ha : a = (live[k]).1
    · rw [ha] at hi; exact absurd hi (g.gone z c)
    · have := h.all a z c ((g.else' a z c ha).1 hi)
      rw [e, List.map_append, List.map_cons, List.mem_append, List.mem_cons] at this
      rw [List.map_append, List.mem_append]
      rcases this with h' | h' | h'
      · exact .inl h'
      · exact absurd h' ha
      · exact .inr h'

theorem nodup_of_rises : ∀ {l : List Nat}, l.Pairwise (· < ·) → l.Nodup
  | [], _ => List.nodup_nil
  | a :: l, h => by
    obtain ⟨h1, h2⟩ := List.pairwise_cons.1 h
    exact List.nodup_cons.2 ⟨fun ha => by have := h1 a ha; omega, nodup_of_rises h2⟩
theorem len_le_of_sub : ∀ {l l' : List Nat}, l.Nodup → (∀ x ∈ l, x ∈ l') → l.length ≤ l'.length
  | [], _, _, _ => Nat.zero_le _
  | a :: l, l', h, hs => by
    obtain ⟨h1, h2⟩ := List.nodup_cons.1 h
    have ha := hs a List.mem_cons_self
    have ih := len_le_of_sub (l' := l'.erase a) h2 (fun x hx => by
      have hne : x ≠ a := fun e => h1 (e ▸ hx)
      exact (List.mem_erase_of_ne hne).2 (hs x (List.mem_cons_of_mem _ hx)))
    rw [List.length_erase_of_mem ha] at ih
    have := List.length_pos_of_mem ha
    simp only [List.length_cons]
    omega
/-- How many objects there are. -/
theorem Objs.count {W P a0 : Nat} {m : List Sg} {live : List (Nat × Nat)} (hf : Fit W P a0 m) (h : Objs m live) : (liveM m).length = live.length := by
  have h1 : (liveM m).length ≤ (live.map (·.1)).length := len_le_of_sub (nodup_of_rises (pl_rises _ hf)) (fun x hx => by obtain ⟨z, c, hi⟩ := mem_liveM.1 hx; exact h.all x z c hi)
  have h2 : (live.map (·.1)).length ≤ (liveM m).length := len_le_of_sub h.once (fun x hx => by obtain ⟨y, hy, rfl⟩ := List.mem_map.1 hx; obtain ⟨z, c, hi, _⟩ := h.here y hy; exact mem_liveM.2 ⟨z, c, hi⟩)
  rw [List.length_map] at h1 h2
  omega

/-- Flushing and scavenging keep the objects. -/
theorem flush_live {w : Nat} {m : List Sg} (a z c : Nat) : In (flushM w m) a z c 1 ↔ In m a z c 1 := by
  rw [flush_in]
  constructor
  · rintro (⟨e, _⟩ | ⟨_, h⟩)
    · omega
    · exact h
  · exact fun h => .inr ⟨by omega, h⟩
theorem scav_live {m : List Sg} (a z c : Nat) : In (scavM m) a z c 1 ↔ In m a z c 1 := scav_in (by decide)
/-- Nobody keeps anything of the workers below k. -/
def NoKept (k : Nat) (m : List Sg) : Prop := ∀ a z c x, In m a z c x → x < 2 ∨ k + 2 ≤ x
theorem NoKept.flush {k : Nat} {m : List Sg} (h : NoKept k m) : NoKept (k + 1) (flushM k m) := by
  intro a z c x hi
  rcases flush_in.1 hi with ⟨rfl, _⟩ | ⟨hx, hi⟩
  · exact .inl (by omega)
  · rcases h a z c x hi with h | h
    · exact .inl h
    · exact .inr (by omega)
theorem NoKept.scav {k : Nat} {m : List Sg} (h : NoKept k m) : NoKept k (scavM m) := fun a z c x hi => h a z c x (in_filter hi)
theorem NoKept.kept {W P a0 : Nat} {m : List Sg} (hf : Fit W P a0 m) (h : NoKept W m) (w c : Nat) : keptM w c m = [] := by
  rcases e : keptM w c m with _ | ⟨a, l⟩
  · rfl
  · obtain ⟨z, hi⟩ := mem_keptM.1 (show a ∈ keptM w c m by rw [e]; exact List.mem_cons_self)
    have := hi.bound hf
    rcases h a z c _ hi with h | h <;> omega
theorem scav_none (m : List Sg) : scavN (scavM m) = 0 ∧ scavM (scavM m) = scavM m := by
  constructor
  · unfold scavN scavM
    rw [List.filter_filter]
    have : m.filter (fun s => !s.st.any (fun x => x != 0) && s.st.any (fun x => x != 0)) = [] := by
      rw [List.filter_eq_nil_iff]; intro s _; cases s.st.any (fun x => x != 0) <;> simp
    rw [this]; rfl
  · unfold scavM
    rw [List.filter_filter]
    congr 1
    funext s
    cases s.st.any (fun x => x != 0) <;> rfl
/-- Behind flushing all and scavenging each span has an object. -/
theorem scav_full {W P a0 : Nat} {m : List Sg} (hf : Fit W P a0 m) (h : NoKept W m) : ∀ s ∈ scavM m, 1 ≤ s.st.countP (fun x => decide (x = 1)) := by
  intro s hs
  obtain ⟨h1, h2⟩ := List.mem_filter.1 hs
  obtain ⟨x, hx, hx0⟩ := List.any_eq_true.1 h2
  obtain ⟨i, hi⟩ := List.getElem?_of_mem hx
  have hin : In m (s.at i) s.z s.cl x := ⟨s, h1, i, hi, rfl, rfl, rfl⟩
  have hb := hin.bound hf
  have hx1 : x = 1 := by
    have h0 : x ≠ 0 := by simpa using hx0
    rcases h _ _ _ _ hin with h | h <;> omega
  exact List.countP_pos_iff.2 ⟨x, hx, decide_eq_true hx1⟩
/-- Without an object nothing is left. -/
theorem scav_empty {W P a0 : Nat} {m : List Sg} (hf : Fit W P a0 m) (h : NoKept W m) (hl : ∀ a z c, ¬ In m a z c 1) : scavM m = [] := by
  rcases e : scavM m with _ | ⟨s, l⟩
  · rfl
  · have hs : s ∈ scavM m := by rw [e]; exact List.mem_cons_self
    have := scav_full hf h s hs
    obtain ⟨x, hx, hx1⟩ := List.countP_pos_iff.1 this
    obtain rfl := of_decide_eq_true hx1
    obtain ⟨i, hi⟩ := List.getElem?_of_mem hx
    exact absurd (⟨s, (List.mem_filter.1 hs).1, i, hi, rfl, rfl, rfl⟩ : In m (s.at i) s.z s.cl 1) (hl _ _ _)
theorem live_len : ∀ m : List Sg, (liveM m).length = (m.map (fun s => s.st.countP (fun x => decide (x = 1)))).sum
  | [] => rfl
  | s :: l => by
    unfold liveM at *
    rw [pl, List.length_append, plS_len, List.map_cons, List.sum_cons]
    have := live_len l
    unfold liveM at this
    rw [this]
    rfl
end Go.Proofs.YtgmljgogmbaioaaGreatDoor

/- Plain mathematics of layer 11, going on: when a place is refused; slots counted. -/
namespace Go.Proofs.YtgmljgogmbaioaaGreatDoor
set_option linter.unusedVariables false
set_option maxRecDepth 4000

theorem no_large {W P a0 w : Nat} {m : List Sg} (h : Fit W P a0 m) : keptM w 7 m = [] := by
  rcases e : keptM w 7 m with _ | ⟨a, l⟩
  · rfl
  · obtain ⟨z, hi⟩ := mem_keptM.1 (show a ∈ keptM w 7 m by rw [e]; exact List.mem_cons_self)
    have := (hi.bound h).2.2.2.1 rfl
    omega
/-- A place is given just if there is one. -/
theorem take_room {W P : Nat} {w n : Int} {m : List Sg} (h : Fit W P 0 m) (hw : 0 ≤ w ∧ w < (W : Int)) (hn : ofI n ≠ -1) :
    ((keptM w.toNat (ofI n).toNat m ≠ [] ∨ (∃ r ∈ freeM P 0 m, pagesN n ≤ r.2) ∨ ((ofI n).toNat < 7 ∧ freeP (ofI n).toNat m ≠ [])) → ∃ a m', takeM P W w n m = (a, 0, m')) ∧
    (¬ (keptM w.toNat (ofI n).toNat m ≠ [] ∨ (∃ r ∈ freeM P 0 m, pagesN n ≤ r.2) ∨ ((ofI n).toNat < 7 ∧ freeP (ofI n).toNat m ≠ [])) → takeM P W w n m = (0, 13, m)) := by
  have hr := ofI_range n
  have hcond : ¬ (¬ (0 ≤ w ∧ w < (W : Int)) ∨ ofI n = -1) := fun e => e.elim (fun e => e hw) hn
  unfold takeM
  rw [if_neg hcond]
  by_cases h7 : ofI n = 7
  · rw [if_pos h7, h7]
    obtain ⟨k0, k1, k2⟩ := pagesN_large h7
    have hk : 1 ≤ pagesN n := by rw [k0]; omega
    have e7 : keptM w.toNat (Int.toNat 7) m = [] := no_large h
    constructor
    · rintro (h' | ⟨r, hr1, hr2⟩ | ⟨h', _⟩)
      · exact absurd e7 h'
      · rcases e : layP P (pagesN n) 0 m with _ | p
        · have := (layP_none hk h).1 e r hr1; omega
        · exact ⟨_, _, rfl⟩
      · exact absurd h' (by decide)
    · intro hno
      have : layP P (pagesN n) 0 m = none := (layP_none hk h).2 fun r hr1 => by
        rcases Nat.lt_or_ge r.2 (pagesN n) with h' | h'
        · exact h'
        · exact absurd (.inr (.inl ⟨r, hr1, h'⟩)) hno
      rw [this]
  · rw [if_neg h7]
    obtain ⟨c, hc⟩ : ∃ c : Nat, ofI n = (c : Int) := ⟨(ofI n).toNat, by omega⟩
    have hp : pagesN n = 1 := pagesN_small (by omega) (by omega)
    rw [hc, hp, Int.toNat_natCast]
    have hc7 : c < 7 := by omega
    unfold fillM
    constructor
    · intro hyes
      by_cases h1 : keptM w.toNat c m ≠ []
      · rw [if_pos h1]; exact ⟨_, _, rfl⟩
      · rw [if_neg h1]
        by_cases h2 : freeP c m ≠ []
        · rw [if_pos h2]; exact ⟨_, _, rfl⟩
        · rw [if_neg h2]
          rcases hyes with h' | ⟨r, hr1, hr2⟩ | ⟨_, h'⟩
          · exact absurd h' h1
          · rcases e : layP P 1 0 m with _ | p
            · have := (layP_none (Nat.le_refl 1) h).1 e r hr1; omega
            · exact ⟨_, _, rfl⟩
          · exact absurd h' h2
    · intro hno
      have h1 : ¬ keptM w.toNat c m ≠ [] := fun h' => hno (.inl h')
      have h2 : ¬ freeP c m ≠ [] := fun h' => hno (.inr (.inr ⟨hc7, h'⟩))
      have h3 : layP P 1 0 m = none := (layP_none (Nat.le_refl 1) h).2 fun r hr1 => by
        rcases Nat.lt_or_ge r.2 1 with h' | h'
        · exact h'
        · exact absurd (.inr (.inl ⟨r, hr1, h'⟩)) hno
      rw [if_neg h1, if_neg h2, h3]
      rfl

theorem sum_zero : ∀ l : List Nat, (l.map (fun _ => 0)).sum = 0
  | [] => rfl
  | a :: l => by simp only [List.map_cons, List.sum_cons, sum_zero l]
/-- The states of slots, counted. -/
theorem states_sum (W : Nat) : ∀ (l : List Nat), (∀ x ∈ l, x < W + 2) → l.length = l.countP (fun x => decide (x = 0)) + l.countP (fun x => decide (x = 1)) + ((List.range W).map (fun w => l.countP (fun x => decide (x = w + 2)))).sum
  | [], _ => by
    have : ((List.range W).map (fun _ => 0)).sum = 0 := sum_zero _
    simp [this]
  | x :: l, h => by
    have ih := states_sum W l (fun y hy => h y (List.mem_cons_of_mem _ hy))
    have hx := h x List.mem_cons_self
    have key : ∀ V, ((List.range V).map (fun w => (x :: l).countP (fun y => decide (y = w + 2)))).sum = ((List.range V).map (fun w => l.countP (fun y => decide (y = w + 2)))).sum + (if 2 ≤ x ∧ x < V + 2 then 1 else 0) := by
      intro V
      induction V with
      | zero => rw [if_neg (by omega)]; rfl
      | succ V ihV =>
        rw [List.range_succ, List.map_append, List.map_append, List.sum_append, List.sum_append, ihV]
        simp only [List.map_cons, List.map_nil, List.sum_cons, List.sum_nil, List.countP_cons]
        by_cases e : x = V + 2
        · have h1 : ¬ (2 ≤ x ∧ x < V + 2) := by omega
          have h2 : 2 ≤ x ∧ x < V + 1 + 2 := by omega
          rw [if_neg h1, if_pos h2, if_pos (decide_eq_true e)]; omega
        · have h0 : ¬ decide (x = V + 2) = true := by simp [e]
          rw [if_neg h0]
          by_cases h2 : 2 ≤ x ∧ x < V + 2
          · have h3 : 2 ≤ x ∧ x < V + 1 + 2 := by omega
            rw [if_pos h2, if_pos h3]; omega
          · have h3 : ¬ (2 ≤ x ∧ x < V + 1 + 2) := by omega
            rw [if_neg h2, if_neg h3]; omega
    have k0 : (x :: l).countP (fun y => decide (y = 0)) = l.countP (fun y => decide (y = 0)) + (if x = 0 then 1 else 0) := by rw [List.countP_cons]; simp
    have k1 : (x :: l).countP (fun y => decide (y = 1)) = l.countP (fun y => decide (y = 1)) + (if x = 1 then 1 else 0) := by rw [List.countP_cons]; simp
    rw [key W, List.length_cons, k0, k1, ih]
    split <;> split <;> split <;> omega
theorem sum_map_add (f g : Nat → Nat) : ∀ l : List Nat, (l.map (fun w => f w + g w)).sum = (l.map f).sum + (l.map g).sum
  | [] => rfl
  | a :: l => by simp only [List.map_cons, List.sum_cons, sum_map_add f g l]; omega
theorem plS_none (s : Sg) (q : Nat → Bool) (h : ∀ x, q x = false) (i : Nat) (l : List Nat) : plS s q i l = [] := by
  have := plS_len s q l i
  rw [List.countP_eq_zero.2 (fun x _ => by simp [h x])] at this
  exact List.eq_nil_of_length_eq_zero this
theorem count_all {W P : Nat} (c : Nat) : ∀ {m : List Sg} {a0 : Nat}, Fit W P a0 m → (m.map (fun s => if s.cl = c then s.st.length else 0)).sum = (freeP c m).length + (m.map (fun s => if s.cl = c then s.st.countP (fun x => decide (x = 1)) else 0)).sum + ((List.range W).map (fun w => (keptM w c m).length)).sum
  | [], _, _ => by
    have : ((List.range W).map (fun _ => 0)).sum = 0 := sum_zero _
    simp [freeP, keptM, pl, this]
  | s :: l, a0, h => by
    have ih := count_all c h.2.2
    rw [List.map_cons, List.sum_cons, List.map_cons, List.sum_cons, ih]
    have hk : ∀ w, keptM w c (s :: l) = plS s (keptQ w c s.cl) 0 s.st ++ keptM w c l := fun w => rfl
    have hf : freeP c (s :: l) = plS s (freeQ c s.cl) 0 s.st ++ freeP c l := rfl
    simp only [hk, hf, List.length_append, sum_map_add]
    by_cases e : s.cl = c
    · rw [if_pos e, if_pos e]
      have e1 : (plS s (freeQ c s.cl) 0 s.st).length = s.st.countP (fun x => decide (x = 0)) := by
        rw [plS_len]; congr 1; funext x; simp [freeQ, e]
      have e2 : ∀ w, (plS s (keptQ w c s.cl) 0 s.st).length = s.st.countP (fun x => decide (x = w + 2)) := fun w => by
        rw [plS_len]; congr 1; funext x; simp [keptQ, e]
      have := states_sum W s.st h.2.1.w2
      simp only [e1, e2]
      omega
    · rw [if_neg e, if_neg e, plS_none s _ (fun x => by simp [freeQ, e])]
      have e2 : ∀ w, (plS s (keptQ w c s.cl) 0 s.st).length = 0 := fun w => by rw [plS_none s _ (fun x => by simp [keptQ, e])]; rfl
      simp only [e2, List.length_nil]
      have : ((List.range W).map (fun _ => 0)).sum = 0 := sum_zero _
      omega
/-- A class has a free slot just if fewer are live or kept than there are. -/
theorem free_some {W P a0 : Nat} {m : List Sg} (c : Nat) (h : Fit W P a0 m) :
    (m.map (fun s => if s.cl = c then s.st.countP (fun x => decide (x = 1)) else 0)).sum + ((List.range W).map (fun w => (keptM w c m).length)).sum < (m.map (fun s => if s.cl = c then s.st.length else 0)).sum ↔ freeP c m ≠ [] := by
  rw [count_all c h]
  constructor
  · intro h' e
    rw [e] at h'
    simp at h'
  · intro h'
    have := List.length_pos_iff.2 h'
    omega
end Go.Proofs.YtgmljgogmbaioaaGreatDoor

/- Plain mathematics of layer 11, going on: the pages of spans as units of layer 7. -/
namespace Go.Proofs.YtgmljgogmbaioaaGreatDoor
set_option linter.unusedVariables false
set_option maxRecDepth 4000

/-- Is a page one of a span's? -/
def pgF (m : List Sg) : Nat → Bool := fun p => m.any (fun s => decide (s.pg ≤ p ∧ p < s.pg + s.k))
theorem pgF_true {m : List Sg} {p : Nat} : pgF m p = true ↔ ∃ s ∈ m, s.pg ≤ p ∧ p < s.pg + s.k := by
  unfold pgF; rw [List.any_eq_true]
  exact ⟨fun ⟨s, h1, h2⟩ => ⟨s, h1, of_decide_eq_true h2⟩, fun ⟨s, h1, h2⟩ => ⟨s, h1, decide_eq_true h2⟩⟩
theorem pgF_cons (s : Sg) (l : List Sg) (p : Nat) : pgF (s :: l) p = (decide (s.pg ≤ p ∧ p < s.pg + s.k) || pgF l p) := rfl
theorem pgF_low {W P a p : Nat} {m : List Sg} (h : Fit W P a m) (hp : p < a) : pgF m p = false := by
  cases e : pgF m p
  · rfl
  · obtain ⟨s, hs, h1, _⟩ := pgF_true.1 e
    have := (h.ok s hs).2.1
    omega
theorem free_parts {W P : Nat} : ∀ {m : List Sg} {a : Nat}, Fit W P a m → (∀ r ∈ freeM P a m, 1 ≤ r.2 ∧ a ≤ r.1 ∧ r.1 + r.2 ≤ P) ∧ (freeM P a m).Pairwise (fun r s => r.1 + r.2 < s.1) ∧ (∀ i, a ≤ i → i < P → (pgF m i = false ↔ ∃ r ∈ freeM P a m, r.1 ≤ i ∧ i < r.1 + r.2))
  | [], a, h => by
    have h : a ≤ P := h
    unfold freeM
    split
    · refine ⟨fun r hr => ?_, by simp, fun i h1 h2 => ?_⟩
      · rw [List.mem_singleton] at hr; subst hr; simp only; omega
      · refine ⟨fun _ => ⟨(a, P - a), by simp, h1, by simp only; omega⟩, fun _ => rfl⟩
    · exact ⟨fun r hr => by (cases hr), List.Pairwise.nil, fun i h1 h2 => by omega⟩
  | s :: l, a, h => by
    obtain ⟨i1, i2, i3⟩ := free_parts h.2.2
    have hk := h.2.1.facts
    have hle := Fit.le h.2.2
    have ha := h.1
    unfold freeM
    refine ⟨fun r hr => ?_, ?_, fun i h1 h2 => ?_⟩
    · rcases List.mem_append.1 hr with hr | hr
      · split at hr
        · rw [List.mem_singleton] at hr; subst hr; simp only; omega
        · cases hr
      · have := i1 r hr; omega
    · rw [List.pairwise_append]
      refine ⟨by split <;> simp, i2, fun r hr r' hr' => ?_⟩
      have := i1 r' hr'
      split at hr
      · rw [List.mem_singleton] at hr; subst hr; simp only; omega
      · cases hr
    · rw [pgF_cons]
      rcases Nat.lt_or_ge i s.pg with hi | hi
      · rw [decide_eq_false (by omega), Bool.false_or, pgF_low h.2.2 (by omega)]
        refine ⟨fun _ => ⟨(a, s.pg - a), List.mem_append_left _ ?_, h1, by simp only; omega⟩, fun _ => rfl⟩
        rw [if_pos (by omega)]; simp
      · rcases Nat.lt_or_ge i (s.pg + s.k) with hi2 | hi2
        · rw [decide_eq_true ⟨hi, hi2⟩, Bool.true_or]
          refine ⟨fun e => by (cases e), ?_⟩
          rintro ⟨r, hr, k1, k2⟩
          rcases List.mem_append.1 hr with hr | hr
          · split at hr
            · rw [List.mem_singleton] at hr; subst hr; simp only at k1 k2; omega
            · cases hr
          · have := i1 r hr; omega
        · rw [decide_eq_false (by omega), Bool.false_or, i3 i hi2 h2]
          constructor
          · rintro ⟨r, hr, k⟩; exact ⟨r, List.mem_append_right _ hr, k⟩
          · rintro ⟨r, hr, k1, k2⟩
            rcases List.mem_append.1 hr with hr | hr
            · split at hr
              · rw [List.mem_singleton] at hr; subst hr; simp only at k1 k2; omega
              · cases hr
            · exact ⟨r, hr, k1, k2⟩
/-- The free pages are the free units. -/
theorem free_FL {W P : Nat} {m : List Sg} (h : Fit W P 0 m) : FL P (pgF m) (freeM P 0 m) := by
  obtain ⟨i1, i2, i3⟩ := free_parts h
  exact ⟨fun r hr => by have := i1 r hr; omega, i2, fun i hi => i3 i (Nat.zero_le _) hi⟩
theorem free_eq {W P : Nat} {m : List Sg} (h : Fit W P 0 m) : freeM P 0 m = freeL (pgF m) P := (free_FL h).eq
/-- Where pages side by side are free is where units are. -/
theorem lay_take {W P k : Nat} {m : List Sg} (h : Fit W P 0 m) (hk : 1 ≤ k) : TakeIs P (pgF m) k (layP P k 0 m) := by
  rw [layP_free hk h]
  rcases e : (freeM P 0 m).find? (fun r => decide (k ≤ r.2)) with _ | r
  · rw [e]
    exact (free_FL h).take_none hk fun r hr => by
      have := List.find?_eq_none.1 e r hr
      simpa using this
  · obtain ⟨h1, A, B, h2, h3⟩ := List.find?_eq_some_iff_append.1 e
    have hi : A.length < (freeM P 0 m).length := by rw [h2]; simp
    have hg : (freeM P 0 m)[A.length] = r := by simp [h2]
    have := (free_FL h).take_some hk hi (by rw [hg]; exact of_decide_eq_true h1) (fun x hx => by
      rw [h2, List.take_left'  rfl] at hx
      have := h3 x hx
      simpa using this)
    rw [hg] at this
    rw [e]
    exact this
theorem mem_ins {s t : Sg} : ∀ {m : List Sg}, t ∈ ins s m ↔ t = s ∨ t ∈ m
  | [] => by simp [ins]
  | u :: l => by
    rw [ins]
    split
    · rw [List.mem_cons, mem_ins, List.mem_cons]
      constructor
      · rintro (h | h | h)
        · exact .inr (.inl h)
        · exact .inl h
        · exact .inr (.inr h)
      · rintro (h | h | h)
        · exact .inr (.inl h)
        · exact .inl h
        · exact .inr (.inr h)
    · rw [List.mem_cons]
theorem pgF_ins (s : Sg) (m : List Sg) : pgF (ins s m) = turnU (pgF m) s.pg s.k true := by
  funext p
  unfold turnU
  split
  · rename_i h; exact pgF_true.2 ⟨s, mem_ins.2 (.inl rfl), h⟩
  · rename_i h
    cases e : pgF m p
    · cases e2 : pgF (ins s m) p
      · rfl
      · obtain ⟨t, ht, h1⟩ := pgF_true.1 e2
        rcases mem_ins.1 ht with rfl | ht
        · exact absurd h1 h
        · have := pgF_true.2 ⟨t, ht, h1⟩
          rw [e] at this; cases this
    · obtain ⟨t, ht, h1⟩ := pgF_true.1 e
      exact pgF_true.2 ⟨t, mem_ins.2 (.inr ht), h1⟩
/-- Two spans are one, or lie apart. -/
theorem Fit.two {W P : Nat} : ∀ {m : List Sg} {a : Nat}, Fit W P a m → ∀ s ∈ m, ∀ t ∈ m, s = t ∨ s.pg + s.k ≤ t.pg ∨ t.pg + t.k ≤ s.pg
  | u :: l, a, h, s, hs, t, ht => by
    rcases List.mem_cons.1 hs with h1 | h1 <;> rcases List.mem_cons.1 ht with h2 | h2
    · exact .inl (h1.trans h2.symm)
    · subst h1; exact .inr (.inl (h.2.2.ok t h2).2.1)
    · subst h2; exact .inr (.inr (h.2.2.ok s h1).2.1)
    · exact Fit.two h.2.2 s h1 t h2
/-- A span is gone. -/
theorem pgF_gone {W P a : Nat} {m : List Sg} (h : Fit W P a m) {s : Sg} (hs : s ∈ m) (q : Sg → Bool) (hq : ∀ t ∈ m, q t = false ↔ t = s) : pgF (m.filter q) = turnU (pgF m) s.pg s.k false := by
  funext p
  unfold turnU
  split
  · rename_i hp
    cases e : pgF (m.filter q) p
    · rfl
    · obtain ⟨t, ht, h1⟩ := pgF_true.1 e
      obtain ⟨h2, h3⟩ := List.mem_filter.1 ht
      have hts : t ≠ s := fun e => by rw [(hq t h2).2 e] at h3; cases h3
      rcases h.two t h2 s hs with h4 | h4 | h4
      · exact absurd h4 hts
      · omega
      · omega
  · rename_i hp
    cases e : pgF m p
    · cases e2 : pgF (m.filter q) p
      · rfl
      · obtain ⟨t, ht, h1⟩ := pgF_true.1 e2
        have := pgF_true.2 ⟨t, (List.mem_filter.1 ht).1, h1⟩
        rw [e] at this; cases this
    · obtain ⟨t, ht, h1⟩ := pgF_true.1 e
      refine pgF_true.2 ⟨t, List.mem_filter.2 ⟨ht, ?_⟩, h1⟩
      cases e3 : q t
      · have := (hq t ht).1 e3
        subst this
        exact absurd h1 hp
      · rfl
theorem pgF_turn (g : Nat → Nat → Nat → Nat) (m : List Sg) : pgF (turnM g m) = pgF m := by
  funext p
  unfold pgF turnM
  rw [List.any_map]
  rfl
theorem drop_one {W P a b z x : Nat} {m : List Sg} (h : Fit W P a m) (hb : In m b z 7 x) : ∃ s ∈ m, s.cl = 7 ∧ s.at 0 = b ∧ (∀ t ∈ m, (!decide (t.cl = 7 ∧ t.at 0 = b)) = false ↔ t = s) ∧ pgF (dropM b m) = turnU (pgF m) s.pg s.k false := by
  obtain ⟨s, hs, h7, h1, h2, h3⟩ := large_one h hb
  have key : ∀ t ∈ m, (!decide (t.cl = 7 ∧ t.at 0 = b)) = false ↔ t = s := by
    intro t ht
    constructor
    · intro e
      have e' : t.cl = 7 ∧ t.at 0 = b := by simpa using e
      have hto := (h.ok t ht).1
      have hl : t.st.length = 1 := by rw [hto.len, e'.1]; rfl
      rcases h.two t ht s hs with h4 | h4 | h4
      · exact h4
      · have k1 := hto.at_in (i := 0) (by omega)
        have k2 := (h.ok s hs).1.at_in (i := 0) (by rw [h2]; exact Nat.one_pos)
        have k3 := hto.facts
        omega
      · have k1 := hto.at_in (i := 0) (by omega)
        have k2 := (h.ok s hs).1.at_in (i := 0) (by rw [h2]; exact Nat.one_pos)
        have k3 := (h.ok s hs).1.facts
        omega
    · rintro rfl
      simp [h7, h1.symm]
  exact ⟨s, hs, h7, h1.symm, key, pgF_gone h hs _ key⟩
end Go.Proofs.YtgmljgogmbaioaaGreatDoor

/- Plain mathematics of layer 11, going on: the document's loops, slot by slot. -/
namespace Go.Proofs.YtgmljgogmbaioaaGreatDoor
set_option linter.unusedVariables false
set_option maxRecDepth 4000

theorem pl_append (q : Nat → Nat → Bool) : ∀ a b : List Sg, pl q (a ++ b) = pl q a ++ pl q b
  | [], _ => rfl
  | s :: a, b => by rw [List.cons_append, pl, pl, pl_append q a b, List.append_assoc]
theorem pl_snoc (q : Nat → Nat → Bool) (m : List Sg) (k : Nat) (h : k < m.length) : pl q (m.take (k + 1)) = pl q (m.take k) ++ plS m[k] (q m[k].cl) 0 m[k].st := by
  rw [List.take_succ_eq_append_getElem h, pl_append]
  simp [pl]
theorem plS_append (s : Sg) (q : Nat → Bool) : ∀ (a b : List Nat) (i : Nat), plS s q i (a ++ b) = plS s q i a ++ plS s q (i + a.length) b
  | [], _, _ => by simp [plS]
  | x :: a, b, i => by
    rw [List.cons_append, plS, plS, plS_append s q a b (i + 1), List.append_assoc, List.length_cons, show i + 1 + a.length = i + (a.length + 1) by omega]
theorem plS_snoc (s : Sg) (q : Nat → Bool) (l : List Nat) (j : Nat) (h : j < l.length) : plS s q 0 (l.take (j + 1)) = plS s q 0 (l.take j) ++ (if q l[j] = true then [s.at j] else []) := by
  rw [List.take_succ_eq_append_getElem h, plS_append]
  simp only [plS, List.append_nil, Nat.zero_add, List.length_take, Nat.min_eq_left (Nat.le_of_lt h)]

theorem gS_gS (g h : Nat → Nat → Nat → Nat) (s t : Sg) (e1 : ∀ i, t.at i = s.at i) (e2 : t.cl = s.cl) : ∀ (l : List Nat) (i : Nat), gS g t i (gS h s i l) = gS (fun a c x => g a c (h a c x)) s i l
  | [], _ => rfl
  | x :: l, i => by rw [gS, gS, gS, gS_gS g h s t e1 e2 l (i + 1), e1, e2]
theorem turn_turn (g h : Nat → Nat → Nat → Nat) (m : List Sg) : turnM g (turnM h m) = turnM (fun a c x => g a c (h a c x)) m := by
  unfold turnM
  rw [List.map_map]
  congr 1
  funext s
  show Sg.turn g (Sg.turn h s) = _
  unfold Sg.turn
  simp only
  congr 1
  exact gS_gS g h s { s with st := gS h s 0 s.st } (fun _ => rfl) rfl s.st 0
/-- One place more is turned. -/
theorem set_sets (T : List Nat) (a v : Nat) (m : List Sg) : setM a v (setsM T v m) = setsM (T ++ [a]) v m := by
  unfold setM setsM
  rw [turn_turn]
  congr 1
  funext b c x
  by_cases h1 : b = a
  · subst h1; rw [if_pos rfl, if_pos (by simp)]
  · rw [if_neg h1]
    by_cases h2 : b ∈ T
    · rw [if_pos h2, if_pos (by simp [h2])]
    · rw [if_neg h2, if_neg (by simp [h1, h2])]
theorem gS_same (s : Sg) : ∀ (l : List Nat) (i : Nat), gS (fun _ _ x => x) s i l = l
  | [], _ => rfl
  | x :: l, i => by rw [gS, gS_same s l (i + 1)]
theorem sets_nil (v : Nat) (m : List Sg) : setsM [] v m = m := by
  unfold setsM turnM
  have : (Sg.turn (fun b _ x => if b ∈ ([] : List Nat) then v else x)) = id := by
    funext s
    unfold Sg.turn
    have e : (fun (b c x : Nat) => if b ∈ ([] : List Nat) then v else x) = (fun _ _ x => x) := by funext b c x; simp
    rw [e, gS_same]
    rfl
  rw [this, List.map_id]

/-- Free slots are kept, as far as the number goes. -/
def someSt (w : Nat) : Nat → List Nat → List Nat
  | _, [] => []
  | b, x :: l => if x = 0 ∧ 0 < b then (w + 2) :: someSt w (b - 1) l else x :: someSt w b l
/-- What is left of the number. -/
def someLeft : Nat → List Nat → Nat
  | b, [] => b
  | b, x :: l => if x = 0 ∧ 0 < b then someLeft (b - 1) l else someLeft b l
def someB (w c : Nat) : Nat → List Sg → List Sg
  | _, [] => []
  | b, s :: l => if s.cl = c then { s with st := someSt w b s.st } :: someB w c (someLeft b s.st) l else s :: someB w c b l
def zQ : Nat → Bool := fun x => decide (x = 0)
theorem someLeft_eq : ∀ (l : List Nat) (b : Nat), someLeft b l = b - l.countP zQ
  | [], b => by simp [someLeft]
  | x :: l, b => by
    rw [someLeft, List.countP_cons]
    by_cases h0 : x = 0
    · by_cases hb : 0 < b
      · rw [if_pos ⟨h0, hb⟩, someLeft_eq l (b - 1), if_pos (by simp [zQ, h0])]; omega
      · rw [if_neg (by omega), someLeft_eq l b]; omega
    · rw [if_neg (by omega), someLeft_eq l b, if_neg (by simp [zQ, h0])]; omega
theorem someSt_at (w : Nat) : ∀ (l : List Nat) (b j : Nat), (someSt w b l)[j]? = (l[j]?).map (fun x => if x = 0 ∧ (l.take j).countP zQ < b then w + 2 else x)
  | [], _, _ => by simp [someSt]
  | x :: l, b, 0 => by
    rw [someSt]
    split
    · rename_i h; simp [h]
    · rename_i h; simp [h]
  | x :: l, b, j + 1 => by
    rw [someSt, List.take_succ_cons, List.countP_cons, List.getElem?_cons_succ]
    by_cases h : x = 0 ∧ 0 < b
    · rw [if_pos h, List.getElem?_cons_succ, someSt_at w l (b - 1) j, if_pos (by simp [zQ, h.1])]
      congr 1
      funext y
      by_cases hy : y = 0 ∧ (l.take j).countP zQ < b - 1
      · rw [if_pos hy, if_pos ⟨hy.1, by omega⟩]
      · rw [if_neg hy, if_neg (fun k => hy ⟨k.1, by omega⟩)]
    · rw [if_neg h, List.getElem?_cons_succ, someSt_at w l b j]
      congr 1
      funext y
      have hz : zQ x = true → b = 0 := fun k => by have := of_decide_eq_true k; omega
      by_cases hy : y = 0 ∧ (l.take j).countP zQ < b
      · have hx : ¬ zQ x = true := fun k => by have := hz k; omega
        rw [if_pos hy, if_neg hx, if_pos ⟨hy.1, by omega⟩]
      · rw [if_neg hy, if_neg]
        rintro ⟨k1, k2⟩
        exact hy ⟨k1, by omega⟩
/-- A free place is among the first ones just if fewer stand ahead of it. -/
theorem mem_take_plS (s : Sg) (hz : 1 ≤ s.z) (q : Nat → Bool) : ∀ (l : List Nat) (i j b x : Nat), l[j]? = some x → (s.at (i + j) ∈ (plS s q i l).take b ↔ q x = true ∧ (l.take j).countP q < b)
  | [], _, _, _, _, h => by simp at h
  | y :: l, i, 0, b, x, h => by
    simp at h
    subst h
    rw [plS]
    by_cases hq : q y = true
    · rw [if_pos hq]
      rcases b with _ | b
      · simp
      · simp [hq]
    · rw [if_neg hq, List.nil_append]
      constructor
      · intro hm
        obtain ⟨j, x, _, _, e⟩ := (mem_plS s q _ l (i + 1)).1 (List.mem_of_mem_take hm)
        have := Sg.at_lt (s := s) (i := i + 0) (j := i + 1 + j) (by omega)
        omega
      · rintro ⟨h, _⟩; exact absurd h hq
  | y :: l, i, j + 1, b, x, h => by
    have h' : l[j]? = some x := by simpa using h
    have ih := mem_take_plS s hz q l (i + 1) j
    rw [plS, List.take_succ_cons, List.countP_cons, show i + (j + 1) = i + 1 + j by omega]
    by_cases hq : q y = true
    · rw [if_pos hq, if_pos hq]
      rcases b with _ | b
      · simp
      · rw [List.cons_append, List.nil_append, List.take_succ_cons, List.mem_cons, ih b x h']
        have hne : s.at (i + 1 + j) ≠ s.at i := by
          have := Sg.at_lt (s := s) (i := i) (j := i + 1 + j) (by omega)
          omega
        constructor
        · rintro (e | ⟨k1, k2⟩)
          · exact absurd e hne
          · exact ⟨k1, by omega⟩
        · rintro ⟨k1, k2⟩; exact .inr ⟨k1, by omega⟩
    · rw [if_neg hq, if_neg hq, List.nil_append, ih b x h', Nat.add_zero]
theorem sets_congr {T T' : List Nat} {v : Nat} : ∀ {m : List Sg}, (∀ a z c x, In m a z c x → (a ∈ T ↔ a ∈ T')) → setsM T v m = setsM T' v m
  | [], _ => rfl
  | s :: l, h => by
    have ih := sets_congr (T := T) (T' := T') (v := v) (m := l) (fun a z c x hi => h a z c x (in_cons.2 (.inr hi)))
    unfold setsM turnM at *
    rw [List.map_cons, List.map_cons, ih]
    congr 1
    unfold Sg.turn
    congr 1
    apply List.ext_getElem?
    intro j
    rw [gS_at, gS_at]
    rcases e : s.st[j]? with _ | x
    · rfl
    · have := h (s.at j) s.z s.cl x (in_cons.2 (.inl ⟨j, e, rfl, rfl, rfl⟩))
      simp only [Option.map_some, Nat.zero_add]
      congr 1
      by_cases hm : s.at j ∈ T
      · rw [if_pos hm, if_pos (this.1 hm)]
      · rw [if_neg hm, if_neg (fun k => hm (this.2 k))]
theorem freeQ_z (c : Nat) : freeQ c c = zQ := by funext x; simp [freeQ, zQ]
/-- What the document's worker takes. -/
theorem some_eq {W P : Nat} (w c : Nat) : ∀ {m : List Sg} {a b : Nat}, Fit W P a m → someB w c b m = setsM ((freeP c m).take b) (w + 2) m
  | [], _, _, _ => rfl
  | s :: l, a, b, h => by
    have hk := h.2.1.facts
    have hf : freeP c (s :: l) = plS s (freeQ c s.cl) 0 s.st ++ freeP c l := rfl
    have hlow : ∀ x ∈ plS s (freeQ c s.cl) 0 s.st, x < 256 * (s.pg + s.k) := by
      intro x hx
      obtain ⟨j, y, h1, _, rfl⟩ := (mem_plS _ _ _ _ _).1 hx
      have := h.2.1.at_in (List.getElem?_eq_some_iff.1 h1).1
      rw [Nat.zero_add]; omega
    have hhigh : ∀ x ∈ freeP c l, 256 * (s.pg + s.k) ≤ x := by
      intro x hx
      obtain ⟨z, hi⟩ := mem_freeP.1 hx
      exact (hi.bound h.2.2).1
    rw [someB]
    by_cases e : s.cl = c
    · rw [if_pos e, some_eq w c h.2.2]
      have hsplit : (freeP c (s :: l)).take b = (plS s zQ 0 s.st).take b ++ (freeP c l).take (someLeft b s.st) := by
        rw [hf, e, freeQ_z, List.take_append, someLeft_eq, plS_len]
      have hcons : setsM ((freeP c (s :: l)).take b) (w + 2) (s :: l) = Sg.turn (fun x _ y => if x ∈ (freeP c (s :: l)).take b then w + 2 else y) s :: setsM ((freeP c (s :: l)).take b) (w + 2) l := rfl
      rw [hcons]
      congr 1
      · unfold Sg.turn
        congr 1
        apply List.ext_getElem?
        intro j
        rw [someSt_at, gS_at]
        rcases ej : s.st[j]? with _ | x
        · rfl
        · simp only [Option.map_some, Nat.zero_add]
          congr 1
          have key : s.at j ∈ (freeP c (s :: l)).take b ↔ x = 0 ∧ (s.st.take j).countP zQ < b := by
            rw [hsplit, List.mem_append]
            have k1 := mem_take_plS s (by omega) zQ s.st 0 j b x ej
            rw [Nat.zero_add] at k1
            rw [k1]
            constructor
            · rintro (⟨k2, k3⟩ | k2)
              · exact ⟨of_decide_eq_true k2, k3⟩
              · have := hhigh _ (List.mem_of_mem_take k2)
                have := h.2.1.at_in (List.getElem?_eq_some_iff.1 ej).1
                omega
            · rintro ⟨k2, k3⟩; exact .inl ⟨decide_eq_true k2, k3⟩
          by_cases hm : s.at j ∈ (freeP c (s :: l)).take b
          · rw [if_pos (key.1 hm), if_pos hm]
          · rw [if_neg (fun k => hm (key.2 k)), if_neg hm]
      · refine (sets_congr fun x z c' y hi => ?_).symm
        rw [hsplit, List.mem_append]
        constructor
        · rintro (k | k)
          · have k2 : x ∈ plS s (freeQ c s.cl) 0 s.st := by rw [e, freeQ_z]; exact List.mem_of_mem_take k
            have := hlow x k2
            have := (hi.bound h.2.2).1
            omega
          · exact k
        · exact .inr
    · rw [if_neg e, some_eq w c h.2.2]
      have h0 : plS s (freeQ c s.cl) 0 s.st = [] := plS_none s _ (fun x => by simp [freeQ, e]) _ _
      have hsplit : (freeP c (s :: l)).take b = (freeP c l).take b := by rw [hf, h0, List.nil_append]
      rw [hsplit]
      have hcons : setsM ((freeP c l).take b) (w + 2) (s :: l) = Sg.turn (fun x _ y => if x ∈ (freeP c l).take b then w + 2 else y) s :: setsM ((freeP c l).take b) (w + 2) l := rfl
      rw [hcons]
      congr 1
      have hst : gS (fun x _ y => if x ∈ (freeP c l).take b then w + 2 else y) s 0 s.st = s.st := by
        apply List.ext_getElem?
        intro j
        rw [gS_at]
        rcases ej : s.st[j]? with _ | x
        · rfl
        · simp only [Option.map_some, Nat.zero_add]
          rw [if_neg]
          intro k
          have := hhigh _ (List.mem_of_mem_take k)
          have := h.2.1.at_in (List.getElem?_eq_some_iff.1 ej).1
          omega
      unfold Sg.turn
      rw [hst]

/-- Scavenging from the end on. -/
theorem scav_step (m : List Sg) (k : Nat) (h : k < m.length) : scavM (m.drop k) = (if m[k].st.any (fun x => x != 0) then [m[k]] else []) ++ scavM (m.drop (k + 1)) ∧ scavN (m.drop k) = (if m[k].st.any (fun x => x != 0) then 0 else m[k].k) + scavN (m.drop (k + 1)) := by
  rw [List.drop_eq_getElem_cons h]
  unfold scavM scavN
  rw [List.filter_cons, List.filter_cons]
  cases m[k].st.any (fun x => x != 0) <;> simp
end Go.Proofs.YtgmljgogmbaioaaGreatDoor

/- Plain mathematics of layer 11, going on: what the code asks of spans: where a place lies, what is taken. -/
namespace Go.Proofs.YtgmljgogmbaioaaGreatDoor
set_option linter.unusedVariables false
set_option maxRecDepth 4000

/-- Which slots of a span are taken. -/
def Sg.f (s : Sg) : Nat → Bool := fun j => decide (s.st.getD j 0 ≠ 0)
theorem Sg.f_at {s : Sg} {j x : Nat} (h : s.st[j]? = some x) : s.f j = decide (x ≠ 0) := by unfold Sg.f; simp [List.getD, h]
theorem Sg.f_within {s : Sg} {j : Nat} (h : s.f j = true) : j < s.st.length := by
  unfold Sg.f at h
  rcases Nat.lt_or_ge j s.st.length with k | k
  · exact k
  · simp [List.getD, List.getElem?_eq_none k] at h
/-- Which span is the first that ends behind a place. -/
def FindM (m : List Sg) (x : Int) (i : Nat) : Prop := i ≤ m.length ∧ (∀ s ∈ m.take i, 256 * ((s.pg : Int) + (s.k : Int)) ≤ x) ∧ (∀ s ∈ m.drop i, x < 256 * ((s.pg : Int) + (s.k : Int)))
theorem FindM.one {m : List Sg} {x : Int} {i j : Nat} (h : FindM m x i) (k : FindM m x j) : i = j := by
  obtain ⟨h1, h2, h3⟩ := h
  obtain ⟨k1, k2, k3⟩ := k
  rcases Nat.lt_trichotomy i j with e | e | e
  · have := k2 (m[i]'(by omega)) (by rw [List.mem_iff_getElem]; exact ⟨i, by simp; omega, by simp⟩)
    have := h3 (m[i]'(by omega)) (by rw [List.mem_iff_getElem]; exact ⟨0, by simp; omega, by simp⟩)
    omega
  · exact e
  · have := h2 (m[j]'(by omega)) (by rw [List.mem_iff_getElem]; exact ⟨j, by simp; omega, by simp⟩)
    have := k3 (m[j]'(by omega)) (by rw [List.mem_iff_getElem]; exact ⟨0, by simp; omega, by simp⟩)
    omega
theorem Fit.split {W P : Nat} : ∀ {m : List Sg} {a i : Nat}, Fit W P a m → (h : i < m.length) → Fit W P (m[i].pg + m[i].k) (m.drop (i + 1)) ∧ ∀ s ∈ m.take i, s.pg + s.k ≤ m[i].pg
  | s :: l, a, 0, h, _ => by simp; exact h.2.2
  | s :: l, a, i + 1, h, hi => by
    have hi' : i < l.length := by simpa using hi
    obtain ⟨h1, h2⟩ := Fit.split h.2.2 hi'
    simp only [List.getElem_cons_succ, List.drop_succ_cons, List.take_succ_cons]
    refine ⟨h1, fun t ht => ?_⟩
    rcases List.mem_cons.1 ht with rfl | ht
    · exact (h.2.2.ok _ (List.getElem_mem hi')).2.1
    · exact h2 t ht
/-- A slot at a place is one of the span that is found. -/
theorem FindM.in {W P a0 : Nat} {m : List Sg} {a i : Nat} (hf : Fit W P a0 m) (h : FindM m (a : Nat) i) (hi : i < m.length) {z c x : Nat} : In m a z c x ↔ InS m[i] a z c x := by
  constructor
  · rintro ⟨s, hs, hin⟩
    have hb := hin.bound (hf.ok s hs).1
    obtain ⟨j, hj, rfl⟩ := List.getElem_of_mem hs
    rcases Nat.lt_trichotomy j i with e | e | e
    · have := h.2.1 m[j] (by rw [List.mem_iff_getElem]; exact ⟨j, by simp; omega, by simp⟩)
      omega
    · subst e; exact hin
    · have h1 := h.2.2 m[i] (by rw [List.mem_iff_getElem]; exact ⟨0, by simp; omega, by simp⟩)
      have h2 := (hf.split hj).2 m[i] (by rw [List.mem_iff_getElem]; exact ⟨i, by simp; omega, by simp⟩)
      omega
  · exact fun k => ⟨m[i], List.getElem_mem hi, k⟩
theorem FindM.none {W P a0 : Nat} {m : List Sg} {a : Nat} (hf : Fit W P a0 m) (h : FindM m (a : Nat) m.length) {z c x : Nat} : ¬ In m a z c x := by
  rintro ⟨s, hs, hin⟩
  have hb := hin.bound (hf.ok s hs).1
  have := h.2.1 s (by rw [List.take_length]; exact hs)
  omega
theorem FindM.lt {W P a0 : Nat} {m : List Sg} {a i z c x : Nat} (hf : Fit W P a0 m) (h : FindM m (a : Nat) i) (hin : In m a z c x) : i < m.length := by
  rcases Nat.lt_or_eq_of_le h.1 with e | e
  · exact e
  · subst e; exact absurd hin (h.none hf)
theorem gS_other {s : Sg} {a v : Nat} : ∀ (l : List Nat) (i : Nat), (∀ j, j < l.length → s.at (i + j) ≠ a) → gS (fun b _ x => if b = a then v else x) s i l = l
  | [], _, _ => rfl
  | x :: l, i, h => by
    rw [gS, if_neg (show s.at i ≠ a from h 0 (by simp)), gS_other l (i + 1) (fun j hj => by rw [show i + 1 + j = i + (j + 1) by omega]; exact h (j + 1) (by simp; omega))]
/-- A slot of the span i is turned. -/
theorem set_at {W P a0 : Nat} {m : List Sg} (hf : Fit W P a0 m) (i j v : Nat) (hi : i < m.length) (hj : j < m[i].st.length) : setM (m[i].at j) v m = m.set i { m[i] with st := m[i].st.set j v } := by
  unfold setM turnM
  apply List.ext_getElem (by simp)
  intro k hk hk'
  simp only [List.getElem_map, List.getElem_set]
  have hkm : k < m.length := by simpa using hk
  by_cases e : i = k
  · subst e
    rw [if_pos rfl]
    unfold Sg.turn
    congr 1
    apply List.ext_getElem?
    intro n
    rw [gS_at, List.getElem?_set]
    by_cases en : j = n
    · subst en
      rw [if_pos rfl, if_pos hj, List.getElem?_eq_getElem hj, Option.map_some, Nat.zero_add, if_pos rfl]
    · rw [if_neg en]
      rcases ex : m[i].st[n]? with _ | x
      · rfl
      · rw [Option.map_some, Nat.zero_add, if_neg]
        have hz := (hf.ok _ (List.getElem_mem hi)).1.facts.2.2.1
        intro e
        rcases Nat.lt_or_gt_of_ne en with h | h
        · have := Sg.at_lt (s := m[i]) h; omega
        · have := Sg.at_lt (s := m[i]) h; omega
  · rw [if_neg e]
    unfold Sg.turn
    rw [gS_other]
    intro n hn
    rw [Nat.zero_add]
    have ok1 := (hf.ok _ (List.getElem_mem hkm)).1
    have ok2 := (hf.ok _ (List.getElem_mem hi)).1
    have b1 := ok1.at_in hn
    have b2 := ok2.at_in hj
    have z1 := ok1.facts.2.2.1
    have z2 := ok2.facts.2.2.1
    rcases Nat.lt_or_gt_of_ne e with h | h
    · have := (hf.split hkm).2 m[i] (by rw [List.mem_iff_getElem]; exact ⟨i, by simp; omega, by simp⟩)
      omega
    · have := (hf.split hi).2 m[k] (by rw [List.mem_iff_getElem]; exact ⟨k, by simp; omega, by simp⟩)
      omega
theorem f_set {s : Sg} {j v : Nat} (hj : j < s.st.length) : Sg.f { s with st := s.st.set j v } = fun x => if x = j then decide (v ≠ 0) else s.f x := by
  funext x
  unfold Sg.f
  simp only [List.getD, List.getElem?_set]
  by_cases e : j = x
  · subst e; simp [hj]
  · rw [if_neg e, if_neg (fun k => e k.symm)]; rfl
/-- Pages do not turn. -/
theorem set_same (m : List Sg) (i : Nat) (hi : i < m.length) (l : List Nat) : pgF (m.set i { m[i] with st := l }) = pgF m := by
  funext p
  unfold pgF
  have key : ∀ (m : List Sg) (i : Nat) (hi : i < m.length), (m.set i { m[i] with st := l }).any (fun s => decide (s.pg ≤ p ∧ p < s.pg + s.k)) = m.any (fun s => decide (s.pg ≤ p ∧ p < s.pg + s.k)) := by
    intro m
    induction m with
    | nil => intro i hi; simp at hi
    | cons s m ih =>
      intro i hi
      rcases i with _ | i
      · rfl
      · simp only [List.set_cons_succ, List.getElem_cons_succ, List.any_cons]
        rw [ih i (by simpa using hi)]
  exact key m i hi
end Go.Proofs.YtgmljgogmbaioaaGreatDoor

/- Plain mathematics of layer 11, going on: the code's loops: slots taken one by one, spans laid between spans. -/
namespace Go.Proofs.YtgmljgogmbaioaaGreatDoor
set_option linter.unusedVariables false
set_option maxRecDepth 4000

/-- The first free slot is taken. -/
theorem first_zero (s : Sg) (v : Nat) : ∀ (st : List Nat) (i j : Nat), st[j]? = some 0 → (∀ k, k < j → st[k]? ≠ some 0) → plS s zQ i st = s.at (i + j) :: plS s zQ i (st.set j (v + 2)) ∧ ∀ b, someSt v (b + 1) st = someSt v b (st.set j (v + 2))
  | [], _, _, h, _ => by simp at h
  | x :: l, i, 0, h, _ => by
    simp at h
    subst h
    refine ⟨by simp [plS, zQ], fun b => ?_⟩
    rw [List.set_cons_zero, someSt, someSt, if_pos ⟨rfl, by omega⟩, if_neg (by omega)]
    rfl
  | x :: l, i, j + 1, h, hk => by
    have h' : l[j]? = some 0 := by simpa using h
    have hx : x ≠ 0 := fun e => hk 0 (by omega) (by simp [e])
    obtain ⟨h1, h2⟩ := first_zero s v l (i + 1) j h' (fun k hkj => by have := hk (k + 1) (by omega); simpa using this)
    refine ⟨?_, fun b => ?_⟩
    · rw [List.set_cons_succ, plS, plS, h1, show i + 1 + j = i + (j + 1) by omega]
      simp [zQ, hx]
    · rw [List.set_cons_succ, someSt, someSt, if_neg (fun k => hx k.1), if_neg (fun k => hx k.1), h2 b]
theorem no_zero (s : Sg) (v : Nat) : ∀ (st : List Nat) (i : Nat), (∀ x ∈ st, x ≠ 0) → plS s zQ i st = [] ∧ ∀ b, someSt v b st = st
  | [], _, _ => ⟨rfl, fun _ => rfl⟩
  | x :: l, i, h => by
    obtain ⟨h1, h2⟩ := no_zero s v l (i + 1) (fun y hy => h y (List.mem_cons_of_mem _ hy))
    have hx := h x List.mem_cons_self
    refine ⟨by rw [plS, h1]; simp [zQ, hx], fun b => by rw [someSt, if_neg (fun k => hx k.1), h2 b]⟩
theorem some_zero (v : Nat) : ∀ (st : List Nat), someSt v 0 st = st
  | [] => rfl
  | x :: l => by rw [someSt, if_neg (by omega), some_zero v l]
theorem someSt_len (v : Nat) : ∀ (st : List Nat) (b : Nat), (someSt v b st).length = st.length
  | [], _ => rfl
  | x :: l, b => by rw [someSt]; split <;> simp [someSt_len v l]
theorem someSt_mem {v : Nat} : ∀ {st : List Nat} {b x : Nat}, x ∈ someSt v b st → x ∈ st ∨ x = v + 2
  | [], _, _, h => by cases h
  | y :: l, b, x, h => by
    rw [someSt] at h
    split at h
    · rcases List.mem_cons.1 h with h | h
      · exact .inr h
      · rcases someSt_mem h with h | h
        · exact .inl (List.mem_cons_of_mem _ h)
        · exact .inr h
    · rcases List.mem_cons.1 h with h | h
      · exact .inl (by rw [h]; exact List.mem_cons_self)
      · rcases someSt_mem h with h | h
        · exact .inl (List.mem_cons_of_mem _ h)
        · exact .inr h
/-- A span's states turn, all else stays. -/
theorem Sg.Ok.with {W : Nat} {s : Sg} (h : s.Ok W) (st : List Nat) (hl : st.length = s.st.length) (h2 : ∀ x ∈ st, x < W + 2) (h7 : s.cl = 7 → ∀ x ∈ st, x ≤ 1) : ({ s with st := st } : Sg).Ok W := ⟨h.c7, h.sm, h.lg, by rw [hl]; exact h.len, h2, h7⟩
theorem Fit.set_st {W P : Nat} : ∀ {m : List Sg} {a i : Nat} (st : List Nat), Fit W P a m → (hi : i < m.length) → ({ m[i] with st := st } : Sg).Ok W → Fit W P a (m.set i { m[i] with st := st })
  | s :: l, a, 0, st, h, _, ho => ⟨h.1, ho, h.2.2⟩
  | s :: l, a, i + 1, st, h, hi, ho => by
    rw [List.set_cons_succ]
    exact ⟨h.1, h.2.1, Fit.set_st st h.2.2 (by simpa using hi) ho⟩
/-- What is left to be taken from the span k on. -/
structure SomeAt (v c : Nat) (m A : List Sg) (l : List Nat) (k : Nat) : Prop where
  len : A.length = k
  lek : k ≤ m.length
  four : l.length ≤ 4
  pls : l ++ (freeP c (m.drop k)).take (4 - l.length) = (freeP c m).take 4
  spans : A ++ someB v c (4 - l.length) (m.drop k) = someB v c 4 m
theorem SomeAt.start (v c : Nat) (m : List Sg) : SomeAt v c m [] [] 0 := ⟨rfl, Nat.zero_le _, by simp, by simp, by simp⟩
theorem freeP_cons (c : Nat) (s : Sg) (l : List Sg) : freeP c (s :: l) = (if s.cl = c then plS s zQ 0 s.st else []) ++ freeP c l := by
  show plS s (freeQ c s.cl) 0 s.st ++ freeP c l = _
  by_cases e : s.cl = c
  · rw [if_pos e, e, freeQ_z]
  · rw [if_neg e, plS_none s _ (fun x => by simp [freeQ, e])]
theorem SomeAt.skip {v c : Nat} {m A : List Sg} {l : List Nat} {k : Nat} (h : SomeAt v c m A l k) (hk : k < m.length) (hc : m[k].cl ≠ c) : SomeAt v c m (A ++ [m[k]]) l (k + 1) := by
  have e := List.drop_eq_getElem_cons hk
  refine ⟨by simp [h.len], hk, h.four, ?_, ?_⟩
  · have := h.pls
    rw [e, freeP_cons, if_neg hc, List.nil_append] at this
    exact this
  · have := h.spans
    rw [e, someB, if_neg hc] at this
    rw [List.append_assoc]; exact this
theorem SomeAt.fill {v c : Nat} {m A : List Sg} {l : List Nat} {k : Nat} (h : SomeAt v c m A l k) (hk : k < m.length) (hc : m[k].cl = c) : SomeAt v c m (A ++ [{ m[k] with st := someSt v (4 - l.length) m[k].st }]) (l ++ (plS m[k] zQ 0 m[k].st).take (4 - l.length)) (k + 1) := by
  have e := List.drop_eq_getElem_cons hk
  have h4 := h.four
  have hlen : 4 - (l ++ (plS m[k] zQ 0 m[k].st).take (4 - l.length)).length = someLeft (4 - l.length) m[k].st := by
    rw [someLeft_eq, List.length_append, List.length_take, plS_len]; omega
  refine ⟨by simp [h.len], hk, by simp; omega, ?_, ?_⟩
  · have := h.pls
    rw [e, freeP_cons, if_pos hc, List.take_append] at this
    rw [hlen, someLeft_eq, List.append_assoc]
    rw [plS_len] at this
    exact this
  · have := h.spans
    rw [e, someB, if_pos hc] at this
    rw [hlen, List.append_assoc]; exact this
theorem SomeAt.done {v c W P : Nat} {m A : List Sg} {l : List Nat} (h : SomeAt v c m A l m.length) (hf : Fit W P 0 m) : l = (freeP c m).take 4 ∧ A = someM v c m := by
  have h1 := h.pls
  have h2 := h.spans
  rw [List.drop_length] at h1 h2
  refine ⟨by simpa [freeP, pl] using h1, ?_⟩
  unfold someM
  rw [← some_eq v c hf, ← h2]
  simp [someB]
theorem some_none {v c W P : Nat} {m : List Sg} (hf : Fit W P 0 m) (h : freeP c m = []) : someM v c m = m := by unfold someM; rw [h]; exact sets_nil _ _
/-- Where a new span is laid in. -/
theorem ins_at {t : Sg} : ∀ {m : List Sg} {i : Nat}, i ≤ m.length → (∀ s ∈ m.take i, s.pg < t.pg) → (∀ s ∈ m.drop i, ¬ s.pg < t.pg) → ins t m = m.take i ++ t :: m.drop i
  | [], i, hi, _, _ => by simp [ins]
  | s :: l, 0, _, _, h2 => by
    have := h2 s (by simp)
    rw [ins, if_neg this]; simp
  | s :: l, i + 1, hi, h1, h2 => by
    have := h1 s (by simp)
    rw [ins, if_pos this, ins_at (by simpa using hi) (fun u hu => h1 u (by simp [hu])) (fun u hu => h2 u (by simpa using hu))]
    simp
theorem find_ins {W P : Nat} {t : Sg} {m : List Sg} {i : Nat} (hf : Fit W P 0 m) (ht : t.Ok W) (hl : layP P t.k 0 m = some t.pg) (h : FindM m (256 * (t.pg : Int)) i) : ins t m = m.take i ++ t :: m.drop i := by
  refine ins_at h.1 (fun s hs => ?_) (fun s hs hlt => ?_)
  · have h1 := h.2.1 s hs
    have h2 := (hf.ok s (List.mem_of_mem_take hs)).1.facts
    omega
  · have h1 := h.2.2 s hs
    have hm := List.mem_of_mem_drop hs
    have h2 := ht.facts
    rcases lay_apart ht hf hl s hm with e | e <;> omega
theorem find_insU {W P : Nat} {t u : Sg} {m : List Sg} {i : Nat} (hf : Fit W P 0 m) (ht : t.Ok W) (hl : layP P t.k 0 m = some t.pg) (h : FindM m (256 * (t.pg : Int)) i) (hu : u.pg = t.pg) : ins u m = m.take i ++ u :: m.drop i := by
  refine ins_at h.1 (fun s hs => ?_) (fun s hs hlt => ?_)
  · have h1 := h.2.1 s hs
    have h2 := (hf.ok s (List.mem_of_mem_take hs)).1.facts
    omega
  · have h1 := h.2.2 s hs
    have hm := List.mem_of_mem_drop hs
    have h2 := ht.facts
    rcases lay_apart ht hf hl s hm with e | e <;> omega
theorem plS_all (s : Sg) : ∀ (st : List Nat) (i : Nat), plS s zQ i st = [] → ∀ x ∈ st, x ≠ 0
  | [], _, _, x, h => by cases h
  | y :: l, i, h, x, hx => by
    rw [plS, List.append_eq_nil_iff] at h
    rcases List.mem_cons.1 hx with rfl | hx
    · intro e
      subst e
      simp [zQ] at h
    · exact plS_all s l (i + 1) h.2 x hx
theorem someB_append {v c : Nat} {X : List Sg} : ∀ {A : List Sg} {b : Nat}, freeP c A = [] → someB v c b (A ++ X) = A ++ someB v c b X
  | [], _, _ => rfl
  | s :: A, b, h => by
    rw [freeP_cons, List.append_eq_nil_iff] at h
    rw [List.cons_append, someB]
    by_cases e : s.cl = c
    · rw [if_pos e] at h ⊢
      have hz := plS_all s s.st 0 h.1
      obtain ⟨_, z2⟩ := no_zero s v s.st 0 hz
      have z3 : someLeft b s.st = b := by
        rw [someLeft_eq]
        have : s.st.countP zQ = 0 := by rw [List.countP_eq_zero]; intro x hx; simp [zQ, hz x hx]
        omega
      rw [z2, z3, someB_append h.2]; rfl
    · rw [if_neg e, someB_append h.2]; rfl
theorem freeP_append (c : Nat) (A B : List Sg) : freeP c (A ++ B) = freeP c A ++ freeP c B := pl_append _ _ _
/-- What a worker takes of the one span that has free slots. -/
theorem some_one {v c W P : Nat} {m A B : List Sg} {t : Sg} (hf : Fit W P 0 (A ++ t :: B)) (hA : freeP c A = []) (hB : freeP c B = []) (hc : t.cl = c) : someM v c (A ++ t :: B) = A ++ { t with st := someSt v 4 t.st } :: B ∧ (freeP c (A ++ t :: B)).take 4 = (plS t zQ 0 t.st).take 4 := by
  constructor
  · unfold someM
    rw [← some_eq v c hf, someB_append hA, someB, if_pos hc]
    congr 2
    have := someB_append (v := v) (c := c) (X := []) (A := B) (b := someLeft 4 t.st) hB
    simpa [someB] using this
  · rw [freeP_append, hA, List.nil_append, freeP_cons, if_pos hc, hB, List.append_nil]
/-- Which slots a worker is to keep, and what lies there then. -/
def someRes (P v c : Nat) (m : List Sg) : List Nat × List Sg :=
  if freeP c m ≠ [] then ((freeP c m).take 4, someM v c m) else match layP P 1 0 m with
    | none => ([], m)
    | some p => ((freeP c (ins (fresh p c 0 0) m)).take 4, someM v c (ins (fresh p c 0 0) m))
end Go.Proofs.YtgmljgogmbaioaaGreatDoor
