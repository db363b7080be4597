/- Plain mathematics of layer 20: roots, when they are right, their bytes, and what bytes are read as. -/
import Derived.Test.YtgpkiajakokjmaaPgP
import Derived.Test.YtgpkiajakokjmaaPgE
namespace Go.Proofs.Ytgpkiajakokjmaa
set_option linter.unusedVariables false
set_option maxRecDepth 4000

/-- A base that may be. -/
def goodR (x : Int) : Prop := 256 ≤ x ∧ x ≤ 1099511627776 ∧ x % 256 = 0
instance (x : Int) : Decidable (goodR x) := by unfold goodR; infer_instance
/-- An entry. -/
structure Ent where
  t : Int
  i : Int
  f : Int
  n : Int
/-- A root. -/
structure Rt where
  b : Int
  p : Int
  w : Int
  h : Int
  r : Int
  k : Int
  es : List Ent
def rtz : Rt := ⟨0, 0, 0, 0, 0, 0, []⟩
def numE (t : Int) (n : Nat) : List Ent := (List.range n).map fun i => ⟨t, (i : Nat), 0, 0⟩
/-- The entries of kinds and rows. -/
def aheadE (k r : Int) : List Ent := numE 1 (cntP k 16).toNat ++ numE 2 (cntP r 32).toNat
def spanE (ps : List Int) : List Ent := ps.map fun p => ⟨3, p, 0, 0⟩
def listE (k r : Int) (ps : List Int) : List Ent := aheadE k r ++ spanE ps
theorem numE_t {t : Int} {n : Nat} : ∀ a ∈ numE t n, a.t = t := by
  intro a ha
  obtain ⟨i, _, rfl⟩ := List.mem_map.1 ha
  rfl
theorem ahead_t {k r : Int} : ∀ a ∈ aheadE k r, a.t ≠ 3 := by
  intro a ha
  rcases List.mem_append.1 ha with h | h
  · rw [numE_t a h]; decide
  · rw [numE_t a h]; decide
theorem numE_len (t : Int) (n : Nat) : (numE t n).length = n := by simp [numE]
theorem spanE_len (ps : List Int) : (spanE ps).length = ps.length := by simp [spanE]
theorem numE_more (t : Int) (n : Nat) : numE t (n + 1) = numE t n ++ [⟨t, (n : Nat), 0, 0⟩] := by simp [numE, List.range_succ]
theorem cnt_max {n per m : Int} (h : n ≤ m) (h1 : 1 ≤ m) (hp : 1 ≤ per) : cntP n per ≤ (m - 1) / per + 1 := by
  unfold cntP
  split
  · have := Int.ediv_nonneg (show 0 ≤ m - 1 by omega) (show 0 ≤ per by omega); omega
  · have := Int.ediv_le_ediv (show 0 < per by omega) (show n - 1 ≤ m - 1 by omega); omega
theorem ahead_le {k r : Int} (hk : k ≤ 10000) (hr : r ≤ 10000) : (aheadE k r).length ≤ 1000 := by
  unfold aheadE
  rw [List.length_append, numE_len, numE_len]
  have h1 := cnt_max (n := k) (per := 16) (m := 10000) hk (by omega) (by omega)
  have h2 := cnt_max (n := r) (per := 32) (m := 10000) hr (by omega) (by omega)
  have e1 : ((10000 : Int) - 1) / 16 + 1 = 625 := by decide
  have e2 : ((10000 : Int) - 1) / 32 + 1 = 313 := by decide
  omega

/-! ### which roots are right -/
def numOk (x : Rt) : Bool := decide (goodR x.b ∧ 1 ≤ x.p ∧ x.p ≤ 4096 ∧ 1 ≤ x.w ∧ x.w ≤ 8 ∧ 1 ≤ x.h ∧ x.h ≤ 4096 ∧ 0 ≤ x.r ∧ x.r ≤ x.h ∧ 0 ≤ x.k ∧ x.k ≤ 64)
def lastS (s : Int) : Int := (if s < 0 then 0 else s) - 2
def plOk (s : Int) (e : Ent) : Bool := decide (1 ≤ e.f ∧ e.f ≤ lastS s ∧ 8 ≤ e.n ∧ e.n ≤ 65542)
def okE (pg : Int) : Int → List Ent → List Ent → Bool
  | _, [], [] => true
  | nx, [], e :: es => decide (e.t = 3 ∧ nx ≤ e.i ∧ e.i < pg) && okE pg (e.i + 1) [] es
  | _, _ :: _, [] => false
  | nx, a :: A, e :: es => decide (e.t = a.t ∧ e.i = a.i) && okE pg nx A es
def rightR (x : Rt) (s : Int) : Bool := numOk x && (okE x.p 0 (aheadE x.k x.r) x.es && x.es.all (plOk s))
/-- The pages of the spans among entries. -/
def pagesE : List Ent → List Int
  | [] => []
  | e :: es => if e.t = 3 then e.i :: pagesE es else pagesE es
def risesB (pg : Int) : Int → List Int → Bool
  | _, [] => true
  | nx, p :: ps => decide (nx ≤ p ∧ p ≤ pg - 1) && risesB pg (p + 1) ps
def matchE : List Ent → List Ent → Bool
  | [], [] => true
  | a :: A, e :: es => decide (a.t = e.t ∧ a.i = e.i) && matchE A es
  | [], _ :: _ => false
  | _ :: _, [] => false
theorem listed_of {pg : Int} : ∀ (A es : List Ent) (nx : Int), (∀ a ∈ A, a.t ≠ 3) → (risesB pg nx (pagesE es) && matchE es (A ++ spanE (pagesE es))) = okE pg nx A es
  | [], [], nx, _ => rfl
  | [], e :: es, nx, h => by
    have ih := fun nx => listed_of (pg := pg) [] es nx (fun a ha => by cases ha)
    rw [okE]
    by_cases he : e.t = 3
    · rw [show pagesE (e :: es) = e.i :: pagesE es from if_pos he, ← ih]
      simp only [List.nil_append, spanE, List.map_cons, matchE, risesB, he]
      have d : decide (e.i ≤ pg - 1) = decide (e.i < pg) := by
        by_cases q : e.i < pg
        · rw [decide_eq_true q, decide_eq_true (by omega)]
        · rw [decide_eq_false q, decide_eq_false (by omega)]
      simp [d, Bool.and_assoc]
    · rw [show pagesE (e :: es) = pagesE es from if_neg he, decide_eq_false (by simp [he]), Bool.false_and, List.nil_append]
      cases hp : pagesE es with
      | nil => simp [spanE, matchE]
      | cons p ps => simp [spanE, matchE, he]
  | a :: A, [], nx, h => by simp [pagesE, matchE, okE]
  | a :: A, e :: es, nx, h => by
    have ih := listed_of (pg := pg) A es nx (fun a ha => h a (List.mem_cons_of_mem _ ha))
    have h3 := h a (List.mem_cons_self ..)
    rw [okE]
    by_cases he : e.t = 3
    · have q : decide (e.t = a.t ∧ e.i = a.i) = false := decide_eq_false (fun q => h3 (by rw [← q.1]; exact he))
      rw [q, Bool.false_and]
      simp only [List.cons_append, matchE]
      rw [q, Bool.false_and, Bool.and_false]
    · rw [show pagesE (e :: es) = pagesE es from if_neg he, ← ih]
      simp only [List.cons_append, matchE]
      rw [← Bool.and_assoc, Bool.and_comm (risesB _ _ _), Bool.and_assoc]
theorem pages_of {pg : Int} : ∀ (A es : List Ent) (nx : Int), (∀ a ∈ A, a.t ≠ 3) → okE pg nx A es = true → (pagesE es).length + A.length = es.length
  | [], [], nx, _, _ => rfl
  | [], e :: es, nx, h, q => by
    rw [okE, Bool.and_eq_true, decide_eq_true_eq] at q
    have := pages_of [] es _ (fun a ha => by cases ha) q.2
    rw [show pagesE (e :: es) = e.i :: pagesE es from if_pos q.1.1]
    simp at this ⊢
    omega
  | a :: A, [], nx, h, q => by cases q
  | a :: A, e :: es, nx, h, q => by
    rw [okE, Bool.and_eq_true, decide_eq_true_eq] at q
    have := pages_of A es _ (fun a ha => h a (List.mem_cons_of_mem _ ha)) q.2
    rw [show pagesE (e :: es) = pagesE es from if_neg (by rw [q.1.1]; exact h a (List.mem_cons_self ..))]
    simp at this ⊢
    omega
theorem rises_len {pg : Int} : ∀ (l : List Int) (nx : Int), risesB pg nx l = true → nx ≤ pg → (l.length : Int) + nx ≤ pg
  | [], nx, _, hp => by simpa using hp
  | p :: l, nx, h, hp => by
    rw [risesB, Bool.and_eq_true, decide_eq_true_eq] at h
    have := rises_len l (p + 1) h.2 (by omega)
    simp
    omega
/-! ### the numbers of a body -/
def numsE : Int → List Ent → List Int
  | _, [] => []
  | nx, e :: es => if e.t = 3 then (e.i - nx) :: e.f :: e.n :: numsE (e.i + 1) es else e.f :: e.n :: numsE nx es
def headN (x : Rt) : List Int := [x.b / 256, x.p, x.w, x.h, x.r, x.k, ((pagesE x.es).length : Nat)]
def varsL (l : List Int) : List Int := l.flatMap varL
def bodyR (x : Rt) : List Int := varsL (headN x ++ numsE 0 x.es)
theorem vars_cons (n : Int) (l : List Int) : varsL (n :: l) = varL n ++ varsL l := by simp [varsL]
theorem vars_append (a b : List Int) : varsL (a ++ b) = varsL a ++ varsL b := by simp [varsL]
theorem vars_len : ∀ l : List Int, (varsL l).length ≤ 10 * l.length
  | [] => by simp [varsL]
  | n :: l => by
    rw [vars_cons, List.length_append, List.length_cons]
    have := vars_len l
    have := varL_le n
    omega
theorem vars_byte : ∀ l : List Int, (∀ n ∈ l, 0 ≤ n ∧ n ≤ 18446744073709551615) → AllB (varsL l)
  | [], _ => AllB.nil
  | n :: l, h => by
    rw [vars_cons]
    exact AllB.append (varL_byte n (h n (List.mem_cons_self ..)).1 (h n (List.mem_cons_self ..)).2) (vars_byte l (fun m hm => h m (List.mem_cons_of_mem _ hm)))
theorem numsE_len : ∀ (es : List Ent) (nx : Int), (numsE nx es).length ≤ 3 * es.length
  | [], nx => by simp [numsE]
  | e :: es, nx => by
    rw [numsE]
    split
    · have := numsE_len es (e.i + 1); simp; omega
    · have := numsE_len es nx; simp; omega

/-! ### reading -/
def mxz (hi : Int) : Int := if hi < 0 then 0 else hi
def numR (lo hi : Int) (l : List Int) (e : Int) : Int × List Int × Int :=
  ((upS l e (mxz hi)).1, (upS l e (mxz hi)).2.1, if lo ≤ (upS l e (mxz hi)).1 ∧ (upS l e (mxz hi)).1 ≤ hi then (upS l e (mxz hi)).2.2 else failV (upS l e (mxz hi)).2.2 4)
def placeR (s : Int) (l : List Int) (e : Int) : (Int × Int) × List Int × Int :=
  (((numR 1 (lastS s) l e).1, (numR 8 65542 (numR 1 (lastS s) l e).2.1 (numR 1 (lastS s) l e).2.2).1), (numR 8 65542 (numR 1 (lastS s) l e).2.1 (numR 1 (lastS s) l e).2.2).2)
def goE (pg s : Int) : List Ent → Int → List Int → Int → List Ent → List Ent × List Int × Int
  | [], _, l, e, acc => (acc, l, e)
  | a :: T, nx, l, e, acc =>
    if a.t = 3 then
      goE pg s T (nx + (numR 0 (pg - 1 - nx) l e).1 + 1) (placeR s (numR 0 (pg - 1 - nx) l e).2.1 (numR 0 (pg - 1 - nx) l e).2.2).2.1 (placeR s (numR 0 (pg - 1 - nx) l e).2.1 (numR 0 (pg - 1 - nx) l e).2.2).2.2
        (acc ++ [⟨3, nx + (numR 0 (pg - 1 - nx) l e).1, (placeR s (numR 0 (pg - 1 - nx) l e).2.1 (numR 0 (pg - 1 - nx) l e).2.2).1.1, (placeR s (numR 0 (pg - 1 - nx) l e).2.1 (numR 0 (pg - 1 - nx) l e).2.2).1.2⟩])
    else goE pg s T nx (placeR s l e).2.1 (placeR s l e).2.2 (acc ++ [⟨a.t, a.i, (placeR s l e).1.1, (placeR s l e).1.2⟩])
/-- The seven numbers at a root's head, what is left behind them, the fault. -/
structure Hd where
  b : Int
  p : Int
  w : Int
  h : Int
  r : Int
  k : Int
  n : Int
  l : List Int
  e : Int
structure HdR (bs : List Int) (x : Hd) : Prop where
  ex : ∃ l1 e1 l2 e2 l3 e3 l4 e4 l5 e5 l6 e6, numR 1 4294967296 bs 0 = (x.b, l1, e1) ∧ numR 1 4096 l1 e1 = (x.p, l2, e2) ∧ numR 1 8 l2 e2 = (x.w, l3, e3) ∧ numR 1 4096 l3 e3 = (x.h, l4, e4) ∧
    numR 0 x.h l4 e4 = (x.r, l5, e5) ∧ numR 0 64 l5 e5 = (x.k, l6, e6) ∧ numR 0 x.p l6 e6 = (x.n, x.l, x.e)
def hdR (bs : List Int) : Hd :=
  match numR 1 4294967296 bs 0 with
  | (b, l1, e1) => match numR 1 4096 l1 e1 with
    | (p, l2, e2) => match numR 1 8 l2 e2 with
      | (w, l3, e3) => match numR 1 4096 l3 e3 with
        | (h, l4, e4) => match numR 0 h l4 e4 with
          | (r, l5, e5) => match numR 0 64 l5 e5 with
            | (k, l6, e6) => match numR 0 p l6 e6 with
              | (n, l7, e7) => ⟨b, p, w, h, r, k, n, l7, e7⟩
theorem hd_of {bs l1 l2 l3 l4 l5 l6 l7 : List Int} {b p w h r k n e1 e2 e3 e4 e5 e6 e7 : Int} (q1 : numR 1 4294967296 bs 0 = (b, l1, e1)) (q2 : numR 1 4096 l1 e1 = (p, l2, e2)) (q3 : numR 1 8 l2 e2 = (w, l3, e3)) (q4 : numR 1 4096 l3 e3 = (h, l4, e4))
    (q5 : numR 0 h l4 e4 = (r, l5, e5)) (q6 : numR 0 64 l5 e5 = (k, l6, e6)) (q7 : numR 0 p l6 e6 = (n, l7, e7)) : hdR bs = ⟨b, p, w, h, r, k, n, l7, e7⟩ := by
  unfold hdR
  rw [q1]; simp only
  rw [q2]; simp only
  rw [q3]; simp only
  rw [q4]; simp only
  rw [q5]; simp only
  rw [q6]; simp only
  rw [q7]
theorem hdR_ok (bs : List Int) : HdR bs (hdR bs) := by
  obtain ⟨b, l1, e1, q1⟩ : ∃ a b c, numR 1 4294967296 bs 0 = (a, b, c) := ⟨_, _, _, rfl⟩
  obtain ⟨p, l2, e2, q2⟩ : ∃ a b c, numR 1 4096 l1 e1 = (a, b, c) := ⟨_, _, _, rfl⟩
  obtain ⟨w, l3, e3, q3⟩ : ∃ a b c, numR 1 8 l2 e2 = (a, b, c) := ⟨_, _, _, rfl⟩
  obtain ⟨h, l4, e4, q4⟩ : ∃ a b c, numR 1 4096 l3 e3 = (a, b, c) := ⟨_, _, _, rfl⟩
  obtain ⟨r, l5, e5, q5⟩ : ∃ a b c, numR 0 h l4 e4 = (a, b, c) := ⟨_, _, _, rfl⟩
  obtain ⟨k, l6, e6, q6⟩ : ∃ a b c, numR 0 64 l5 e5 = (a, b, c) := ⟨_, _, _, rfl⟩
  obtain ⟨n, l7, e7, q7⟩ : ∃ a b c, numR 0 p l6 e6 = (a, b, c) := ⟨_, _, _, rfl⟩
  rw [hd_of q1 q2 q3 q4 q5 q6 q7]
  exact ⟨l1, e1, l2, e2, l3, e3, l4, e4, l5, e5, l6, e6, q1, q2, q3, q4, q5, q6, q7⟩
/-- What is still to be read behind the head. -/
def todoE (x : Hd) : List Ent := listE x.k x.r (List.replicate x.n.toNat 0)
/-- What bytes are read as. -/
def readR (bs : List Int) (s : Int) : Rt × Int :=
  if endV (goE (hdR bs).p s (todoE (hdR bs)) 0 (hdR bs).l (hdR bs).e []).2.1 (goE (hdR bs).p s (todoE (hdR bs)) 0 (hdR bs).l (hdR bs).e []).2.2 = 0 then
    (⟨256 * (hdR bs).b, (hdR bs).p, (hdR bs).w, (hdR bs).h, (hdR bs).r, (hdR bs).k, (goE (hdR bs).p s (todoE (hdR bs)) 0 (hdR bs).l (hdR bs).e []).1⟩, 0)
  else (rtz, endV (goE (hdR bs).p s (todoE (hdR bs)) 0 (hdR bs).l (hdR bs).e []).2.1 (goE (hdR bs).p s (todoE (hdR bs)) 0 (hdR bs).l (hdR bs).e []).2.2)
theorem read_of {bs : List Int} {s : Int} {x : Hd} {es : List Ent} {l : List Int} {e E : Int} (hx : hdR bs = x) (hg : goE x.p s (todoE x) 0 x.l x.e [] = (es, l, e)) (hE : endV l e = E) :
    readR bs s = if E = 0 then (⟨256 * x.b, x.p, x.w, x.h, x.r, x.k, es⟩, 0) else (rtz, E) := by
  unfold readR
  rw [hx, hg]
  simp only [hE]

/-! ### what a number's reader promises -/
theorem num_stay {lo hi : Int} {l : List Int} {e : Int} (h : e ≠ 0) : numR lo hi l e = (0, l, e) := by
  have q : upS l e (mxz hi) = (0, l, e) := by rw [upS, if_neg h]
  unfold numR
  rw [q]
  simp only
  split
  · rfl
  · rw [failV, if_neg h]
theorem num_good {lo hi n : Int} {l r : List Int} {e : Int} (hb : AllB l) (h : numR lo hi l e = (n, r, 0)) : e = 0 ∧ lo ≤ n ∧ 0 ≤ n ∧ n ≤ hi ∧ l = varL n ++ r := by
  by_cases he : e = 0
  · subst he
    unfold numR at h
    rcases up_cases l (mxz hi) hb with ⟨v, q, hu, v0, v1, hl⟩ | ⟨f, hu, hf⟩
    · rw [hu] at h
      simp only [Prod.mk.injEq] at h
      obtain ⟨rfl, rfl, h3⟩ := h
      split at h3
      · rename_i hc
        exact ⟨rfl, hc.1, v0, hc.2, hl⟩
      · simp [failV] at h3
    · rw [hu] at h
      simp only [Prod.mk.injEq] at h
      obtain ⟨rfl, rfl, h3⟩ := h
      split at h3
      · omega
      · rw [failV] at h3; split at h3 <;> omega
  · rw [num_stay he] at h
    simp only [Prod.mk.injEq] at h
    exact absurd h.2.2 he
theorem num_back {lo hi n : Int} (r : List Int) (h0 : 0 ≤ n) (h1 : lo ≤ n) (h2 : n ≤ hi) (h3 : hi ≤ 18446744073709551615) : numR lo hi (varL n ++ r) 0 = (n, r, 0) := by
  have e : mxz hi = hi := if_neg (by omega)
  unfold numR
  rw [e, up_back n hi r h0 h2 h3]
  simp only [if_pos (⟨h1, h2⟩ : lo ≤ n ∧ n ≤ hi)]
theorem num_err {lo hi : Int} {l : List Int} {e : Int} (hb : AllB l) (he : e = 0 ∨ e = 3 ∨ e = 4) : (numR lo hi l e).2.2 = 0 ∨ (numR lo hi l e).2.2 = 3 ∨ (numR lo hi l e).2.2 = 4 := by
  by_cases h : e = 0
  · subst h
    unfold numR
    rcases up_cases l (mxz hi) hb with ⟨v, q, hu, v0, v1, hl⟩ | ⟨f, hu, hf⟩
    · rw [hu]
      simp only
      split
      · exact .inl rfl
      · exact .inr (.inr rfl)
    · rw [hu]
      simp only
      have : failV f 4 = f := if_neg (by omega)
      rw [this]
      split <;> omega
  · rw [num_stay h]; exact he
theorem num_byte {lo hi : Int} {l : List Int} {e : Int} (hb : AllB l) : AllB (numR lo hi l e).2.1 ∧ (numR lo hi l e).2.1.length ≤ l.length := by
  by_cases h : e = 0
  · subst h
    unfold numR
    rcases up_cases l (mxz hi) hb with ⟨v, q, hu, v0, v1, hl⟩ | ⟨f, hu, hf⟩
    · rw [hu]
      simp only
      rw [hl] at hb ⊢
      exact ⟨hb.right, by simp⟩
    · rw [hu]
      exact ⟨hb, Nat.le_refl _⟩
  · rw [num_stay h]; exact ⟨hb, Nat.le_refl _⟩
/-- A number that is read lies within 0 and the greatest. -/
theorem num_in {lo hi : Int} {l : List Int} {e : Int} (hb : AllB l) : 0 ≤ (numR lo hi l e).1 ∧ (numR lo hi l e).1 ≤ mxz hi := by
  have hm : 0 ≤ mxz hi := by unfold mxz; split <;> omega
  by_cases h : e = 0
  · subst h
    unfold numR
    rcases up_cases l (mxz hi) hb with ⟨v, q, hu, v0, v1, hl⟩ | ⟨f, hu, hf⟩
    · rw [hu]; exact ⟨v0, v1⟩
    · rw [hu]; exact ⟨Int.le_refl _, hm⟩
  · rw [num_stay h]; exact ⟨Int.le_refl _, hm⟩
theorem place_stay {s : Int} {l : List Int} {e : Int} (h : e ≠ 0) : placeR s l e = ((0, 0), l, e) := by
  unfold placeR
  rw [num_stay h]
  simp only
  rw [num_stay h]
theorem place_good {s f n : Int} {l r : List Int} {e : Int} (hb : AllB l) (h : placeR s l e = ((f, n), r, 0)) : e = 0 ∧ (1 ≤ f ∧ f ≤ lastS s ∧ 8 ≤ n ∧ n ≤ 65542) ∧ l = varL f ++ (varL n ++ r) := by
  unfold placeR at h
  obtain ⟨f1, r1, e1, h1⟩ : ∃ a b c, numR 1 (lastS s) l e = (a, b, c) := ⟨_, _, _, rfl⟩
  rw [h1] at h
  simp only at h
  obtain ⟨n1, r2, e2, h2⟩ : ∃ a b c, numR 8 65542 r1 e1 = (a, b, c) := ⟨_, _, _, rfl⟩
  rw [h2] at h
  simp only [Prod.mk.injEq] at h
  obtain ⟨⟨rfl, rfl⟩, rfl, rfl⟩ := h
  have hb1 : AllB r1 := by have := (num_byte (lo := 1) (hi := lastS s) (e := e) hb).1; rw [h1] at this; exact this
  obtain ⟨rfl, q1, q2, q3, q4⟩ := num_good hb1 h2
  obtain ⟨rfl, p1, p2, p3, p4⟩ := num_good hb h1
  exact ⟨rfl, ⟨p1, p3, q1, q3⟩, by rw [p4, q4]⟩
theorem place_back {s f n : Int} (r : List Int) (h : 1 ≤ f ∧ f ≤ lastS s ∧ 8 ≤ n ∧ n ≤ 65542) (hs : s ≤ 9223372036854775807) : placeR s (varL f ++ (varL n ++ r)) 0 = ((f, n), r, 0) := by
  unfold placeR
  rw [num_back (lo := 1) (hi := lastS s) (varL n ++ r) (by omega) h.1 h.2.1 (by unfold lastS; split <;> omega)]
  simp only
  rw [num_back (lo := 8) (hi := 65542) r (by omega) h.2.2.1 h.2.2.2 (by omega)]
theorem place_err {s : Int} {l : List Int} {e : Int} (hb : AllB l) (he : e = 0 ∨ e = 3 ∨ e = 4) : (placeR s l e).2.2 = 0 ∨ (placeR s l e).2.2 = 3 ∨ (placeR s l e).2.2 = 4 :=
  num_err (num_byte hb).1 (num_err hb he)
theorem place_byte {s : Int} {l : List Int} {e : Int} (hb : AllB l) : AllB (placeR s l e).2.1 ∧ (placeR s l e).2.1.length ≤ l.length :=
  ⟨(num_byte (num_byte hb).1).1, Nat.le_trans (num_byte (num_byte hb).1).2 (num_byte hb).2⟩

theorem go_span {pg s nx d f n e e1 e2 : Int} {l l1 l2 : List Int} {a : Ent} {T acc : List Ent} (h3 : a.t = 3) (h1 : numR 0 (pg - 1 - nx) l e = (d, l1, e1)) (h2 : placeR s l1 e1 = ((f, n), l2, e2)) :
    goE pg s (a :: T) nx l e acc = goE pg s T (nx + d + 1) l2 e2 (acc ++ [⟨3, nx + d, f, n⟩]) := by
  rw [goE, if_pos h3, h1]
  simp only
  rw [h2]
theorem go_else {pg s nx f n e e2 : Int} {l l2 : List Int} {a : Ent} {T acc : List Ent} (h3 : a.t ≠ 3) (h2 : placeR s l e = ((f, n), l2, e2)) :
    goE pg s (a :: T) nx l e acc = goE pg s T nx l2 e2 (acc ++ [⟨a.t, a.i, f, n⟩]) := by
  rw [goE, if_neg h3, h2]
theorem go_stay {pg s : Int} : ∀ (T : List Ent) (nx : Int) (l : List Int) (e : Int) (acc : List Ent), e ≠ 0 → (goE pg s T nx l e acc).2 = (l, e)
  | [], _, _, _, _, _ => rfl
  | a :: T, nx, l, e, acc, h => by
    by_cases h3 : a.t = 3
    · rw [go_span h3 (num_stay h) (place_stay h)]
      exact go_stay T _ l e _ h
    · rw [go_else h3 (place_stay h)]
      exact go_stay T _ l e _ h
theorem go_len {pg s : Int} : ∀ (T : List Ent) (nx : Int) (l : List Int) (e : Int) (acc : List Ent), (goE pg s T nx l e acc).1.length = acc.length + T.length
  | [], _, _, _, _ => rfl
  | a :: T, nx, l, e, acc => by
    rw [goE]
    split
    · rw [go_len T]; simp; omega
    · rw [go_len T]; simp; omega
/-- What spans are read as. -/
theorem go_spans {pg s : Int} : ∀ (m : Nat) (nx : Int) (l r : List Int) (e : Int) (acc es : List Ent), AllB l → 0 ≤ nx → goE pg s (spanE (List.replicate m 0)) nx l e acc = (es, r, 0) →
    e = 0 ∧ ∃ ts, es = acc ++ ts ∧ ts.length = m ∧ okE pg nx [] ts = true ∧ ts.all (plOk s) = true ∧ pagesE ts = ts.map (·.i) ∧ l = varsL (numsE nx ts) ++ r
  | 0, nx, l, r, e, acc, es, hb, h0, h => by
    simp only [List.replicate_zero, spanE, List.map_nil, goE, Prod.mk.injEq] at h
    obtain ⟨rfl, rfl, rfl⟩ := h
    exact ⟨rfl, [], by simp, rfl, rfl, rfl, rfl, by simp [numsE, varsL]⟩
  | m + 1, nx, l, r, e, acc, es, hb, h0, h => by
    rw [show spanE (List.replicate (m + 1) 0) = (⟨3, 0, 0, 0⟩ : Ent) :: spanE (List.replicate m 0) from rfl] at h
    obtain ⟨d, l1, e1, h1⟩ : ∃ a b c, numR 0 (pg - 1 - nx) l e = (a, b, c) := ⟨_, _, _, rfl⟩
    obtain ⟨f, n, l2, e2, h2⟩ : ∃ a a2 b c, placeR s l1 e1 = ((a, a2), b, c) := ⟨_, _, _, _, rfl⟩
    rw [go_span rfl h1 h2] at h
    have hb1 : AllB l1 := by have := (num_byte (lo := 0) (hi := pg - 1 - nx) (e := e) hb).1; rw [h1] at this; exact this
    have hb2 : AllB l2 := by have := (place_byte (s := s) (e := e1) hb1).1; rw [h2] at this; exact this
    have d0 : 0 ≤ d := by have := (num_in (lo := 0) (hi := pg - 1 - nx) (e := e) hb).1; rw [h1] at this; exact this
    obtain ⟨rfl, ts, q1, q2, q3, q4, q5, q6⟩ := go_spans m (nx + d + 1) l2 r e2 _ es hb2 (by omega) h
    obtain ⟨rfl, p1, p2⟩ := place_good hb1 h2
    obtain ⟨rfl, r1, r2, r3, r4⟩ := num_good hb h1
    refine ⟨rfl, ⟨3, nx + d, f, n⟩ :: ts, by rw [q1]; simp, by simp [q2], ?_, ?_, ?_, ?_⟩
    · rw [okE, decide_eq_true (show (3 : Int) = 3 ∧ nx ≤ nx + d ∧ nx + d < pg by omega), Bool.true_and]
      exact q3
    · rw [List.all_cons, q4, Bool.and_true]
      exact decide_eq_true p1
    · rw [show pagesE (⟨3, nx + d, f, n⟩ :: ts) = (nx + d) :: pagesE ts from if_pos rfl, q5]
      rfl
    · rw [show numsE nx (⟨3, nx + d, f, n⟩ :: ts) = (nx + d - nx) :: f :: n :: numsE (nx + d + 1) ts from if_pos rfl, vars_cons, vars_cons, vars_cons, show nx + d - nx = d by omega, r4, p2, q6]
      simp
theorem go_all {pg s : Int} (m : Nat) : ∀ (A : List Ent) (l r : List Int) (e : Int) (acc es : List Ent), AllB l → (∀ a ∈ A, a.t ≠ 3) → goE pg s (A ++ spanE (List.replicate m 0)) 0 l e acc = (es, r, 0) →
    e = 0 ∧ ∃ ts, es = acc ++ ts ∧ (pagesE ts).length = m ∧ okE pg 0 A ts = true ∧ ts.all (plOk s) = true ∧ l = varsL (numsE 0 ts) ++ r
  | [], l, r, e, acc, es, hb, hA, h => by
    obtain ⟨q0, ts, q1, q2, q3, q4, q5, q6⟩ := go_spans m 0 l r e acc es hb (by omega) h
    exact ⟨q0, ts, q1, by rw [q5]; simpa using q2, q3, q4, q6⟩
  | a :: A, l, r, e, acc, es, hb, hA, h => by
    obtain ⟨f, n, l2, e2, h2⟩ : ∃ a a2 b c, placeR s l e = ((a, a2), b, c) := ⟨_, _, _, _, rfl⟩
    have ha := hA a (List.mem_cons_self ..)
    rw [List.cons_append, go_else ha h2] at h
    have hb2 : AllB l2 := by have := (place_byte (s := s) (e := e) hb).1; rw [h2] at this; exact this
    obtain ⟨rfl, ts, q1, q2, q3, q4, q6⟩ := go_all m A l2 r e2 _ es hb2 (fun a ha => hA a (List.mem_cons_of_mem _ ha)) h
    obtain ⟨rfl, p1, p2⟩ := place_good hb h2
    refine ⟨rfl, ⟨a.t, a.i, f, n⟩ :: ts, by rw [q1]; simp, ?_, ?_, ?_, ?_⟩
    · rw [show pagesE (⟨a.t, a.i, f, n⟩ :: ts) = pagesE ts from if_neg ha]; exact q2
    · rw [okE, decide_eq_true ⟨rfl, rfl⟩, Bool.true_and]; exact q3
    · rw [List.all_cons, q4, Bool.and_true]; exact decide_eq_true p1
    · rw [show numsE 0 (⟨a.t, a.i, f, n⟩ :: ts) = f :: n :: numsE 0 ts from if_neg ha, vars_cons, vars_cons, p2, q6]
      simp
theorem go_back {pg s : Int} (hs : s ≤ 9223372036854775807) (hpg : pg ≤ 4096) : ∀ (A es : List Ent) (nx : Int) (more : List Int) (acc : List Ent), 0 ≤ nx → (∀ a ∈ A, a.t ≠ 3) → okE pg nx A es = true → es.all (plOk s) = true →
    goE pg s (A ++ spanE (List.replicate (pagesE es).length 0)) nx (varsL (numsE nx es) ++ more) 0 acc = (acc ++ es, more, 0)
  | [], [], nx, more, acc, h0, hA, h, hp => by simp [pagesE, spanE, goE, numsE, varsL]
  | [], e :: es, nx, more, acc, h0, hA, h, hp => by
    rw [okE, Bool.and_eq_true, decide_eq_true_eq] at h
    rw [List.all_cons, Bool.and_eq_true] at hp
    obtain ⟨⟨h3, h4, h5⟩, h6⟩ := h
    have pl : 1 ≤ e.f ∧ e.f ≤ lastS s ∧ 8 ≤ e.n ∧ e.n ≤ 65542 := of_decide_eq_true hp.1
    have ih := go_back hs hpg [] es (e.i + 1) more (acc ++ [e]) (by omega) (fun a ha => by cases ha) h6 hp.2
    rw [show pagesE (e :: es) = e.i :: pagesE es from if_pos h3, show numsE nx (e :: es) = (e.i - nx) :: e.f :: e.n :: numsE (e.i + 1) es from if_pos h3]
    rw [List.length_cons, show [] ++ spanE (List.replicate ((pagesE es).length + 1) 0) = (⟨3, 0, 0, 0⟩ : Ent) :: ([] ++ spanE (List.replicate (pagesE es).length 0)) from rfl]
    rw [vars_cons, vars_cons, vars_cons]
    simp only [List.append_assoc]
    rw [go_span rfl (num_back (lo := 0) (hi := pg - 1 - nx) (n := e.i - nx) _ (by omega) (by omega) (by omega) (by omega)) (place_back _ pl hs)]
    rw [show nx + (e.i - nx) = e.i by omega]
    have ee : (⟨3, e.i, e.f, e.n⟩ : Ent) = e := by cases e; simp at h3; rw [h3]
    rw [ee, ih]
    simp
  | a :: A, [], nx, more, acc, h0, hA, h, hp => by cases h
  | a :: A, e :: es, nx, more, acc, h0, hA, h, hp => by
    rw [okE, Bool.and_eq_true, decide_eq_true_eq] at h
    rw [List.all_cons, Bool.and_eq_true] at hp
    obtain ⟨⟨h3, h4⟩, h6⟩ := h
    have ha := hA a (List.mem_cons_self ..)
    have he : e.t ≠ 3 := by rw [h3]; exact ha
    have pl : 1 ≤ e.f ∧ e.f ≤ lastS s ∧ 8 ≤ e.n ∧ e.n ≤ 65542 := of_decide_eq_true hp.1
    have ih := go_back hs hpg A es nx more (acc ++ [e]) h0 (fun a ha => hA a (List.mem_cons_of_mem _ ha)) h6 hp.2
    rw [show pagesE (e :: es) = pagesE es from if_neg he, show numsE nx (e :: es) = e.f :: e.n :: numsE nx es from if_neg he]
    rw [vars_cons, vars_cons, List.cons_append]
    simp only [List.append_assoc]
    rw [go_else ha (place_back _ pl hs), ← h3, ← h4, ih]
    simp
/-- Whatever is read is a right root, and its body is what was read. -/
theorem rread_good {bs : List Int} {s : Int} {x : Rt} (hb : AllB bs) (h : readR bs s = (x, 0)) : rightR x s = true ∧ bodyR x = bs := by
  obtain ⟨y, hy⟩ : ∃ y, hdR bs = y := ⟨_, rfl⟩
  have hd := hdR_ok bs
  rw [hy] at hd
  obtain ⟨es, l, e, hg⟩ : ∃ a b c, goE y.p s (todoE y) 0 y.l y.e [] = (a, b, c) := ⟨_, _, _, rfl⟩
  obtain ⟨E, hE⟩ : ∃ E, endV l e = E := ⟨_, rfl⟩
  rw [read_of hy hg hE] at h
  have E0 : E = 0 := by
    by_cases q : E = 0
    · exact q
    · rw [if_neg q] at h
      simp only [Prod.mk.injEq] at h
      exact absurd h.2 q
  rw [if_pos E0] at h
  simp only [Prod.mk.injEq, and_true] at h
  rw [E0] at hE
  have e0 : e = 0 := by
    by_cases q : e = 0
    · exact q
    · rw [endV, if_neg q] at hE; exact hE
  subst e0
  have l0 : l = [] := by
    rw [endV, if_pos rfl] at hE
    by_cases q : l.length = 0
    · exact List.eq_nil_of_length_eq_zero q
    · rw [if_neg q] at hE; simp at hE
  subst l0
  obtain ⟨l1, e1, l2, e2, l3, e3, l4, e4, l5, e5, l6, e6, q1, q2, q3, q4, q5, q6, q7⟩ := hd.ex
  have b1 : AllB l1 := by have := (num_byte (lo := 1) (hi := 4294967296) (e := 0) hb).1; rw [q1] at this; exact this
  have b2 : AllB l2 := by have := (num_byte (lo := 1) (hi := 4096) (e := e1) b1).1; rw [q2] at this; exact this
  have b3 : AllB l3 := by have := (num_byte (lo := 1) (hi := 8) (e := e2) b2).1; rw [q3] at this; exact this
  have b4 : AllB l4 := by have := (num_byte (lo := 1) (hi := 4096) (e := e3) b3).1; rw [q4] at this; exact this
  have b5 : AllB l5 := by have := (num_byte (lo := 0) (hi := y.h) (e := e4) b4).1; rw [q5] at this; exact this
  have b6 : AllB l6 := by have := (num_byte (lo := 0) (hi := 64) (e := e5) b5).1; rw [q6] at this; exact this
  have b7 : AllB y.l := by have := (num_byte (lo := 0) (hi := y.p) (e := e6) b6).1; rw [q7] at this; exact this
  obtain ⟨ye, ts, t1, t2, t3, t4, t5⟩ := go_all y.n.toNat (aheadE y.k y.r) y.l [] y.e [] es b7 (ahead_t) hg
  rw [ye] at q7
  obtain ⟨rfl, g71, g72, g73, g74⟩ := num_good b6 q7
  obtain ⟨rfl, g61, g62, g63, g64⟩ := num_good b5 q6
  obtain ⟨rfl, g51, g52, g53, g54⟩ := num_good b4 q5
  obtain ⟨rfl, g41, g42, g43, g44⟩ := num_good b3 q4
  obtain ⟨rfl, g31, g32, g33, g34⟩ := num_good b2 q3
  obtain ⟨rfl, g21, g22, g23, g24⟩ := num_good b1 q2
  obtain ⟨_, g11, g12, g13, g14⟩ := num_good hb q1
  rw [List.nil_append] at t1
  subst t1
  subst h
  constructor
  · unfold rightR
    rw [t3, t4, Bool.and_true, Bool.and_true]
    exact decide_eq_true ⟨⟨by show 256 ≤ 256 * y.b; omega, by show 256 * y.b ≤ _; omega, by show 256 * y.b % 256 = 0; omega⟩, g21, g23, g31, g33, g41, g43, g51, g53, g61, g63⟩
  · unfold bodyR headN
    rw [vars_append]
    simp only [vars_cons]
    rw [show 256 * y.b / 256 = y.b by omega, t2, show ((y.n.toNat : Nat) : Int) = y.n by omega]
    rw [g14, g24, g34, g44, g54, g64, g74, t5]
    simp [varsL]
/-- What is written is read as it was. -/
theorem rread_back {x : Rt} {s : Int} (h : rightR x s = true) (hs : s ≤ 9223372036854775807) : readR (bodyR x) s = (x, 0) := by
  unfold rightR at h
  simp only [Bool.and_eq_true] at h
  obtain ⟨h1, h2, h3⟩ := h
  obtain ⟨⟨n1, n2, n3⟩, n4, n5, n6, n7, n8, n9, n10, n11, n12, n13⟩ := of_decide_eq_true h1
  have hr : (pagesE x.es).length + 0 ≤ x.p := by
    have q := listed_of (pg := x.p) (aheadE x.k x.r) x.es 0 ahead_t
    rw [h2, Bool.and_eq_true] at q
    have := rises_len _ 0 q.1 (by omega)
    omega
  have hy : hdR (bodyR x) = ⟨x.b / 256, x.p, x.w, x.h, x.r, x.k, ((pagesE x.es).length : Nat), varsL (numsE 0 x.es), 0⟩ := by
    unfold bodyR headN
    simp only [List.cons_append, List.nil_append, vars_cons]
    exact hd_of (num_back (lo := 1) (hi := 4294967296) (n := x.b / 256) _ (by omega) (by omega) (by omega) (by omega)) (num_back (lo := 1) (hi := 4096) (n := x.p) _ (by omega) (by omega) (by omega) (by omega))
      (num_back (lo := 1) (hi := 8) (n := x.w) _ (by omega) (by omega) (by omega) (by omega)) (num_back (lo := 1) (hi := 4096) (n := x.h) _ (by omega) (by omega) (by omega) (by omega))
      (num_back (lo := 0) (hi := x.h) (n := x.r) _ (by omega) (by omega) (by omega) (by omega)) (num_back (lo := 0) (hi := 64) (n := x.k) _ (by omega) (by omega) (by omega) (by omega))
      (num_back (lo := 0) (hi := x.p) (n := ((pagesE x.es).length : Nat)) _ (by omega) (by omega) (by omega) (by omega))
  have hg := go_back hs n5 (aheadE x.k x.r) x.es 0 [] [] (by omega) ahead_t h2 h3
  rw [List.append_nil, List.nil_append] at hg
  rw [read_of (l := []) (e := 0) (E := 0) hy (by show goE x.p s (listE x.k x.r (List.replicate (((pagesE x.es).length : Nat) : Int).toNat 0)) 0 (varsL (numsE 0 x.es)) 0 [] = _; rw [Int.toNat_natCast]; exact hg) rfl, if_pos rfl]
  simp only
  rw [show 256 * (x.b / 256) = x.b by omega]
end Go.Proofs.Ytgpkiajakokjmaa
