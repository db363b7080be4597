/- Plain mathematics of layer 17: images, their bytes, and what bytes are read as an image. -/
import Derived.Test.YtbfamjnnlcopiaaDoorJrRoP
import Derived.Test.YtbfamjnnlcopiaaDoorGtE
import Derived.Test.YtbfamjnnlcopiaaDoorGtD
namespace Go.Proofs.YtbfamjnnlcopiaaDoor
set_option linter.unusedVariables false
set_option maxRecDepth 4000

/-- An image: the span's numbers and live slots, the base, the places, the bytes. -/
structure Im where
  p : Int
  c : Int
  s : Int
  live : List Int
  base : Int
  offs : List Int
  bytes : List Int
def noIm : Im := ⟨0, 0, 0, [], 0, [], []⟩
/-- A span that may be, with these live slots. -/
def spOk (p c s : Int) (live : List Int) : Bool := decide (newE p c s = 0) && okL (slN c) (-1) live
/-- How many bytes an image of a span has. -/
def sizeG (p c s : Int) (live : List Int) : Int := if spOk p c s live = true then (live.length : Int) * szI c s else 0
/-- An image that is right. -/
def rightG (m : Im) : Bool := spOk m.p m.c m.s m.live && (decide ((m.bytes.length : Int) = sizeG m.p m.c m.s m.live) && (rrightT m.bytes.length m.offs && decide (goodR m.base ∨ (m.base = 0 ∧ m.offs = []))))
/-- The bytes of the set of the live slots. -/
def bitsG (c : Int) (live : List Int) : List Int := bysL (fOf live) ((slN c + 7) / 8)
/-- The bytes of an image. -/
def bodyG (m : Im) : List Int := varL m.p ++ (varL m.c ++ (varL m.s ++ (bitsG m.c m.live ++ (varL (m.base / 256) ++ (bytesT m.offs ++ m.bytes)))))

theorem spOk_iff {p c s : Int} {live : List Int} : spOk p c s live = true ↔ newE p c s = 0 ∧ okL (slN c) (-1) live = true := by simp [spOk]
theorem right_parts {m : Im} : rightG m = true ↔ spOk m.p m.c m.s m.live = true ∧ (m.bytes.length : Int) = sizeG m.p m.c m.s m.live ∧ rrightT m.bytes.length m.offs = true ∧ (goodR m.base ∨ (m.base = 0 ∧ m.offs = [])) := by
  simp [rightG]
theorem live_le {n : Nat} {l : List Int} (h : okL n (-1) l = true) : l.length ≤ n := by
  have e := ls_of h
  rw [← e, lsL_len]
  exact cnt_le _ _
theorem size_bd {p c s : Int} {live : List Int} (h : spOk p c s live = true) : sizeG p c s live = (live.length : Int) * szI c s ∧ 0 ≤ sizeG p c s live ∧ sizeG p c s live ≤ 4096 := by
  obtain ⟨h1, h2⟩ := spOk_iff.1 h
  obtain ⟨f1, f2, f3, f4, f5, f6, f7, f8, _⟩ := (newE_rt h1).facts
  have hl := live_le h2
  have e : sizeG p c s live = (live.length : Int) * szI c s := if_pos h
  have h3 : 0 ≤ (live.length : Int) * szI c s := Int.mul_nonneg (by omega) (by omega)
  have h4 : (live.length : Int) * szI c s ≤ (slN c : Int) * szI c s := Int.mul_le_mul_of_nonneg_right (by omega) (by omega)
  rw [e]
  exact ⟨rfl, h3, by omega⟩
theorem size_range (p c s : Int) (live : List Int) : 0 ≤ sizeG p c s live ∧ sizeG p c s live ≤ 4096 := by
  cases h : spOk p c s live
  · have e : sizeG p c s live = 0 := if_neg (by rw [h]; decide)
    omega
  · exact ⟨(size_bd h).2.1, (size_bd h).2.2⟩
theorem placed_mono {s s' : Int} (hs : s ≤ s') : ∀ (l : List Int) (f : Int), placedB s f l = true → placedB s' f l = true
  | [], _, _ => by rw [placedB]
  | p :: l, f, h => by
    simp only [placedB, Bool.and_eq_true, decide_eq_true_eq] at h ⊢
    exact ⟨by omega, placed_mono hs l _ h.2⟩
theorem right_wide {n : Int} {l : List Int} (hn : n ≤ 65535) (h : rrightT n l = true) : rrightT 65535 l = true := by
  obtain ⟨h1, h2⟩ := right_iff.1 h
  exact right_iff.2 ⟨h1, placed_mono (by omega) l 0 h2⟩

/-! ### bits -/
/-- No bit behind the places. -/
def bitsOk (n : Nat) (l : List Int) : Bool := (List.range (8 * l.length)).all (fun i => !fB l i || decide (i < n))
theorem bitsOk_iff {n : Nat} {l : List Int} : bitsOk n l = true ↔ ∀ i, fB l i = true → i < n := by
  unfold bitsOk
  rw [List.all_eq_true]
  refine ⟨fun h i hi => ?_, fun h i _ => ?_⟩
  · have := h i (List.mem_range.2 (fB_lt l i hi))
    rw [hi] at this
    simpa using this
  · cases hi : fB l i
    · rfl
    · simpa using h i hi
theorem bitsOk_no {n : Nat} {l : List Int} {i : Nat} (h : fB l i = true) (hi : n ≤ i) : bitsOk n l = false := by
  cases hb : bitsOk n l
  · rfl
  · exact absurd (bitsOk_iff.1 hb i h) (by omega)
theorem bys_fB {l : List Int} (hb : AllB l) : bysL (fB l) l.length = l := by
  apply List.ext_getElem
  · rw [bysL_len]
  · intro j h1 h2
    have := byt_fB l hb j
    have e := bysL_at (fB l) l.length j h2
    rw [this] at e
    simpa [List.getD, h2, bysL_len] using e
theorem bits_back {n : Nat} {l : List Int} (hb : AllB l) (hl : l.length = (n + 7) / 8) (h : bitsOk n l = true) : okL n (-1) (lsL (fB l) n) = true ∧ bysL (fOf (lsL (fB l) n)) ((n + 7) / 8) = l := by
  refine ⟨ls_ok _ _, ?_⟩
  rw [fOf_ls (bitsOk_iff.1 h), ← hl, bys_fB hb]
theorem bits_there {n : Nat} {live : List Int} (h : okL n (-1) live = true) : bitsOk n (bysL (fOf live) ((n + 7) / 8)) = true ∧ lsL (fB (bysL (fOf live) ((n + 7) / 8))) n = live := by
  have e := fB_bys (fOf live) n (fOf_within h) (bysL (fOf live) ((n + 7) / 8)) (bysL_len _ _) (fun j hj => bysL_at _ _ j hj)
  refine ⟨bitsOk_iff.2 fun i hi => fOf_within h i (by rw [← e i]; exact hi), ?_⟩
  rw [lsL_congr (fun i _ => e i), ls_of h]
theorem bys_byte (f : Nat → Bool) (k : Nat) : AllB (bysL f k) := by
  intro x hx
  obtain ⟨j, _, rfl⟩ := List.mem_map.1 hx
  have := byt_lt f j
  omega

/-! ### reading -/
/-- A number is read, and what is done with it; or a fault. -/
def bindU {α : Type} (l : List Int) (most : Int) (k : Int → List Int → α) (bad : Int → α) : α := if (upS l 0 most).2.2 = 0 then k (upS l 0 most).1 (upS l 0 most).2.1 else bad (upS l 0 most).2.2
theorem bindU_ok {α : Type} {l r : List Int} {most n : Int} {k : Int → List Int → α} {bad : Int → α} (h : upS l 0 most = (n, r, 0)) : bindU l most k bad = k n r := by
  unfold bindU; rw [h]; exact if_pos rfl
theorem bindU_bad {α : Type} {l r : List Int} {most n e : Int} {k : Int → List Int → α} {bad : Int → α} (h : upS l 0 most = (n, r, e)) (he : e ≠ 0) : bindU l most k bad = bad e := by
  unfold bindU; rw [h]; exact if_neg he
def badG (e : Int) : Im × Int := (noIm, e)
/-- Behind the table: the bytes, the end, and is it right? -/
def restG (p c s : Int) (live : List Int) (base : Int) (offs l : List Int) : Im × Int :=
  if (l.length : Int) < sizeG p c s live then badG 3 else if sizeG p c s live < l.length then badG 6 else if rightG ⟨p, c, s, live, base, offs, l⟩ = true then (⟨p, c, s, live, base, offs, l⟩, 0) else badG 4
/-- Behind the base: the table. -/
def tabG (p c s : Int) (live : List Int) (base : Int) (r : List Int) : Im × Int := if (readT r).2.2 = 0 then restG p c s live base (readT r).1 (readT r).2.1 else badG (readT r).2.2
/-- Behind the set: the base. -/
def tailG (p c s : Int) (live l : List Int) : Im × Int := bindU l 4294967296 (fun q r => tabG p c s live (256 * q) r) badG
/-- Behind the span's numbers: the set. -/
def setG (p c s : Int) (l : List Int) : Im × Int :=
  if (slN c + 7) / 8 ≤ l.length then (if bitsOk (slN c) (l.take ((slN c + 7) / 8)) = true then tailG p c s (lsL (fB (l.take ((slN c + 7) / 8))) (slN c)) (l.drop ((slN c + 7) / 8)) else badG 4) else badG 3
/-- What bytes are read as: an image, and the fault. -/
def readG (l : List Int) : Im × Int := bindU l 4095 (fun p l1 => bindU l1 7 (fun c l2 => bindU l2 4096 (fun s l3 => if newE p c s = 0 then setG p c s l3 else badG 4) badG) badG) badG

theorem rest_short {p c s base : Int} {live offs l : List Int} (h : (l.length : Int) < sizeG p c s live) : restG p c s live base offs l = badG 3 := if_pos h
theorem rest_long {p c s base : Int} {live offs l : List Int} (h : sizeG p c s live < l.length) : restG p c s live base offs l = badG 6 := by
  unfold restG; rw [if_neg (by omega), if_pos h]
theorem rest_fit {p c s base : Int} {live offs l : List Int} (h : (l.length : Int) = sizeG p c s live) : restG p c s live base offs l = if rightG ⟨p, c, s, live, base, offs, l⟩ = true then (⟨p, c, s, live, base, offs, l⟩, 0) else badG 4 := by
  unfold restG; rw [if_neg (by omega), if_neg (by omega)]
theorem tab_ok {p c s base : Int} {live offs r l : List Int} (h : readT r = (offs, l, 0)) : tabG p c s live base r = restG p c s live base offs l := by
  unfold tabG; rw [h]; exact if_pos rfl
theorem tab_bad {p c s base e : Int} {live offs r l : List Int} (h : readT r = (offs, l, e)) (he : e ≠ 0) : tabG p c s live base r = badG e := by
  unfold tabG; rw [h]; exact if_neg he
theorem set_short {p c s : Int} {l : List Int} (h : l.length < (slN c + 7) / 8) : setG p c s l = badG 3 := if_neg (by omega)
theorem set_form {p c s : Int} {l : List Int} (h : (slN c + 7) / 8 ≤ l.length) (hb : bitsOk (slN c) (l.take ((slN c + 7) / 8)) = false) : setG p c s l = badG 4 := by
  unfold setG; rw [if_pos h, if_neg (by rw [hb]; decide)]
theorem set_ok {p c s : Int} {l : List Int} (h : (slN c + 7) / 8 ≤ l.length) (hb : bitsOk (slN c) (l.take ((slN c + 7) / 8)) = true) : setG p c s l = tailG p c s (lsL (fB (l.take ((slN c + 7) / 8))) (slN c)) (l.drop ((slN c + 7) / 8)) := by
  unfold setG; rw [if_pos h, if_pos hb]

/-- What may come out of a part of the bytes, the head h being ahead of it. -/
def GoodG (h l : List Int) (x : Im × Int) : Prop := (x.2 = 0 ∧ rightG x.1 = true ∧ h ++ l = bodyG x.1) ∨ ((x.2 = 3 ∨ x.2 = 4 ∨ x.2 = 6) ∧ x.1 = noIm)
theorem good_bad (h l : List Int) (e : Int) (he : e = 3 ∨ e = 4 ∨ e = 6) : GoodG h l (badG e) := .inr ⟨he, rfl⟩
theorem rest_good {p c s q : Int} {live offs l : List Int} (q0 : 0 ≤ q) (ho : rrightT 65535 offs = true) : GoodG (varL p ++ (varL c ++ (varL s ++ (bitsG c live ++ (varL q ++ bytesT offs))))) l (restG p c s live (256 * q) offs l) := by
  rcases Int.lt_trichotomy (l.length : Int) (sizeG p c s live) with h | h | h
  · rw [rest_short h]; exact good_bad _ _ _ (.inl rfl)
  · rw [rest_fit h]
    split
    · rename_i hr
      refine .inl ⟨rfl, hr, ?_⟩
      rw [bodyG]
      simp only [show 256 * q / 256 = q from by omega, List.append_assoc]
    · exact good_bad _ _ _ (.inr (.inl rfl))
  · rw [rest_long h]; exact good_bad _ _ _ (.inr (.inr rfl))
theorem tab_good {p c s q : Int} {live r : List Int} (q0 : 0 ≤ q) (hb : AllB r) : GoodG (varL p ++ (varL c ++ (varL s ++ (bitsG c live ++ varL q)))) r (tabG p c s live (256 * q) r) := by
  rcases hr : readT r with ⟨ps, rest, e⟩
  rcases readT_good hb hr with ⟨rfl, h1, h2⟩ | ⟨h1, _, _⟩
  · rw [tab_ok hr, h2]
    have := rest_good (p := p) (c := c) (s := s) (live := live) (l := rest) q0 h1
    unfold GoodG at this ⊢
    simp only [List.append_assoc] at this ⊢
    exact this
  · rw [tab_bad hr (by omega)]
    exact good_bad _ _ _ (by omega)
theorem tail_good {p c s : Int} {live l : List Int} (hb : AllB l) : GoodG (varL p ++ (varL c ++ (varL s ++ bitsG c live))) l (tailG p c s live l) := by
  unfold tailG
  rcases up_cases l 4294967296 hb with ⟨q, r, hu, q0, q1, hl⟩ | ⟨e, hu, he⟩
  · rw [bindU_ok hu]
    have hr : AllB r := by rw [hl] at hb; exact hb.right
    have := tab_good (p := p) (c := c) (s := s) (live := live) q0 hr
    rw [hl]
    unfold GoodG at this ⊢
    simp only [List.append_assoc] at this ⊢
    exact this
  · rw [bindU_bad hu (by omega)]
    exact good_bad _ _ _ (by omega)
theorem set_good {p c s : Int} {l : List Int} (hb : AllB l) : GoodG (varL p ++ (varL c ++ varL s)) l (setG p c s l) := by
  by_cases h : (slN c + 7) / 8 ≤ l.length
  · cases hk : bitsOk (slN c) (l.take ((slN c + 7) / 8))
    · rw [set_form h hk]; exact good_bad _ _ _ (.inr (.inl rfl))
    · rw [set_ok h hk]
      have hlen : (l.take ((slN c + 7) / 8)).length = (slN c + 7) / 8 := by rw [List.length_take]; omega
      have e := (bits_back (hb.take _) hlen hk).2
      have := tail_good (p := p) (c := c) (s := s) (live := lsL (fB (l.take ((slN c + 7) / 8))) (slN c)) (hb.drop ((slN c + 7) / 8))
      unfold bitsG at this
      rw [e] at this
      have e2 : l = l.take ((slN c + 7) / 8) ++ l.drop ((slN c + 7) / 8) := (List.take_append_drop _ _).symm
      unfold GoodG at this ⊢
      simp only [List.append_assoc, List.take_append_drop] at this ⊢
      exact this
  · rw [set_short (by omega)]; exact good_bad _ _ _ (.inl rfl)
/-- What is read without a fault is a right image, and its bytes are those that were read. -/
theorem read_goodG {l : List Int} (hb : AllB l) : ((readG l).2 = 0 ∧ rightG (readG l).1 = true ∧ l = bodyG (readG l).1) ∨ (((readG l).2 = 3 ∨ (readG l).2 = 4 ∨ (readG l).2 = 6) ∧ (readG l).1 = noIm) := by
  have main : GoodG [] l (readG l) := by
    unfold readG
    rcases up_cases l 4095 hb with ⟨p, l1, h1, p0, p1, e1⟩ | ⟨e, hu, he⟩
    · rw [bindU_ok h1]
      have hb1 : AllB l1 := by rw [e1] at hb; exact hb.right
      rcases up_cases l1 7 hb1 with ⟨c, l2, h2, c0, c1, e2⟩ | ⟨e, hu, he⟩
      · rw [bindU_ok h2]
        have hb2 : AllB l2 := by rw [e2] at hb1; exact hb1.right
        rcases up_cases l2 4096 hb2 with ⟨s, l3, h3, s0, s1, e3⟩ | ⟨e, hu, he⟩
        · rw [bindU_ok h3]
          have hb3 : AllB l3 := by rw [e3] at hb2; exact hb2.right
          by_cases hn : newE p c s = 0
          · rw [if_pos hn]
            have := set_good (p := p) (c := c) (s := s) hb3
            rw [e1, e2, e3]
            unfold GoodG at this ⊢
            simp only [List.append_assoc, List.nil_append] at this ⊢
            exact this
          · rw [if_neg hn]; exact good_bad _ _ _ (.inr (.inl rfl))
        · rw [bindU_bad hu (by omega)]; exact good_bad _ _ _ (by omega)
      · rw [bindU_bad hu (by omega)]; exact good_bad _ _ _ (by omega)
    · rw [bindU_bad hu (by omega)]; exact good_bad _ _ _ (by omega)
  exact main
/-- What is written is read. -/
theorem read_backG {m : Im} (h : rightG m = true) : readG (bodyG m) = (m, 0) := by
  obtain ⟨h1, h2, h3, h4⟩ := right_parts.1 h
  obtain ⟨k1, k2⟩ := spOk_iff.1 h1
  have r := newE_rt k1
  obtain ⟨f1, f2, f3, f4, f5, f6, f7, f8, _⟩ := r.facts
  have hs : 0 ≤ m.s ∧ m.s ≤ 4096 := by
    by_cases hc : m.c < 7
    · have := r.sm hc; omega
    · have := r.lg (by have := r.c7; omega)
      have := pagesN_large this; omega
  have p0 := r.p0
  have p1 := r.p1
  have c0 := r.c0
  have c7 := r.c7
  have hsz := size_bd h1
  have ho : rrightT 65535 m.offs = true := right_wide (by omega) h3
  have hq : 0 ≤ m.base / 256 ∧ m.base / 256 ≤ 4294967296 ∧ 256 * (m.base / 256) = m.base := by
    rcases h4 with ⟨g1, g2, g3⟩ | ⟨g, _⟩
    · omega
    · rw [g]; decide
  obtain ⟨b1, b2⟩ := bits_there k2
  have hbl : (bitsG m.c m.live).length = (slN m.c + 7) / 8 := bysL_len _ _
  unfold readG bodyG
  rw [bindU_ok (up_back m.p 4095 _ p0 (by omega) (by omega)), bindU_ok (up_back m.c 7 _ c0 c7 (by omega)), bindU_ok (up_back m.s 4096 _ hs.1 hs.2 (by omega)), if_pos k1]
  have ht : ∀ more : List Int, (bitsG m.c m.live ++ more).take ((slN m.c + 7) / 8) = bitsG m.c m.live := fun more => by rw [← hbl, List.take_left]
  have hd : ∀ more : List Int, (bitsG m.c m.live ++ more).drop ((slN m.c + 7) / 8) = more := fun more => by rw [← hbl, List.drop_left]
  rw [set_ok (by rw [List.length_append, hbl]; omega) (by rw [ht]; exact b1), ht, hd]
  have e : lsL (fB (bitsG m.c m.live)) (slN m.c) = m.live := b2
  rw [e]
  unfold tailG
  rw [bindU_ok (up_back (m.base / 256) 4294967296 _ hq.1 hq.2.1 (by omega)), tab_ok (readT_back m.bytes ho), hq.2.2, rest_fit h2, if_pos h]
end Go.Proofs.YtbfamjnnlcopiaaDoor
