/- Plain mathematics of layer 17: the image of a span of a sound view is right. -/
import Derived.Test.YtbfamjnnlcopiaaGreatDoorGzAQ
import Derived.Test.YtbfamjnnlcopiaaGreatDoorGzAK
import Derived.Test.YtbfamjnnlcopiaaGreatDoorAuB
import Derived.Test.YtbfamjnnlcopiaaGreatDoorMhA
import Derived.Test.YtbfamjnnlcopiaaGreatDoorGzAJ
namespace Go.Proofs.YtbfamjnnlcopiaaGreatDoor
set_option linter.unusedVariables false
set_option maxRecDepth 4000

theorem placed_from {s : Int} : ∀ (l : List Int) (f g : Int), g ≤ f → placedB s f l = true → placedB s g l = true
  | [], _, _, _, _ => rfl
  | x :: l, f, g, hg, h => by
    rw [placedB, Bool.and_eq_true] at h ⊢
    have h1 := of_decide_eq_true h.1
    exact ⟨decide_eq_true ⟨by omega, h1.2⟩, h.2⟩
theorem placed_app {s s' : Int} (m : List Int) (hs : s' ≤ s) (hm : placedB s s' m = true) : ∀ (l : List Int) (f : Int), f ≤ s' → placedB s' f l = true → placedB s f (l ++ m) = true
  | [], f, hf, _ => placed_from m s' f hf hm
  | x :: l, f, hf, h => by
    rw [placedB, Bool.and_eq_true] at h
    have h1 := of_decide_eq_true h.1
    rw [List.cons_append, placedB, Bool.and_eq_true]
    exact ⟨decide_eq_true ⟨h1.1, by omega, h1.2.2⟩, placed_app m hs hm l (x + 8) (by omega) h.2⟩
theorem placed_filter {s : Int} (q : Int → Bool) : ∀ (l : List Int) (f : Int), placedB s f l = true → placedB s f (l.filter q) = true
  | [], _, _ => rfl
  | x :: l, f, h => by
    rw [placedB, Bool.and_eq_true] at h
    have h1 := of_decide_eq_true h.1
    have h2 := placed_filter q l (x + 8) h.2
    rw [List.filter_cons]
    split
    · rw [placedB, Bool.and_eq_true]
      exact ⟨h.1, h2⟩
    · exact placed_from _ (x + 8) f (by omega) h2
theorem placed_shift {s n : Int} (hn : n % 8 = 0) : ∀ (l : List Int) (f : Int), placedB s f l = true → placedB (n + s) (n + f) (l.map (fun p => n + p)) = true
  | [], _, _ => rfl
  | x :: l, f, h => by
    rw [placedB, Bool.and_eq_true] at h
    have h1 := of_decide_eq_true h.1
    have h2 := placed_shift hn l (x + 8) h.2
    rw [List.map_cons, placedB, Bool.and_eq_true]
    refine ⟨decide_eq_true ⟨by omega, by omega, by omega⟩, ?_⟩
    rw [show n + x + 8 = n + (x + 8) by omega]
    exact h2
/-- A slot's beginning within the image. -/
theorem mk_even {V : Vw} (h : Hold V 7) {j n : Nat} (hj : j < V.ts.length) (hn : n < lvN V j) : ((n * (szT V j).toNat : Nat) : Int) % 8 = 0 := by
  obtain ⟨hr, _⟩ := h.right (by decide) j hj
  have rt := newE_rt hr.1
  have hl : lvN V j ≤ slN (tdD V.ts j).c := live_le hr.2
  obtain ⟨_, _, z, _⟩ := plV_in h hj hn
  by_cases c7 : (tdD V.ts j).c = 7
  · rw [c7] at hl
    have : slN 7 = 1 := rfl
    obtain rfl : n = 0 := by omega
    simp
  · have e : szT V j = sizeI (tdD V.ts j).c := by unfold szT szI; rw [if_neg c7]
    have c0 := rt.c0
    have c1 := rt.c7
    have : (szT V j).toNat % 8 = 0 := by
      rw [e]
      obtain q | q | q | q | q | q | q : (tdD V.ts j).c = 0 ∨ (tdD V.ts j).c = 1 ∨ (tdD V.ts j).c = 2 ∨ (tdD V.ts j).c = 3 ∨ (tdD V.ts j).c = 4 ∨ (tdD V.ts j).c = 5 ∨ (tdD V.ts j).c = 6 := by omega
      all_goals rw [q]; rfl
    have : (n * (szT V j).toNat) % 8 = 0 := by rw [Nat.mul_mod, this, Nat.mul_zero, Nat.zero_mod]
    omega
theorem mkO_placed {V : Vw} (h : Hold V 7) {j : Nat} (hj : j < V.ts.length) : ∀ n, n ≤ lvN V j → placedB ((n * (szT V j).toNat : Nat) : Int) 0 (mkO V j n) = true ∧ (mkO V j n).length ≤ 16 * n
  | 0, _ => ⟨rfl, by simp [mkO]⟩
  | n + 1, hn => by
    obtain ⟨i1, i2⟩ := mkO_placed h hj n (by omega)
    obtain ⟨k1, k2⟩ := psAt_in h hj (n := n) (by omega)
    obtain ⟨z1, z2, z3, z4⟩ := plV_in h hj (n := n) (by omega)
    rw [mkO, mkB_len h hj n (by omega)]
    have e : (((n + 1) * (szT V j).toNat : Nat) : Int) = ((n * (szT V j).toNat : Nat) : Int) + szT V j := by
      rw [Nat.add_mul, Nat.one_mul]
      omega
    refine ⟨?_, ?_⟩
    · rw [e]
      unfold ofAt
      refine placed_app _ (by omega) ?_ _ _ (by omega) i1
      have q := placed_shift (mk_even h hj (n := n) (by omega)) _ _ (placed_filter (fun p => decide (wordV V.bs (plV V j n + p) ≠ 0)) _ _ k1)
      rw [Int.add_zero] at q
      exact q
    · rw [List.length_append]
      unfold ofAt
      rw [List.length_map]
      have := List.length_filter_le (fun p => decide (wordV V.bs (plV V j n + p) ≠ 0)) (psAt V (plV V j n))
      omega
/-- The image of a span of a sound view may be. -/
theorem make_right {V : Vw} (h : Hold V 7) {j : Nat} (hj : j < V.ts.length) : rightG (makeG V j) = true := by
  obtain ⟨hr, _⟩ := h.right (by decide) j hj
  obtain ⟨_, _, hg, _⟩ := h.r1 (by decide)
  have hs : spOk (tdD V.ts j).p (tdD V.ts j).c (tdD V.ts j).s (tdD V.ts j).l = true := spOk_iff.2 ⟨hr.1, hr.2⟩
  obtain ⟨q1, q2⟩ := mkO_placed h hj (lvN V j) (Nat.le_refl _)
  have hb := mkB_len h hj (lvN V j) (Nat.le_refl _)
  have hl : lvN V j ≤ slN (tdD V.ts j).c := live_le hr.2
  obtain ⟨f1, f2, f3, f4, f5, f6, f7, f8, f9, f10, f11⟩ := (newE_rt hr.1).facts
  have z0 : 0 ≤ szT V j := by unfold szT; omega
  refine right_parts.2 ⟨hs, ?_, ?_, ?_⟩
  · show ((mkB V j (lvN V j)).length : Int) = sizeG (tdD V.ts j).p (tdD V.ts j).c (tdD V.ts j).s (tdD V.ts j).l
    rw [hb, (size_bd hs).1, Int.natCast_mul, Int.toNat_of_nonneg z0]
    rfl
  · show rrightT ((mkB V j (lvN V j)).length : Nat) (mkO V j (lvN V j)) = true
    rw [right_iff, hb, show max 0 ((lvN V j * (szT V j).toNat : Nat) : Int) = ((lvN V j * (szT V j).toNat : Nat) : Int) by omega]
    exact ⟨by omega, q1⟩
  · show goodR (if mkO V j (lvN V j) = [] then 0 else V.base) ∨ ((if mkO V j (lvN V j) = [] then (0 : Int) else V.base) = 0 ∧ mkO V j (lvN V j) = [])
    by_cases e : mkO V j (lvN V j) = []
    · rw [if_pos e]; exact .inr ⟨rfl, e⟩
    · rw [if_neg e]; exact .inl hg
end Go.Proofs.YtbfamjnnlcopiaaGreatDoor

/- Plain mathematics of layer 17: an image at another base, and back. -/
namespace Go.Proofs.YtbfamjnnlcopiaaGreatDoor
set_option linter.unusedVariables false
set_option maxRecDepth 4000

/-- May an image go to this base, in an arena of n bytes? -/
def goesA (t n : Int) : Prop := goodR t ∧ 0 ≤ n ∧ n ≤ 1048576
/-- What becomes of an image at another base. -/
noncomputable def moveG (m : Im) (t n : Int) : Im × Int :=
  open Classical in if rightG m = true then (if goesA t n then (if m.offs = [] then (⟨m.p, m.c, m.s, m.live, 0, [], m.bytes⟩, 0)
    else (if applyE m.bytes m.offs m.base t n = 0 then (⟨m.p, m.c, m.s, m.live, t, m.offs, applyB m.bytes m.offs m.base t n⟩, 0) else (noIm, applyE m.bytes m.offs m.base t n))) else (noIm, 2)) else (noIm, 4)
theorem move_form {m : Im} {t n : Int} (h : rightG m = false) : moveG m t n = (noIm, 4) := if_neg (by simp [h])
theorem move_arg {m : Im} {t n : Int} (h : rightG m = true) (h1 : ¬ goesA t n) : moveG m t n = (noIm, 2) := by
  unfold moveG
  rw [if_pos h, if_neg h1]
theorem move_none {m : Im} {t n : Int} (h : rightG m = true) (h1 : goesA t n) (h2 : m.offs = []) : moveG m t n = (⟨m.p, m.c, m.s, m.live, 0, [], m.bytes⟩, 0) := by
  unfold moveG
  rw [if_pos h, if_pos h1, if_pos h2]
theorem move_addr {m : Im} {t n : Int} (h : rightG m = true) (h1 : goesA t n) (h2 : m.offs ≠ []) (h3 : applyE m.bytes m.offs m.base t n ≠ 0) : moveG m t n = (noIm, applyE m.bytes m.offs m.base t n) := by
  unfold moveG
  rw [if_pos h, if_pos h1, if_neg h2, if_neg h3]
theorem move_ok {m : Im} {t n : Int} (h : rightG m = true) (h1 : goesA t n) (h2 : m.offs ≠ []) (h3 : applyE m.bytes m.offs m.base t n = 0) : moveG m t n = (⟨m.p, m.c, m.s, m.live, t, m.offs, applyB m.bytes m.offs m.base t n⟩, 0) := by
  unfold moveG
  rw [if_pos h, if_pos h1, if_neg h2, if_pos h3]
end Go.Proofs.YtbfamjnnlcopiaaGreatDoor

/- Plain mathematics of layer 17: the image of a span of a sound view, moved, is the image of that span of the moved view. -/
namespace Go.Proofs.YtbfamjnnlcopiaaGreatDoor
set_option linter.unusedVariables false
set_option maxRecDepth 4000

/-- A byte of an image is a byte of the view. -/
theorem mkB_get {V : Vw} (h : Hold V 7) {j : Nat} (hj : j < V.ts.length) : ∀ N, N ≤ lvN V j → ∀ n r, n < N → r < (szT V j).toNat → (mkB V j N)[n * (szT V j).toNat + r]? = V.bs[(plV V j n).toNat + r]?
  | 0, _, _, _, hn, _ => by omega
  | N + 1, hN, n, r, hn, hr => by
    have hlen := mkB_len h hj N (by omega)
    rw [mkB]
    by_cases e : n = N
    · subst e
      rw [List.getElem?_append_right (by rw [hlen]; omega), hlen, show n * (szT V j).toNat + r - n * (szT V j).toNat = r by omega]
      unfold slbV
      rw [List.getElem?_take, if_pos hr, List.getElem?_drop]
    · have hm : (n + 1) * (szT V j).toNat ≤ N * (szT V j).toNat := Nat.mul_le_mul_right _ (by omega)
      rw [Nat.add_mul, Nat.one_mul] at hm
      rw [List.getElem?_append_left (by rw [hlen]; omega)]
      exact mkB_get h hj N (by omega) n r (by omega) hr
/-- A byte of an image lies in one of its slots. -/
theorem mk_split {V : Vw} {j : Nat} (hz : 0 < (szT V j).toNat) {N k : Nat} (hk : k < N * (szT V j).toNat) : ∃ n r, n < N ∧ r < (szT V j).toNat ∧ k = n * (szT V j).toNat + r := by
  refine ⟨k / (szT V j).toNat, k % (szT V j).toNat, ?_, Nat.mod_lt _ hz, ?_⟩
  · exact (Nat.div_lt_iff_lt_mul hz).2 hk
  · rw [Nat.mul_comm]
    exact (Nat.div_add_mod k (szT V j).toNat).symm
/-- A number of an image is one of the view. -/
theorem mkB_word {V : Vw} (h : Hold V 7) {j n : Nat} (hj : j < V.ts.length) (hn : n < lvN V j) {p : Int} (p0 : 0 ≤ p) (p1 : p + 8 ≤ szT V j) : wordT (mkB V j (lvN V j)) ((n * (szT V j).toNat : Nat) + p) = wordV V.bs (plV V j n + p) := by
  obtain ⟨h1, h2, h3, _⟩ := plV_in h hj hn
  unfold wordT wordV
  congr 1
  apply List.ext_getElem?
  intro i
  rw [List.getElem?_take, List.getElem?_take]
  by_cases hi : i < 8
  · rw [if_pos hi, if_pos hi, List.getElem?_drop, List.getElem?_drop, show (((n * (szT V j).toNat : Nat) : Int) + p).toNat + i = n * (szT V j).toNat + (p.toNat + i) by omega, mkB_get h hj (lvN V j) (Nat.le_refl _) n _ hn (by omega)]
    congr 1
    omega
  · rw [if_neg hi, if_neg hi]
/-- The places of an image: which they are. -/
theorem mkO_mem {V : Vw} (h : Hold V 7) {j : Nat} (hj : j < V.ts.length) {o : Int} : ∀ {N : Nat}, N ≤ lvN V j → (o ∈ mkO V j N ↔ ∃ n p, n < N ∧ p ∈ psAt V (plV V j n) ∧ wordV V.bs (plV V j n + p) ≠ 0 ∧ o = ((n * (szT V j).toNat : Nat) : Int) + p)
  | 0, _ => by simp [mkO]
  | N + 1, hN => by
    rw [mkO, List.mem_append, mkO_mem h hj (N := N) (by omega), mkB_len h hj N (by omega)]
    unfold ofAt
    rw [List.mem_map]
    constructor
    · rintro (⟨n, p, hn, a, b, c⟩ | ⟨p, hp, e⟩)
      · exact ⟨n, p, by omega, a, b, c⟩
      · rw [List.mem_filter] at hp
        exact ⟨N, p, by omega, hp.1, by simpa using hp.2, e.symm⟩
    · rintro ⟨n, p, hn, a, b, c⟩
      by_cases e : n = N
      · subst e
        exact .inr ⟨p, List.mem_filter.2 ⟨a, by simpa using b⟩, c.symm⟩
      · exact .inl ⟨n, p, by omega, a, b, c⟩
theorem mvS_get0 {V : Vw} {B : Int} {b : List Int} {x : Int} (h : FdO V B b.length x) {k : Nat} (hk : wordV V.bs x = 0 ∨ (k : Int) < x ∨ x + 8 ≤ (k : Int)) : (mvS V B b x)[k]? = b[k]? := by
  rcases hk with hk | hk
  · unfold mvS; rw [if_pos hk]
  · exact mvS_get h hk
theorem mvL_get0 {V : Vw} {B : Int} : ∀ (l b : List Int), (∀ x ∈ l, FdO V B b.length x) → ∀ k : Nat, (∀ x ∈ l, wordV V.bs x = 0 ∨ (k : Int) < x ∨ x + 8 ≤ (k : Int)) → (mvL V B l b)[k]? = b[k]?
  | [], _, _, _, _ => rfl
  | x :: l, b, h, k, hk => by
    have h0 := h x List.mem_cons_self
    have e : mvL V B (x :: l) b = mvL V B l (mvS V B b x) := rfl
    rw [e, mvL_get0 l _ (fun y hy => by rw [mvS_len h0]; exact h y (List.mem_cons_of_mem _ hy)) k (fun y hy => hk y (List.mem_cons_of_mem _ hy))]
    exact mvS_get0 h0 (hk x List.mem_cons_self)
/-- The fields of the object in a live slot, by its row. -/
theorem psAt_row {V : Vw} (h : Hold V 7) {j n : Nat} (hj : j < V.ts.length) (hn : n < lvN V j) : ∃ i, i < V.rs.length ∧ (rwD V.rs i).live = true ∧ (rwD V.rs i).pl = plV V j n ∧ psAt V (plV V j n) = psOf V i := by
  obtain ⟨i, ho, hi, hl, hp⟩ := plV_own h hj hn
  exact ⟨i, hi, hl, hp, by unfold psAt; rw [ho]⟩
/-- Elsewhere than in fields that aren't 0 a live slot's bytes stay. -/
theorem mv_stay {V : Vw} (h : Hold V 7) {B : Int} (hg : goodR B) (hB : 0 ≤ B) (hB2 : B ≤ 1099511627776) {j n : Nat} (hj : j < V.ts.length) (hn : n < lvN V j) {r : Nat} (hr : r < (szT V j).toNat) (hk : ∀ p ∈ psAt V (plV V j n), wordV V.bs (plV V j n + p) = 0 ∨ (r : Int) < p ∨ p + 8 ≤ (r : Int)) :
    (movV V B).bs[(plV V j n).toNat + r]? = V.bs[(plV V j n).toNat + r]? := by
  obtain ⟨x0, x1, z0, _⟩ := plV_in h hj hn
  obtain ⟨i, hi, hl, hp, he⟩ := psAt_row h hj hn
  refine mvL_get0 _ _ (h.fds hB hB2) _ fun x hx => ?_
  obtain ⟨i', p, hi', li', hp', rfl⟩ := fldU_mem hx
  by_cases e : i' = i
  · subst e
    rw [hp]
    rcases hk p (by rw [he]; exact hp') with q | q | q
    · exact .inl q
    · exact .inr (.inl (by omega))
    · exact .inr (.inr (by omega))
  · obtain ⟨ja, ka, sa, za⟩ := h.slot (by decide) i' hi' li'
    have hne : (rwD V.rs i').pl ≠ plV V j n := fun q => e (h.alone (by decide) hi' hi li' hl (q.trans hp.symm))
    have ap := sa.apart h (by decide) (plV_slot hj hn) hne
    have := (h.obj (by decide) i' hi' li').ps p hp'
    rcases ap with q | q
    · exact .inr (.inr (by omega))
    · exact .inr (.inl (by omega))
end Go.Proofs.YtbfamjnnlcopiaaGreatDoor

/- Plain mathematics of layer 17: the image of a span of a sound view, moved, is the image of that span of the moved view. -/
namespace Go.Proofs.YtbfamjnnlcopiaaGreatDoor
set_option linter.unusedVariables false
set_option maxRecDepth 4000

theorem mkB_all {V : Vw} (hb : AllB V.bs) (j : Nat) : ∀ n, AllB (mkB V j n)
  | 0 => fun x hx => by cases hx
  | n + 1 => (mkB_all hb j n).append ((hb.drop _).take _)
theorem good_bd {B : Int} (h : goodR B) : 0 ≤ B ∧ B ≤ 1099511627776 := by
  unfold goodR at h
  omega
theorem mvW_mvT (V : Vw) (B x : Int) : mvW V B x = mvT V.base B x := rfl
/-- The bytes of the moved view's image. -/
theorem make_moved {V : Vw} (h : Hold V 7) (hb : AllB V.bs) {B : Int} (hg : goodR B) {j : Nat} (hj : j < V.ts.length) :
    argT V.base B V.bs.length ∧ rrightT ((mkB V j (lvN V j)).length : Nat) (mkO V j (lvN V j)) = true ∧ allT V.base V.bs.length (mkB V j (lvN V j)) (mkO V j (lvN V j)) = true ∧ goT V.base B (mkB V j (lvN V j)) (mkO V j (lvN V j)) (mkB V j (lvN V j)) = mkB (movV V B) j (lvN V j) := by
  obtain ⟨g0, g1⟩ := good_bd hg
  have hM := moved_hold h hg
  obtain ⟨a1, a2, a3, a4, _, _⟩ := h.r1 (by decide)
  have hA : argT V.base B V.bs.length := ⟨a3, hg, by omega, by omega⟩
  have hR : rrightT ((mkB V j (lvN V j)).length : Nat) (mkO V j (lvN V j)) = true := (right_parts.1 (make_right h hj)).2.2.1
  obtain ⟨hl, hw⟩ := right_in hR
  have hB := mkB_all hb j (lvN V j)
  have hlen := mkB_len h hj (lvN V j) (Nat.le_refl _)
  have hlen' : (mkB (movV V B) j (lvN V j)).length = lvN V j * (szT V j).toNat := mkB_len hM (j := j) hj (lvN V j) (Nat.le_refl _)
  have hB' : AllB (mkB (movV V B) j (lvN V j)) := mkB_all (mvL_all _ _ hb) j (lvN V j)
  -- each place: its field
  have fld : ∀ o ∈ mkO V j (lvN V j), ∃ n p i, n < lvN V j ∧ o = ((n * (szT V j).toNat : Nat) : Int) + p ∧ 0 ≤ p ∧ p + 8 ≤ szT V j ∧ i < V.rs.length ∧ (rwD V.rs i).live = true ∧ (rwD V.rs i).pl = plV V j n ∧ p ∈ psOf V i := fun o ho => by
    obtain ⟨n, p, hn, hp, _, e⟩ := (mkO_mem h hj (Nat.le_refl _)).1 ho
    obtain ⟨i, hi, hl, hpl, he⟩ := psAt_row h hj hn
    obtain ⟨q, _⟩ := placed_all _ _ (psAt_in h hj hn).1
    have := q p hp
    exact ⟨n, p, i, hn, e, by omega, by omega, hi, hl, hpl, by rw [← he]; exact hp⟩
  have hall : allT V.base V.bs.length (mkB V j (lvN V j)) (mkO V j (lvN V j)) = true := by
    apply List.all_eq_true.2
    intro o ho
    obtain ⟨n, p, i, hn, e, p0, p1, hi, li, hpl, hp⟩ := fld o ho
    rw [decide_eq_true_eq, e, mkB_word h hj hn p0 p1, ← hpl]
    rcases h.word_in hi li hp with q | q
    · exact .inl q
    · exact .inr q
  refine ⟨hA, hR, hall, ?_⟩
  have glen := goT_len (fr := V.base) (t := B) (b := mkB V j (lvN V j)) _ _ hl
  refine wordT_ext (l := mkO V j (lvN V j)) hB' (goT_all _ _ hB) (by rw [glen, hlen, hlen']) (fun o ho => by rw [hlen', ← hlen]; exact hl o ho) (fun o ho => ?_) (fun k hk => ?_)
  · rw [goT_word hB hl hw hA hall ho]
    obtain ⟨n, p, i, hn, e, p0, p1, hi, li, hpl, hp⟩ := fld o ho
    have e1 := mkB_word h hj hn p0 p1
    have e2 := mkB_word hM (j := j) (n := n) hj hn p0 p1
    have e3 := moved_word h g0 g1 hi li hp
    rw [e, e1, ← mvW_mvT, ← hpl, ← e3, hpl]
    exact e2.symm
  · rw [goT_get _ _ hl k (fun o ho => .inr (hk o ho))]
    by_cases hK : k < lvN V j * (szT V j).toNat
    · obtain ⟨n, r, hn, hr, rfl⟩ := mk_split (V := V) (j := j) (by
        rcases Nat.eq_zero_or_pos (szT V j).toNat with q | q
        · rw [q] at hK; omega
        · exact q) hK
      rw [mkB_get h hj _ (Nat.le_refl _) n r hn hr]
      have e2 := mkB_get hM (j := j) hj (lvN V j) (Nat.le_refl _) n r hn hr
      refine Eq.trans ?_ e2.symm
      refine (mv_stay h hg g0 g1 hj hn hr fun p hp => ?_).symm
      by_cases h0 : wordV V.bs (plV V j n + p) = 0
      · exact .inl h0
      · have := hk _ ((mkO_mem h hj (Nat.le_refl _)).2 ⟨n, p, hn, hp, h0, rfl⟩)
        omega
    · rw [List.getElem?_eq_none (by omega), List.getElem?_eq_none (by omega)]
/-- The image of a span of a sound view, moved: no error, the same span, and the moved view's bytes. -/
theorem make_goes {V : Vw} (h : Hold V 7) (hb : AllB V.bs) {B : Int} (hg : goodR B) {j : Nat} (hj : j < V.ts.length) :
    ∃ b, moveG (makeG V j) B V.bs.length = (⟨(tdD V.ts j).p, (tdD V.ts j).c, (tdD V.ts j).s, (tdD V.ts j).l, b, mkO V j (lvN V j), mkB (movV V B) j (lvN V j)⟩, 0) := by
  obtain ⟨hA, hR, hall, hG⟩ := make_moved h hb hg hj
  have hM := make_right h hj
  by_cases e : mkO V j (lvN V j) = []
  · rw [move_none hM ⟨hg, hA.2.2⟩ e]
    rw [e] at hG
    refine ⟨0, ?_⟩
    rw [e]
    show (Im.mk _ _ _ _ 0 [] (mkB V j (lvN V j)), (0 : Int)) = _
    rw [← hG]
    rfl
  · have hbase : (makeG V j).base = V.base := if_neg e
    have q := apply_ok hA hR hall
    have q' : applyE (makeG V j).bytes (makeG V j).offs (makeG V j).base B V.bs.length = 0 := by rw [hbase]; exact q.2
    rw [move_ok hM ⟨hg, hA.2.2⟩ e q', hbase]
    refine ⟨B, ?_⟩
    show (Im.mk _ _ _ _ B (mkO V j (lvN V j)) (applyB (mkB V j (lvN V j)) (mkO V j (lvN V j)) V.base B V.bs.length), (0 : Int)) = _
    rw [q.1, hG]
    rfl
end Go.Proofs.YtbfamjnnlcopiaaGreatDoor

/- Plain mathematics of layer 17: the loops that make an image, the code's and the document's. -/
namespace Go.Proofs.YtbfamjnnlcopiaaGreatDoor
set_option linter.unusedVariables false
set_option maxRecDepth 4000

/-- One field more. -/
theorem ofAt_none (V : Vw) (x n : Int) : ofAt V x n [] = [] := rfl
theorem ofAt_yes {V : Vw} {x n : Int} {l : List Int} {q : Nat} (hq : q < l.length) (h : wordV V.bs (x + l.getD q 0) ≠ 0) : ofAt V x n (l.take (q + 1)) = ofAt V x n (l.take q) ++ [n + l.getD q 0] := by
  have e : l.take (q + 1) = l.take q ++ [l.getD q 0] := by
    rw [List.take_add_one, List.getElem?_eq_getElem hq]
    simp [List.getD, hq]
  unfold ofAt
  rw [e, List.filter_append, List.map_append, List.filter_cons, if_pos (by simpa using h), List.filter_nil, List.map_cons, List.map_nil]
theorem ofAt_no {V : Vw} {x n : Int} {l : List Int} {q : Nat} (hq : q < l.length) (h : wordV V.bs (x + l.getD q 0) = 0) : ofAt V x n (l.take (q + 1)) = ofAt V x n (l.take q) := by
  have e : l.take (q + 1) = l.take q ++ [l.getD q 0] := by
    rw [List.take_add_one, List.getElem?_eq_getElem hq]
    simp [List.getD, hq]
  unfold ofAt
  rw [e, List.filter_append, List.map_append, List.filter_cons, if_neg (by simpa using h), List.filter_nil, List.map_nil, List.append_nil]
/-- What the code's kindsIn has told behind the first rows. -/
structure KinP (V : Vw) (j m : Nat) (K : List Int) : Prop where
  len : K.length = slN (tdD V.ts j).c
  told : ∀ i, i < m → (rwD V.rs i).live = true → ∀ k : Nat, k < slN (tdD V.ts j).c → atS (tdD V.ts j) k = (rwD V.rs i).pl → K.getD k 0 = (rwD V.rs i).kind
theorem KinP.zero (V : Vw) (j : Nat) : KinP V j 0 (List.replicate (slN (tdD V.ts j).c) 0) := ⟨by simp, fun i hi => by omega⟩
theorem KinP.skip {V : Vw} {j m : Nat} {K : List Int} (h : KinP V j m K) {y : Int} {ok : Bool} (hs : SlotR (slN (tdD V.ts j).c) (tdD V.ts j).p (szT V j) (rwD V.rs m).pl y ok) (hn : ¬ (ok = true ∧ (rwD V.rs m).live = true)) : KinP V j (m + 1) K := by
  refine ⟨h.len, fun i hi hl k hk e => ?_⟩
  by_cases q : i = m
  · subst q
    exfalso
    rcases hs with ⟨hok, _⟩ | ⟨_, _, hx⟩
    · exact hn ⟨hok, hl⟩
    · exact hx k hk e.symm
  · exact h.told i (by omega) hl k hk e
theorem KinP.put {V : Vw} (hH : Hold V 7) {j m : Nat} (hj : j < V.ts.length) (hm : m < V.rs.length) {K : List Int} (h : KinP V j m K) {y : Int} (hs : SlotR (slN (tdD V.ts j).c) (tdD V.ts j).p (szT V j) (rwD V.rs m).pl y true) (hl : (rwD V.rs m).live = true) :
    0 ≤ y ∧ y < (K.length : Int) ∧ KinP V j (m + 1) (K.set y.toNat (rwD V.rs m).kind) := by
  rcases hs with ⟨_, k', h1, rfl, h2⟩ | ⟨hf, _⟩
  · have hlen := h.len
    obtain ⟨hr, _⟩ := hH.right (by decide) j hj
    have fa := (newE_rt hr.1).facts
    refine ⟨by omega, by omega, by rw [List.length_set]; exact hlen, fun i hi li k hk e => ?_⟩
    rw [show ((k' : Int)).toNat = k' by omega]
    by_cases q : k' = k
    · subst q
      have e2 : (rwD V.rs i).pl = (rwD V.rs m).pl := by rw [← e, h2]; rfl
      have := hH.alone (by decide) (show i < V.rs.length by omega) hm li hl e2
      subst this
      simp [List.getD, hlen, hk]
    · have im : i ≠ m := fun c => by
        subst c
        apply q
        refine (mul_inj (i := k) (j := k') fa.2.2.2.1 ?_).symm
        unfold atS at e
        unfold szT at h2
        omega
      have := h.told i (by omega) li k hk e
      rw [← this]
      simp [List.getD, q]
  · cases hf
/-- What it tells of a live slot: the kind of the object in it. -/
theorem KinP.ended {V : Vw} (hH : Hold V 7) {j n : Nat} (hj : j < V.ts.length) (hn : n < lvN V j) {K : List Int} (h : KinP V j V.rs.length K) :
    0 ≤ (tdD V.ts j).l.getD n 0 ∧ (tdD V.ts j).l.getD n 0 < (K.length : Int) ∧ 0 ≤ K.getD ((tdD V.ts j).l.getD n 0).toNat 0 ∧ K.getD ((tdD V.ts j).l.getD n 0).toNat 0 < V.ks.length ∧ (knD V.ks (K.getD ((tdD V.ts j).l.getD n 0).toNat 0).toNat).l = psAt V (plV V j n) := by
  obtain ⟨i, ho, hi, hl, hp⟩ := plV_own hH hj hn
  obtain ⟨hr, _⟩ := hH.right (by decide) j hj
  obtain ⟨k0, k1, _⟩ := right_at hr (getD_mem' hn)
  have e := h.told i hi hl ((tdD V.ts j).l.getD n 0).toNat (by omega) (by rw [hp, Int.toNat_of_nonneg k0]; rfl)
  obtain ⟨_, _, q1, q2, _⟩ := hH.live (by decide) i hi hl
  have hlen := h.len
  rw [e]
  refine ⟨k0, by omega, q1, q2, ?_⟩
  unfold psAt
  rw [ho]
  rfl
end Go.Proofs.YtbfamjnnlcopiaaGreatDoor

/- Layer 17: RoC again -/
namespace Go.Proofs.YtbfamjnnlcopiaaGreatDoor
open Go.RowKit
set_option linter.unusedVariables false
set_option maxRecDepth 4000
theorem placed_ok {s f p : Int} {l : List Int} {k : Nat} (h : k < l.length) (hp : l.getD k 0 = p) (h1 : f ≤ p) (h2 : p ≤ s - 8) (h3 : p % 8 = 0) : placedB s f (l.drop k) = placedB s (p + 8) (l.drop (k + 1)) := by
  rw [placed_step s f l k h, hp, decide_eq_true ⟨h1, h2, h3⟩, Bool.true_and]
theorem placed_no {s f p : Int} {l : List Int} {k : Nat} (h : k < l.length) (hp : l.getD k 0 = p) (h1 : ¬ (f ≤ p ∧ p ≤ s - 8 ∧ p % 8 = 0)) : placedB s f (l.drop k) = false := by
  rw [placed_step s f l k h, hp, decide_eq_false h1, Bool.false_and]
/-- The three ways in which a place can be wrong. -/
theorem wrong_ways {s f p : Int} (hok : ¬ (f ≤ p ∧ p ≤ s - 8 ∧ p % 8 = 0)) : p < f ∨ (f ≤ p ∧ s - 8 < p) ∨ (f ≤ p ∧ p ≤ s - 8 ∧ (p % 8 != 0) = true) := by
  rcases Int.lt_or_le p f with h | h
  · exact .inl h
  · rcases Int.lt_or_le (s - 8) p with h' | h'
    · exact .inr (.inl ⟨h, h'⟩)
    · exact .inr (.inr ⟨h, h', by rw [bne_iff_ne]; intro h8; exact hok ⟨h, h', h8⟩⟩)

set_option maxHeartbeats 4000000 in
/-- What the code's Right answers. -/
theorem oright_any (a : Option Addr) (c : Nat) (l : List Int) (n : Int) (w : World) (hI : IsI w a l) (hm : l.length ≤ maxLen) (hn : -9223372036854775808 ≤ n ∧ n ≤ 9223372036854775807) :
    Calls Tryz.prog 74 #[.slice a l.length c, .int .i64 n] w fun e w' => e = .returned (.bool (rrightT n l)) ∧ w = w' := by
  have I1 : Hid (IsI w a l) := hI
  unfold maxLen at hm
  clear hI
  by_cases hbig : 8192 < l.length
  · rw [right_many hbig]
    go_enter Tryz.func74, Tryz.ntmps74
    go_wp2
    go_ret
    exact ⟨rfl, rfl⟩
  · have hfew : l.length ≤ 8192 := by omega
    rw [right_few hfew]
    have hcn : (n < 0 ∧ max 0 n = 0) ∨ (n = 0 ∧ max 0 n = 0) ∨ (0 < n ∧ max 0 n = n) := by omega
    clear hbig
    rcases hcn with ⟨q1, q2⟩ | ⟨q1, q2⟩ | ⟨q1, q2⟩
    · rw [q2]
      clear q2
      go_enter Tryz.func74, Tryz.ntmps74
      go_wp2
      go_loop [5, 15] (fun fv iv => ∃ (k : Nat) (f : Int), k ≤ l.length ∧ iv = .int .i64 k ∧ fv = .int .i64 f ∧ 0 ≤ f ∧ f ≤ 9223372036854775807 ∧ placedB 0 0 l = placedB 0 f (l.drop k)) (fun _ iv => l.length - (intOf iv).toNat)
      case atStart => exact ⟨0, 0, Nat.zero_le _, rfl, rfl, by omega, by omega, rfl⟩
      case round =>
        obtain ⟨k, f, hk, rfl, rfl, f0, f1, hp⟩ := hrel
        have HP : Hid (placedB 0 0 l = placedB 0 f (l.drop k)) := hp
        clear hp
        by_cases hlt : k < l.length
        · obtain ⟨hin, h0 | ⟨b, off, rfl, hsz, hc⟩⟩ := I1.out
          · rw [h0] at hlt; simp at hlt
          have hcell := hc k hlt
          have hpb := AllI.at (show AllI l from hin) k
          obtain ⟨p, hp⟩ : ∃ p, l.getD k 0 = p := ⟨_, rfl⟩
          rw [hp] at hcell hpb
          have HPP : Hid (l.getD k 0 = p) := hp
          clear hp hc hin hsz
          by_cases hok : f ≤ p ∧ p ≤ 0 - 8 ∧ p % 8 = 0
          · obtain ⟨k1, k2, k3⟩ := hok
            exfalso; omega
          · have EQ : Hid (placedB 0 0 l = false) := by show _ = _; rw [HP.out, placed_no hlt HPP.out hok]
            clear HP
            rcases wrong_ways hok with h | ⟨h, h'⟩ | ⟨h, h', h8⟩
            case inr.inr => exfalso; omega
            all_goals
              clear hok
              go_wp2
              go_ret
              exact ⟨ret_bool EQ.out.symm, rfl⟩
        · have EQ : Hid (placedB 0 0 l = true) := by show _ = _; rw [HP.out, placed_end 0 f l k (by omega)]
          clear HP
          go_wp2
          go_ret
          exact ⟨ret_bool EQ.out.symm, rfl⟩
    · rw [q2]
      clear q2
      subst q1
      go_enter Tryz.func74, Tryz.ntmps74
      go_wp2
      go_loop [5, 15] (fun fv iv => ∃ (k : Nat) (f : Int), k ≤ l.length ∧ iv = .int .i64 k ∧ fv = .int .i64 f ∧ 0 ≤ f ∧ f ≤ 9223372036854775807 ∧ placedB 0 0 l = placedB 0 f (l.drop k)) (fun _ iv => l.length - (intOf iv).toNat)
      case atStart => exact ⟨0, 0, Nat.zero_le _, rfl, rfl, by omega, by omega, rfl⟩
      case round =>
        obtain ⟨k, f, hk, rfl, rfl, f0, f1, hp⟩ := hrel
        have HP : Hid (placedB 0 0 l = placedB 0 f (l.drop k)) := hp
        clear hp
        by_cases hlt : k < l.length
        · obtain ⟨hin, h0 | ⟨b, off, rfl, hsz, hc⟩⟩ := I1.out
          · rw [h0] at hlt; simp at hlt
          have hcell := hc k hlt
          have hpb := AllI.at (show AllI l from hin) k
          obtain ⟨p, hp⟩ : ∃ p, l.getD k 0 = p := ⟨_, rfl⟩
          rw [hp] at hcell hpb
          have HPP : Hid (l.getD k 0 = p) := hp
          clear hp hc hin hsz
          by_cases hok : f ≤ p ∧ p ≤ 0 - 8 ∧ p % 8 = 0
          · obtain ⟨k1, k2, k3⟩ := hok
            exfalso; omega
          · have EQ : Hid (placedB 0 0 l = false) := by show _ = _; rw [HP.out, placed_no hlt HPP.out hok]
            clear HP
            rcases wrong_ways hok with h | ⟨h, h'⟩ | ⟨h, h', h8⟩
            case inr.inr => exfalso; omega
            all_goals
              clear hok
              go_wp2
              go_ret
              exact ⟨ret_bool EQ.out.symm, rfl⟩
        · have EQ : Hid (placedB 0 0 l = true) := by show _ = _; rw [HP.out, placed_end 0 f l k (by omega)]
          clear HP
          go_wp2
          go_ret
          exact ⟨ret_bool EQ.out.symm, rfl⟩
    · rw [q2]
      clear q2
      go_enter Tryz.func74, Tryz.ntmps74
      go_wp2
      go_loop [5, 15] (fun fv iv => ∃ (k : Nat) (f : Int), k ≤ l.length ∧ iv = .int .i64 k ∧ fv = .int .i64 f ∧ 0 ≤ f ∧ f ≤ 9223372036854775807 ∧ placedB n 0 l = placedB n f (l.drop k)) (fun _ iv => l.length - (intOf iv).toNat)
      case atStart => exact ⟨0, 0, Nat.zero_le _, rfl, rfl, by omega, by omega, rfl⟩
      case round =>
        obtain ⟨k, f, hk, rfl, rfl, f0, f1, hp⟩ := hrel
        have HP : Hid (placedB n 0 l = placedB n f (l.drop k)) := hp
        clear hp
        by_cases hlt : k < l.length
        · obtain ⟨hin, h0 | ⟨b, off, rfl, hsz, hc⟩⟩ := I1.out
          · rw [h0] at hlt; simp at hlt
          have hcell := hc k hlt
          have hpb := AllI.at (show AllI l from hin) k
          obtain ⟨p, hp⟩ : ∃ p, l.getD k 0 = p := ⟨_, rfl⟩
          rw [hp] at hcell hpb
          have HPP : Hid (l.getD k 0 = p) := hp
          clear hp hc hin hsz
          by_cases hok : f ≤ p ∧ p ≤ n - 8 ∧ p % 8 = 0
          · obtain ⟨k1, k2, k3⟩ := hok
            have EQ : Hid (placedB n 0 l = placedB n (p + 8) (l.drop (k + 1))) := by show _ = _; rw [HP.out, placed_ok hlt HPP.out k1 k2 k3]
            clear HP
            go_wp2
            go_round
            case rel => exact ⟨k + 1, p + 8, by omega, by go_num, rfl, by omega, by omega, EQ.out⟩
            case measure => simp [intOf]; omega
          · have EQ : Hid (placedB n 0 l = false) := by show _ = _; rw [HP.out, placed_no hlt HPP.out hok]
            clear HP
            rcases wrong_ways hok with h | ⟨h, h'⟩ | ⟨h, h', h8⟩
            all_goals
              clear hok
              go_wp2
              go_ret
              exact ⟨ret_bool EQ.out.symm, rfl⟩
        · have EQ : Hid (placedB n 0 l = true) := by show _ = _; rw [HP.out, placed_end n f l k (by omega)]
          clear HP
          go_wp2
          go_ret
          exact ⟨ret_bool EQ.out.symm, rfl⟩

/-- Right, told apart. -/
theorem oright_is (a : Option Addr) (c m : Nat) (l : List Int) (n : Int) (v : Bool) (w : World) (hm' : m = l.length) (hv : rrightT n l = v) (hI : IsI w a l) (hm : l.length ≤ maxLen) (hn : -9223372036854775808 ≤ n ∧ n ≤ 9223372036854775807) :
    Calls Tryz.prog 74 #[.slice a m c, .int .i64 n] w fun e w' => e = .returned (.bool v) ∧ w = w' := by
  subst hm' hv; exact oright_any a c l n w hI hm hn
end Go.Proofs.YtbfamjnnlcopiaaGreatDoor
