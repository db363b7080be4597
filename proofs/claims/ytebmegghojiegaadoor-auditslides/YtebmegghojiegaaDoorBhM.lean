/- Plain mathematics of AuditMoves: pointer fields turned to another base. -/
import Derived.Test.YtebmegghojiegaaDoorBeM
import Derived.Test.YtebmegghojiegaaDoorAvG
namespace Go.Proofs.YtebmegghojiegaaDoor
open Go.RowKit
set_option linter.unusedVariables false

/-- An address at another base. -/
def mvW (V : Vw) (B : Int) (x : Int) : Int := if x = 0 then 0 else x - V.base + B
/-- The fields at these places turned. -/
def mvS (V : Vw) (B : Int) (b : List Int) (x : Int) : List Int := if wordV V.bs x = 0 then b else overR b x.toNat (putL 8 (wordV V.bs x - V.base + B))
def mvL (V : Vw) (B : Int) (l : List Int) (b : List Int) : List Int := l.foldl (mvS V B) b
/-- A field that may be turned. -/
structure FdO (V : Vw) (B : Int) (n : Nat) (x : Int) : Prop where
  x0 : 0 ≤ x
  x1 : x + 8 ≤ (n : Int)
  wd : wordV V.bs x = 0 ∨ (0 ≤ wordV V.bs x - V.base + B ∧ wordV V.bs x - V.base + B ≤ 18446744073709551615)
theorem mvS_len {V : Vw} {B : Int} {b : List Int} {x : Int} (h : FdO V B b.length x) : (mvS V B b x).length = b.length := by
  unfold mvS
  split
  · rfl
  · exact over_len (by rw [putL_len]; have := h.x0; have := h.x1; omega)
theorem mvS_get {V : Vw} {B : Int} {b : List Int} {x : Int} (h : FdO V B b.length x) {k : Nat} (hk : (k : Int) < x ∨ x + 8 ≤ (k : Int)) : (mvS V B b x)[k]? = b[k]? := by
  unfold mvS
  split
  · rfl
  · exact over_get (by rw [putL_len]; have := h.x0; have := h.x1; omega) (by rw [putL_len]; have := h.x0; omega)
theorem mvS_else {V : Vw} {B : Int} {b : List Int} {x y : Int} (h : FdO V B b.length x) (hy : 0 ≤ y) (hk : y + 8 ≤ x ∨ x + 8 ≤ y) : wordV (mvS V B b x) y = wordV b y := by
  unfold mvS
  split
  · rfl
  · exact wordV_else (by rw [putL_len]; have := h.x0; have := h.x1; omega) hy (by rw [putL_len]; have := h.x0; omega)
theorem mvS_self {V : Vw} {B : Int} {b : List Int} {x : Int} (h : FdO V B b.length x) (hw : wordV b x = wordV V.bs x) : wordV (mvS V B b x) x = mvW V B (wordV V.bs x) := by
  unfold mvS mvW
  have x0 := h.x0
  have x1 := h.x1
  split
  · rename_i e; rw [hw, e]
  · rename_i e
    obtain ⟨o, rfl⟩ : ∃ o : Nat, x = (o : Int) := ⟨x.toNat, by omega⟩
    rcases h.wd with q | q
    · exact absurd q e
    · exact word_self (by simp; omega) q.1 q.2
theorem mvL_snoc (V : Vw) (B : Int) (l b : List Int) (x : Int) : mvL V B (l ++ [x]) b = mvS V B (mvL V B l b) x := by
  unfold mvL; rw [List.foldl_append]; rfl
theorem mvL_len {V : Vw} {B : Int} : ∀ (l b : List Int), (∀ x ∈ l, FdO V B b.length x) → (mvL V B l b).length = b.length
  | [], b, _ => rfl
  | x :: l, b, h => by
    have hx := h x List.mem_cons_self
    have e := mvS_len hx
    show (mvL V B l (mvS V B b x)).length = _
    rw [mvL_len l _ (fun y hy => by rw [e]; exact h y (List.mem_cons_of_mem _ hy)), e]
theorem mvS_all {V : Vw} {B : Int} {b : List Int} {x : Int} (h : AllB b) : AllB (mvS V B b x) := by
  unfold mvS
  split
  · exact h
  · exact over_all h (putL_byte _ _)
theorem mvL_all {V : Vw} {B : Int} : ∀ (l b : List Int), AllB b → AllB (mvL V B l b)
  | [], b, h => h
  | x :: l, b, h => mvL_all l _ (mvS_all h)
theorem mvL_get {V : Vw} {B : Int} : ∀ (l b : List Int), (∀ x ∈ l, FdO V B b.length x) → ∀ k : Nat, (∀ x ∈ l, (k : Int) < x ∨ x + 8 ≤ (k : Int)) → (mvL V B l b)[k]? = b[k]?
  | [], b, _, k, _ => rfl
  | x :: l, b, h, k, hk => by
    have hx := h x List.mem_cons_self
    show (mvL V B l (mvS V B b x))[k]? = _
    rw [mvL_get l _ (fun y hy => by rw [mvS_len hx]; exact h y (List.mem_cons_of_mem _ hy)) k (fun y hy => hk y (List.mem_cons_of_mem _ hy)), mvS_get hx (hk x List.mem_cons_self)]
theorem mvL_else {V : Vw} {B : Int} : ∀ (l b : List Int), (∀ x ∈ l, FdO V B b.length x) → ∀ y : Int, 0 ≤ y → (∀ x ∈ l, y + 8 ≤ x ∨ x + 8 ≤ y) → wordV (mvL V B l b) y = wordV b y
  | [], b, _, y, _, _ => rfl
  | x :: l, b, h, y, h0, hk => by
    have hx := h x List.mem_cons_self
    show wordV (mvL V B l (mvS V B b x)) y = _
    rw [mvL_else l _ (fun z hz => by rw [mvS_len hx]; exact h z (List.mem_cons_of_mem _ hz)) y h0 (fun z hz => hk z (List.mem_cons_of_mem _ hz)), mvS_else hx h0 (hk x List.mem_cons_self)]
theorem mvL_word {V : Vw} {B : Int} : ∀ (l b : List Int), (∀ x ∈ l, FdO V B b.length x) → l.Pairwise (fun x y => x + 8 ≤ y ∨ y + 8 ≤ x) → (∀ x ∈ l, wordV b x = wordV V.bs x) → ∀ x ∈ l, wordV (mvL V B l b) x = mvW V B (wordV V.bs x)
  | [], b, _, _, _, x, hx => by cases hx
  | a :: l, b, h, hp, hw, x, hx => by
    have ha := h a List.mem_cons_self
    obtain ⟨p1, p2⟩ := List.pairwise_cons.1 hp
    have hl : ∀ z ∈ l, FdO V B (mvS V B b a).length z := fun z hz => by rw [mvS_len ha]; exact h z (List.mem_cons_of_mem _ hz)
    show wordV (mvL V B l (mvS V B b a)) x = _
    rcases List.mem_cons.1 hx with rfl | hx
    · rw [mvL_else l _ hl x ha.x0 (fun z hz => p1 z hz), mvS_self ha (hw x List.mem_cons_self)]
    · exact mvL_word l _ hl p2 (fun z hz => by rw [mvS_else ha (h z (List.mem_cons_of_mem _ hz)).x0 (by have := p1 z hz; omega)]; exact hw z (List.mem_cons_of_mem _ hz)) x hx
/-- Where the pointer fields of the first rows begin. -/
def fldR (V : Vw) (i : Nat) : List Int := (psOf V i).map (fun p => (rwD V.rs i).pl + p)
def fldU (V : Vw) : Nat → List Int
  | 0 => []
  | n + 1 => fldU V n ++ (if (rwD V.rs n).live = true then fldR V n else [])
theorem fldU_mem {V : Vw} {x : Int} : ∀ {n : Nat}, x ∈ fldU V n → ∃ i p, i < n ∧ (rwD V.rs i).live = true ∧ p ∈ psOf V i ∧ x = (rwD V.rs i).pl + p
  | n + 1, h => by
    unfold fldU at h
    rcases List.mem_append.1 h with h | h
    · obtain ⟨i, p, h1, h2⟩ := fldU_mem h
      exact ⟨i, p, by omega, h2⟩
    · by_cases hl : (rwD V.rs n).live = true
      · rw [if_pos hl] at h
        obtain ⟨p, hp, rfl⟩ := List.mem_map.1 h
        exact ⟨n, p, by omega, hl, hp, rfl⟩
      · rw [if_neg hl] at h; cases h
theorem fldU_in {V : Vw} {i : Nat} {p : Int} (hl : (rwD V.rs i).live = true) (hp : p ∈ psOf V i) : ∀ {n : Nat}, i < n → (rwD V.rs i).pl + p ∈ fldU V n
  | n + 1, h => by
    unfold fldU
    rcases Nat.lt_or_eq_of_le (Nat.le_of_lt_succ h) with e | rfl
    · exact List.mem_append_left _ (fldU_in hl hp e)
    · rw [if_pos hl]
      exact List.mem_append_right _ (List.mem_map.2 ⟨p, hp, rfl⟩)
/-- Objects of two live rows lie apart. -/
theorem Hold.objs_apart {V : Vw} {q : Nat} (h : Hold V q) (hq : 5 ≤ q) {i j : Nat} (hi : i < V.rs.length) (hj : j < V.rs.length) (li : (rwD V.rs i).live = true) (lj : (rwD V.rs j).live = true) (hne : i ≠ j) : (rwD V.rs i).pl + (zOf V i : Int) ≤ (rwD V.rs j).pl ∨ (rwD V.rs j).pl + (zOf V j : Int) ≤ (rwD V.rs i).pl := by
  obtain ⟨ja, ka, sa, za⟩ := h.slot (by omega) i hi li
  obtain ⟨jb, kb, sb, zb⟩ := h.slot (by omega) j hj lj
  have := sa.apart h (by omega) sb (fun e => hne (h.alone hq hi hj li lj e))
  omega
theorem fldU_apart {V : Vw} {q : Nat} (h : Hold V q) (hq : 5 ≤ q) : ∀ n, n ≤ V.rs.length → (fldU V n).Pairwise (fun x y => x + 8 ≤ y ∨ y + 8 ≤ x)
  | 0, _ => List.Pairwise.nil
  | n + 1, hn => by
    unfold fldU
    rw [List.pairwise_append]
    refine ⟨fldU_apart h hq n (by omega), ?_, fun x hx y hy => ?_⟩
    · by_cases hl : (rwD V.rs n).live = true
      · rw [if_pos hl]
        unfold fldR
        rw [List.pairwise_map]
        exact ((h.obj (by omega) n (by omega) hl).pw).imp (fun {a b} hab => .inl (by omega))
      · rw [if_neg hl]; exact List.Pairwise.nil
    · by_cases hl : (rwD V.rs n).live = true
      · rw [if_pos hl] at hy
        obtain ⟨p, hp, rfl⟩ := List.mem_map.1 hy
        obtain ⟨i, p', hi, li, hp', rfl⟩ := fldU_mem hx
        have := h.objs_apart hq (by omega) (by omega) li hl (show i ≠ n by omega)
        have := (h.obj (by omega) i (by omega) li).ps p' hp'
        have := (h.obj (by omega) n (by omega) hl).ps p hp
        omega
      · rw [if_neg hl] at hy; cases hy
/-- What a field of a sound view holds. -/
theorem Hold.word {V : Vw} (h : Hold V 7) {i : Nat} (hi : i < V.rs.length) (li : (rwD V.rs i).live = true) {p : Int} (hp : p ∈ psOf V i) : wordV V.bs ((rwD V.rs i).pl + p) = 0 ∨ ∃ j, ownI V.rs (wordV V.bs ((rwD V.rs i).pl + p) - V.base) = some j := by
  have q : rule7 V i = true := h 6 (by decide) i hi
  unfold rule7 at q
  rw [li] at q
  have q : ((knD V.ks (rwD V.rs i).kind.toNat).l.all fun p => leads V (wordV V.bs ((rwD V.rs i).pl + p))) = true := q
  have := List.all_eq_true.1 q p hp
  unfold leads at this
  rw [Bool.or_eq_true] at this
  rcases this with e | e
  · exact .inl (of_decide_eq_true e)
  · exact .inr (Option.isSome_iff_exists.1 e)
theorem Hold.word_in {V : Vw} (h : Hold V 7) {i : Nat} (hi : i < V.rs.length) (li : (rwD V.rs i).live = true) {p : Int} (hp : p ∈ psOf V i) : wordV V.bs ((rwD V.rs i).pl + p) = 0 ∨ (V.base ≤ wordV V.bs ((rwD V.rs i).pl + p) ∧ wordV V.bs ((rwD V.rs i).pl + p) - V.base < V.bs.length) := by
  rcases h.word hi li hp with e | ⟨j, e⟩
  · exact .inl e
  · refine .inr ?_
    by_cases hx : wordV V.bs ((rwD V.rs i).pl + p) - V.base < 0 ∨ (V.bs.length : Int) ≤ wordV V.bs ((rwD V.rs i).pl + p) - V.base
    · rw [own_far h (by decide) hx] at e; cases e
    · omega
theorem Hold.fds {V : Vw} (h : Hold V 7) {B : Int} (hB : 0 ≤ B) (hB2 : B ≤ 1099511627776) : ∀ x ∈ fldU V V.rs.length, FdO V B V.bs.length x := fun x hx => by
  obtain ⟨i, p, hi, li, hp, rfl⟩ := fldU_mem hx
  have O := h.obj (by decide) i hi li
  have := O.ps p hp
  have := O.pl
  have := O.fit
  have r := h.r1 (by decide)
  refine ⟨by omega, by omega, ?_⟩
  rcases h.word_in hi li hp with e | e
  · exact .inl e
  · exact .inr ⟨by omega, by omega⟩
theorem over_in {l b : List Int} {o k : Nat} (h : o + b.length ≤ l.length) (h1 : o ≤ k) (h2 : k < o + b.length) : (overR l o b)[k]? = b[k - o]? := by
  unfold overR
  have e1 : (l.take o).length = o := by rw [List.length_take]; omega
  rw [List.append_assoc, List.getElem?_append_right (by omega), e1, List.getElem?_append_left (by omega)]
theorem blank_agree : ∀ (l b b' : List Int), b.length = b'.length → (∀ q ∈ l, 0 ≤ q ∧ q + 8 ≤ (b.length : Int)) → (∀ k : Nat, (∀ q ∈ l, (k : Int) < q ∨ q + 8 ≤ (k : Int)) → b[k]? = b'[k]?) → blankB b l = blankB b' l
  | [], b, b', hl, _, h => List.ext_getElem? (fun k => h k (fun q hq => by cases hq))
  | q :: l, b, b', hl, hq, h => by
    have q1 := hq q List.mem_cons_self
    have e1 : (overR b q.toNat (List.replicate 8 0)).length = b.length := over_len (by simp; omega)
    have e2 : (overR b' q.toNat (List.replicate 8 0)).length = b'.length := over_len (by simp; omega)
    show blankB (overR b q.toNat (List.replicate 8 0)) l = blankB (overR b' q.toNat (List.replicate 8 0)) l
    refine blank_agree l _ _ (by rw [e1, e2, hl]) (fun x hx => by rw [e1]; exact hq x (List.mem_cons_of_mem _ hx)) (fun k hk => ?_)
    by_cases hin : (k : Int) < q ∨ q + 8 ≤ (k : Int)
    · rw [over_get (by simp; omega) (by simp; omega), over_get (by simp; omega) (by simp; omega)]
      exact h k (fun x hx => by rcases List.mem_cons.1 hx with rfl | hx; exact hin; exact hk x hx)
    · rw [over_in (by simp; omega) (by omega) (by simp; omega), over_in (by simp; omega) (by omega) (by simp; omega)]
/-- A view at another base. -/
def movV (V : Vw) (B : Int) : Vw := ⟨B, V.pgs, V.ks, V.rs, V.ts, mvL V B (fldU V V.rs.length) V.bs⟩
theorem moved_word {V : Vw} (h : Hold V 7) {B : Int} (hB : 0 ≤ B) (hB2 : B ≤ 1099511627776) {i : Nat} (hi : i < V.rs.length) (li : (rwD V.rs i).live = true) {p : Int} (hp : p ∈ psOf V i) : wordV (movV V B).bs ((rwD V.rs i).pl + p) = mvW V B (wordV V.bs ((rwD V.rs i).pl + p)) :=
  mvL_word _ _ (h.fds hB hB2) (fldU_apart h (by decide) _ (Nat.le_refl _)) (fun _ _ => rfl) _ (fldU_in li hp hi)
theorem moved_hold {V : Vw} (h : Hold V 7) {B : Int} (hg : goodR B) : Hold (movV V B) 7 := by
  have hB : 0 ≤ B ∧ B ≤ 1099511627776 := by unfold goodR at hg; omega
  have hl : (movV V B).bs.length = V.bs.length := mvL_len _ _ (h.fds hB.1 hB.2)
  intro k hk j hj
  match k, hk with
  | 0, _ =>
    have := h.r1 (by decide)
    show rule1 _ = true
    unfold rule1
    rw [hl]
    exact decide_eq_true ⟨this.1, this.2.1, hg, this.2.2.2⟩
  | 1, _ => exact h 1 (by decide) j hj
  | 2, _ => exact h 2 (by decide) j hj
  | 3, _ => exact h 3 (by decide) j hj
  | 4, _ => exact h 4 (by decide) j hj
  | 5, _ => exact h 5 (by decide) j hj
  | 6, _ =>
    have hj' : j < V.rs.length := hj
    show rule7 _ j = true
    unfold rule7
    rw [show (movV V B).rs = V.rs from rfl]
    cases lv : (rwD V.rs j).live with
    | false => rfl
    | true =>
      show ((knD V.ks (rwD V.rs j).kind.toNat).l.all fun p => leads (movV V B) (wordV (movV V B).bs ((rwD V.rs j).pl + p))) = true
      rw [List.all_eq_true]
      intro p hp
      rw [moved_word h hB.1 hB.2 hj' lv hp]
      unfold leads mvW
      rcases h.word hj' lv hp with e | ⟨a, e⟩
      · rw [e]; rfl
      · by_cases e0 : wordV V.bs ((rwD V.rs j).pl + p) = 0
        · rw [e0]; rfl
        · rw [if_neg e0, show (movV V B).rs = V.rs from rfl, show (movV V B).base = B from rfl, show wordV V.bs ((rwD V.rs j).pl + p) - V.base + B - B = wordV V.bs ((rwD V.rs j).pl + p) - V.base by omega, e]
          simp
theorem moved_obj {V : Vw} (h : Hold V 7) {B : Int} (hg : goodR B) {i : Nat} (hi : i < V.rs.length) (li : (rwD V.rs i).live = true) : objI (movV V B) i = objI V i := by
  have hB : 0 ≤ B ∧ B ≤ 1099511627776 := by unfold goodR at hg; omega
  have hl : (movV V B).bs.length = V.bs.length := mvL_len _ _ (h.fds hB.1 hB.2)
  have O := h.obj (by decide) i hi li
  have hgd := (h.r1 (by decide)).2.2.1
  have eb : blankB (b0Of (movV V B) i) (psOf V i) = blankB (b0Of V i) (psOf V i) := by
    have e0 : (b0Of (movV V B) i).length = zOf V i := by
      show (((movV V B).bs.drop (rwD V.rs i).pl.toNat).take (zOf V i)).length = _
      rw [List.length_take, List.length_drop, hl]
      have := O.fit
      omega
    refine blank_agree _ _ _ (by rw [e0, O.len]) (fun q hq => by rw [e0]; exact O.ps q hq) (fun k hk => ?_)
    show (((movV V B).bs.drop (rwD V.rs i).pl.toNat).take (zOf V i))[k]? = ((V.bs.drop (rwD V.rs i).pl.toNat).take (zOf V i))[k]?
    rw [List.getElem?_take, List.getElem?_take]
    split
    · rename_i hkz
      rw [List.getElem?_drop, List.getElem?_drop]
      refine mvL_get _ _ (h.fds hB.1 hB.2) _ (fun x hx => ?_)
      obtain ⟨j, p, hj, lj, hp, rfl⟩ := fldU_mem hx
      have x0 := O.pl
      by_cases e : j = i
      · subst e
        have := hk p hp
        omega
      · have := h.objs_apart (by decide) hi hj li lj (fun q => e q.symm)
        have := (h.obj (by decide) j hj lj).ps p hp
        have := (h.obj (by decide) j hj lj).pl
        omega
    · rfl
  have et : (psOf V i).map (toOf (movV V B) i) = (psOf V i).map (toOf V i) := by
    apply List.map_congr_left
    intro p hp
    show nameH (movV V B) (wordV (movV V B).bs ((rwD V.rs i).pl + p)) = nameH V (wordV V.bs ((rwD V.rs i).pl + p))
    rw [moved_word h hB.1 hB.2 hi li hp]
    unfold nameH mvW
    rw [show (movV V B).rs = V.rs from rfl, show (movV V B).base = B from rfl]
    by_cases e0 : wordV V.bs ((rwD V.rs i).pl + p) = 0
    · rw [if_pos e0, e0]
      unfold goodR at hgd hg
      rw [own_far h (by decide) (.inl (by omega)), own_far h (by decide) (.inl (by omega))]
    · rw [if_neg e0, show wordV V.bs ((rwD V.rs i).pl + p) - V.base + B - B = wordV V.bs ((rwD V.rs i).pl + p) - V.base by omega]
  show (⟨ofN ((i : Int) + 1) (rwD V.rs i).gen, (rwD V.rs i).kind, blankB (b0Of (movV V B) i) (psOf V i), (psOf V i).map (toOf (movV V B) i)⟩ : Ob) = ⟨ofN ((i : Int) + 1) (rwD V.rs i).gen, (rwD V.rs i).kind, blankB (b0Of V i) (psOf V i), (psOf V i).map (toOf V i)⟩
  rw [eb, et]
theorem moved_objs {V : Vw} (h : Hold V 7) {B : Int} (hg : goodR B) : objsV (movV V B) = objsV V := by
  unfold objsV
  rw [show (movV V B).rs.length = V.rs.length from rfl]
  have : ∀ n, n ≤ V.rs.length → objsU (movV V B) n = objsU V n := by
    intro n
    induction n with
    | zero => intro _; rfl
    | succ n ih =>
      intro hn
      unfold objsU
      rw [ih (by omega), show (rwD (movV V B).rs n) = rwD V.rs n from rfl]
      by_cases hl : (rwD V.rs n).live = true
      · rw [if_pos hl, if_pos hl, moved_obj h hg (by omega) hl]
      · rw [if_neg hl, if_neg hl]
  exact this _ (Nat.le_refl _)
end Go.Proofs.YtebmegghojiegaaDoor
