/- Plain mathematics of AuditLost: slots lie apart, a row that is taken out, a field that leads between objects. -/
import Derived.Test.YtebmegghojiegaaDoorBbM
import Derived.Test.YtebmegghojiegaaDoorGsJ
namespace Go.Proofs.YtebmegghojiegaaDoor
open Go.RowKit
set_option linter.unusedVariables false

theorem getL_putL (k : Nat) : ∀ n : Int, 0 ≤ n → getL (putL k n) = n % 256 ^ k := by
  induction k with
  | zero => intro n h; simp [putL, getL]
  | succ k ih =>
    intro n h
    simp only [putL, getL]
    rw [ih (n / 256) (by omega), Int.pow_succ, Int.mul_comm _ (256 : Int)]
    have hp : (0 : Int) < 256 ^ k := Int.pow_pos (by decide)
    rw [Int.emod_def (n / 256), Int.emod_def n (256 * 256 ^ k), ← Int.ediv_ediv_of_nonneg (by omega)]
    generalize n / 256 / 256 ^ k = q
    rw [Int.mul_sub, Int.mul_assoc 256]
    omega

theorem getL_putL8 (n : Int) (h : 0 ≤ n) (h1 : n ≤ 18446744073709551615) : getL (putL 8 n) = n := by
  rw [getL_putL 8 n h, show (256 : Int) ^ 8 = 18446744073709551616 from by decide]
  omega
/-- A slot that is told. -/
structure SlotAt (V : Vw) (x : Int) (j : Nat) (k : Int) : Prop where
  jl : j < V.ts.length
  kl : k ∈ (tdD V.ts j).l
  at' : atS (tdD V.ts j) k = x
def szT (V : Vw) (j : Nat) : Int := szI (tdD V.ts j).c (tdD V.ts j).s
theorem slot_some {V : Vw} {x z : Int} (hs : slotB V.ts x z = true) : ∃ j k, SlotAt V x j k ∧ fitS (tdD V.ts j) z = true := by
  unfold slotB at hs
  obtain ⟨t, ht, hh⟩ := List.any_eq_true.1 hs
  obtain ⟨j, hj, rfl⟩ := List.getElem_of_mem ht
  rw [← tdD_at hj] at hh
  rw [Bool.and_eq_true, List.any_eq_true] at hh
  obtain ⟨h1, k, hk, h2⟩ := hh
  exact ⟨j, k, ⟨hj, hk, of_decide_eq_true h2⟩, h1⟩
theorem SlotAt.facts {V : Vw} {q : Nat} (h : Hold V q) (hq : 3 ≤ q) {x : Int} {j : Nat} {k : Int} (a : SlotAt V x j k) : 0 ≤ k ∧ 256 * (tdD V.ts j).p ≤ x ∧ x + szT V j ≤ 256 * ((tdD V.ts j).p + (pgsN (tdD V.ts j).c (tdD V.ts j).s : Int)) ∧ 16 ≤ szT V j ∧ x = 256 * (tdD V.ts j).p + k * szT V j := by
  obtain ⟨hr, hpe⟩ := h.right hq j a.jl
  obtain ⟨k0, k1, k2, _, p0⟩ := right_at hr a.kl
  have rt := newE_rt hr.1
  obtain ⟨f1, f2, f3, f4, f5, f6, f7, f8, f9, f10, f11⟩ := rt.facts
  have hx := a.at'
  unfold atS at hx
  unfold szT
  have n0 : 0 ≤ k * szI (tdD V.ts j).c (tdD V.ts j).s := Int.mul_nonneg (by omega) (by omega)
  have m : (k + 1) * szI (tdD V.ts j).c (tdD V.ts j).s ≤ (slN (tdD V.ts j).c : Int) * szI (tdD V.ts j).c (tdD V.ts j).s := Int.mul_le_mul_of_nonneg_right (by omega) (by omega)
  rw [Int.add_mul, Int.one_mul] at m
  exact ⟨k0, by omega, by omega, by omega, hx.symm⟩
theorem SlotAt.fits {V : Vw} {q : Nat} (h : Hold V q) (hq : 3 ≤ q) {x z : Int} {j : Nat} {k : Int} (a : SlotAt V x j k) (hf : fitS (tdD V.ts j) z = true) : z ≤ szT V j := by
  obtain ⟨hr, hpe⟩ := h.right hq j a.jl
  have rt := newE_rt hr.1
  have hf := of_decide_eq_true hf
  unfold szT szI
  by_cases c7 : (tdD V.ts j).c = 7
  · rw [if_pos c7, hf.2 c7]; exact Int.le_refl _
  · rw [if_neg c7, hf.1]
    exact ofI_fits (by rw [← hf.1]; exact rt.c0) (by rw [← hf.1]; have := rt.c7; omega)
/-- Slots lie apart. -/
theorem SlotAt.apart {V : Vw} {q : Nat} (h : Hold V q) (hq : 3 ≤ q) {x y : Int} {j j' : Nat} {k k' : Int} (a : SlotAt V x j k) (b : SlotAt V y j' k') (hne : x ≠ y) : x + szT V j ≤ y ∨ y + szT V j' ≤ x := by
  obtain ⟨a1, a2, a3, a4, a5⟩ := a.facts h hq
  obtain ⟨b1, b2, b3, b4, b5⟩ := b.facts h hq
  rcases Nat.lt_trichotomy j j' with e | rfl | e
  · have := std_rise (h.std hq) j' b.jl j e
    left; omega
  · rcases Int.lt_trichotomy k k' with e | rfl | e
    · left
      have m : (k + 1) * szT V j ≤ k' * szT V j := Int.mul_le_mul_of_nonneg_right (by omega) (by omega)
      rw [Int.add_mul, Int.one_mul] at m
      omega
    · exact absurd (a5.trans b5.symm) hne
    · right
      have m : (k' + 1) * szT V j ≤ k * szT V j := Int.mul_le_mul_of_nonneg_right (by omega) (by omega)
      rw [Int.add_mul, Int.one_mul] at m
      omega
  · have := std_rise (h.std hq) j a.jl j' e
    right; omega
theorem Hold.slot {V : Vw} {q : Nat} (h : Hold V q) (hq : 4 ≤ q) (i : Nat) (hi : i < V.rs.length) (hl : (rwD V.rs i).live = true) : ∃ j k, SlotAt V (rwD V.rs i).pl j k ∧ (zOf V i : Int) ≤ szT V j := by
  obtain ⟨_, _, _, _, hs⟩ := h.live hq i hi hl
  obtain ⟨j, k, a, f⟩ := slot_some hs
  have := a.fits h (by omega) f
  rw [(h.obj hq i hi hl).zs] at this
  exact ⟨j, k, a, this⟩
/-- Of live rows no two tell one place. -/
theorem Hold.alone {V : Vw} {q : Nat} (h : Hold V q) (hq : 5 ≤ q) {a b : Nat} (ha : a < V.rs.length) (hb : b < V.rs.length) (la : (rwD V.rs a).live = true) (lb : (rwD V.rs b).live = true) (e : (rwD V.rs a).pl = (rwD V.rs b).pl) : a = b := by
  have h5 : ∀ i, i < V.rs.length → (rwD V.rs i).live = true → ownI V.rs (rwD V.rs i).pl = some i := fun i hi hl => by
    have q : rule5 V i = true := h 4 (by omega) i hi
    unfold rule5 at q
    rw [hl] at q
    simpa using q
  have q1 := h5 a ha la
  have q2 := h5 b hb lb
  rw [e] at q1
  rw [q1] at q2
  exact Option.some.inj q2
theorem over_get {l b : List Int} {o k : Nat} (h : o + b.length ≤ l.length) (hk : k < o ∨ o + b.length ≤ k) : (overR l o b)[k]? = l[k]? := by
  unfold overR
  have e1 : (l.take o).length = o := by rw [List.length_take]; omega
  rcases hk with hk | hk
  · rw [List.append_assoc, List.getElem?_append_left (by omega), List.getElem?_take_of_lt hk]
  · have e2 : (l.take o ++ b).length = o + b.length := by rw [List.length_append, e1]
    rw [List.getElem?_append_right (by omega), e2, List.getElem?_drop]
    congr 1; omega
theorem wordV_else {bs b : List Int} {o : Nat} {x : Int} (h : o + b.length ≤ bs.length) (hx : 0 ≤ x) (hk : x + 8 ≤ o ∨ (o : Int) + b.length ≤ x) : wordV (overR bs o b) x = wordV bs x := by
  unfold wordV
  congr 1
  apply List.ext_getElem?
  intro m
  rw [List.getElem?_take, List.getElem?_take]
  split
  · rw [List.getElem?_drop, List.getElem?_drop, over_get h (by omega)]
  · rfl
theorem word_self {bs : List Int} {o : Nat} {W : Int} (h : o + 8 ≤ bs.length) (h0 : 0 ≤ W) (h1 : W ≤ 18446744073709551615) : wordV (overR bs o (putL 8 W)) (o : Int) = W := by
  unfold wordV overR
  have e1 : (bs.take o).length = o := by rw [List.length_take]; omega
  rw [Int.toNat_natCast, List.append_assoc, List.drop_append_of_le_length (by omega), List.drop_of_length_le (by omega), List.nil_append, List.take_append_of_le_length (by rw [putL_len]; exact Nat.le_refl _), List.take_of_length_le (by rw [putL_len]; exact Nat.le_refl _)]
  exact getL_putL8 W h0 h1
theorem ChkR.at {V : Vw} {r x : Int} (h : ChkR V r x) {j : Nat} (hj : j < 7) (hh : Hold V j) {i : Nat} (hi : i < ruN V j) (hf : ruF V j i = false) : r = (j : Int) + 1 ∧ ∃ m : Nat, x = (m : Int) ∧ m < ruN V j ∧ ruF V j m = false ∧ ∀ k, k < m → ruF V j k = true := by
  rcases h with ⟨_, _, h⟩ | ⟨j', i', h1, h2, rfl, rfl, h3, h4, h5⟩
  · rw [h j hj i hi] at hf; cases hf
  · rcases Nat.lt_trichotomy j' j with e | rfl | e
    · rw [hh j' e i' h2] at h3; cases h3
    · exact ⟨rfl, i', rfl, h2, h3, h4⟩
    · rw [h5 j e i hi] at hf; cases hf
theorem rwD_set {rs : List HRw} {i j : Nat} {r : HRw} (hi : i < rs.length) : rwD (rs.set i r) j = if j = i then r else rwD rs j := by
  unfold rwD
  simp only [List.getD_eq_getElem?_getD, List.getElem?_set]
  by_cases e : j = i
  · subst e; simp [hi]
  · rw [if_neg (fun h => e h.symm), if_neg e]
/-- A row taken out. -/
def outV (V : Vw) (i : Nat) : Vw := ⟨V.base, V.pgs, V.ks, V.rs.set i ⟨(rwD V.rs i).gen, false, 0, 0⟩, V.ts, V.bs⟩
theorem lost_row {V : Vw} (h : Hold V 7) {i : Nat} (hi : i < V.rs.length) (hl : (rwD V.rs i).live = true) {r x : Int} (hc : ChkR (outV V i) r x) : r = 6 := by
  have rd : ∀ j, rwD (outV V i).rs j = if j = i then ⟨(rwD V.rs i).gen, false, 0, 0⟩ else rwD V.rs j := fun j => rwD_set hi
  have ll : (outV V i).rs.length = V.rs.length := by show (V.rs.set _ _).length = _; simp
  obtain ⟨m1, m2, m3, m4, m5⟩ := h.live (by decide) i hi hl
  have hh : Hold (outV V i) 5 := by
    intro k hk j hj
    match k, hk with
    | 0, _ =>
      have := h.r1 (by decide)
      show rule1 _ = true
      unfold rule1
      rw [ll]
      exact decide_eq_true this
    | 1, _ => exact h 1 (by decide) j hj
    | 2, _ => exact h 2 (by decide) j hj
    | 3, _ =>
      have hj' : j < V.rs.length := by have : j < (outV V i).rs.length := hj; omega
      show rule4 _ j = true
      unfold rule4
      rw [rd j, ll]
      by_cases e : j = i
      · subst e
        simp only [if_pos]
        rw [decide_eq_true (show 0 ≤ (rwD V.rs j).gen ∧ (rwD V.rs j).gen ≤ 65535 by omega)]
        simp
        omega
      · rw [if_neg e]
        exact h 3 (by decide) j hj'
    | 4, _ =>
      have hj' : j < V.rs.length := by have : j < (outV V i).rs.length := hj; omega
      show rule5 _ j = true
      unfold rule5
      rw [rd j]
      by_cases e : j = i
      · subst e; simp
      · rw [if_neg e]
        have q : rule5 V j = true := h 4 (by decide) j hj'
        unfold rule5 at q
        cases lv : (rwD V.rs j).live with
        | false => rfl
        | true =>
          rw [lv] at q
          have q : ownI V.rs (rwD V.rs j).pl = some j := by simpa using q
          obtain ⟨_, q1, q2, q3⟩ := own_some q
          have : ownI (outV V i).rs (rwD V.rs j).pl = some j := own_is (by omega) (by rw [rd j, if_neg e]; exact q1) (by rw [rd j, if_neg e]) (fun a ha hh => by
            rw [rd a] at hh
            by_cases ea : a = i
            · rw [if_pos ea] at hh; cases hh.1
            · rw [if_neg ea] at hh; exact q3 a ha hh)
          rw [this]; simp
  obtain ⟨j, k, sa, _⟩ := h.slot (by decide) i hi hl
  have no : ownI (outV V i).rs (rwD V.rs i).pl = none := by
    cases e : ownI (outV V i).rs (rwD V.rs i).pl with
    | none => rfl
    | some a =>
      obtain ⟨q0, q1, q2, _⟩ := own_some e
      rw [rd a] at q1 q2
      by_cases ea : a = i
      · rw [if_pos ea] at q1; cases q1
      · rw [if_neg ea] at q1 q2
        exact absurd (h.alone (by decide) (by omega) hi q1 hl q2) ea
  have hf : ruF (outV V i) 5 j = false := by
    show rule6 _ j = false
    unfold rule6
    rw [List.all_eq_false]
    exact ⟨k, sa.kl, by rw [show atS (tdD (outV V i).ts j) k = (rwD V.rs i).pl from sa.at', no]; simp⟩
  have := (hc.at (by decide) hh (i := j) sa.jl hf).1
  omega
/-- Bytes put in the place of others. -/
def byV (V : Vw) (bs : List Int) : Vw := ⟨V.base, V.pgs, V.ks, V.rs, V.ts, bs⟩
theorem byV_hold {V : Vw} {q : Nat} (h : Hold V q) (hq : 6 ≤ q) {bs : List Int} (hl : bs.length = V.bs.length) : Hold (byV V bs) 6 := by
  intro k hk j hj
  match k, hk with
  | 0, _ =>
    have := h.r1 (by omega)
    show rule1 _ = true
    unfold rule1
    rw [show (byV V bs).bs.length = V.bs.length from hl]
    exact decide_eq_true this
  | 1, _ => exact h 1 (by omega) j hj
  | 2, _ => exact h 2 (by omega) j hj
  | 3, _ => exact h 3 (by omega) j hj
  | 4, _ => exact h 4 (by omega) j hj
  | 5, _ => exact h 5 (by omega) j hj
/-- A field that leads between objects. -/
theorem lost_field {V : Vw} (h : Hold V 7) {i : Nat} (hi : i < V.rs.length) (hl : (rwD V.rs i).live = true) {p m : Int} (hp : p ∈ psOf V i) (h1 : 1 ≤ m) (h2 : m ≤ 15) {r x : Int} (hc : ChkR (byV V (overR V.bs ((rwD V.rs i).pl + p).toNat (putL 8 (V.base + (rwD V.rs i).pl + m)))) r x) : r = 7 ∧ x = (i : Int) := by
  have O := h.obj (by decide) i hi hl
  obtain ⟨p0, p1⟩ := O.ps p hp
  have x0 := O.pl
  have fit := O.fit
  obtain ⟨o, ho⟩ : ∃ o, ((rwD V.rs i).pl + p).toNat = o := ⟨_, rfl⟩
  have ho' : (o : Int) = (rwD V.rs i).pl + p := by omega
  rw [ho] at hc
  have g := (h.r1 (by decide)).2.2.1
  have bl := (h.r1 (by decide)).2.2.2.1
  have pg := (h.r1 (by decide)).2.1
  unfold goodR at g
  have of : o + (putL 8 (V.base + (rwD V.rs i).pl + m)).length ≤ V.bs.length := by rw [putL_len]; omega
  have hh := byV_hold h (Nat.le_succ 6) (bs := overR V.bs o (putL 8 (V.base + (rwD V.rs i).pl + m))) (over_len of)
  obtain ⟨j, k, sa, _⟩ := h.slot (by decide) i hi hl
  obtain ⟨_, _, _, s16, _⟩ := sa.facts h (by decide)
  have ld : ∀ y, leads (byV V (overR V.bs o (putL 8 (V.base + (rwD V.rs i).pl + m)))) y = leads V y := fun y => rfl
  have no : ownI V.rs ((rwD V.rs i).pl + m) = none := by
    cases e : ownI V.rs ((rwD V.rs i).pl + m) with
    | none => rfl
    | some a =>
      obtain ⟨q0, q1, q2, _⟩ := own_some e
      obtain ⟨ja, ka, sb, _⟩ := h.slot (by decide) a q0 q1
      obtain ⟨_, _, _, t16, _⟩ := sb.facts h (by decide)
      have := sa.apart h (by decide) sb (by omega)
      omega
  have w7 : wordV (overR V.bs o (putL 8 (V.base + (rwD V.rs i).pl + m))) ((rwD V.rs i).pl + p) = V.base + (rwD V.rs i).pl + m := by
    rw [← ho']; exact word_self (by rw [putL_len] at of; exact of) (by omega) (by omega)
  have hf : ruF (byV V (overR V.bs o (putL 8 (V.base + (rwD V.rs i).pl + m)))) 6 i = false := by
    show rule7 _ i = false
    unfold rule7
    rw [show (byV V (overR V.bs o (putL 8 (V.base + (rwD V.rs i).pl + m)))).rs = V.rs from rfl, hl]
    have : ((knD V.ks (rwD V.rs i).kind.toNat).l.all fun p => leads V (wordV (overR V.bs o (putL 8 (V.base + (rwD V.rs i).pl + m))) ((rwD V.rs i).pl + p))) = false := by
      rw [List.all_eq_false]
      refine ⟨p, hp, ?_⟩
      rw [w7]
      unfold leads
      rw [show V.base + (rwD V.rs i).pl + m - V.base = (rwD V.rs i).pl + m by omega, no, decide_eq_false (by omega)]
      decide
    exact this
  obtain ⟨e1, a, rfl, ha, hfa, hk⟩ := hc.at (by decide) hh (i := i) hi hf
  refine ⟨by omega, ?_⟩
  have ha' : a < V.rs.length := ha
  rcases Nat.lt_trichotomy a i with e | rfl | e
  · exfalso
    have q : rule7 V a = true := h 6 (by decide) a ha'
    have hfa : rule7 (byV V (overR V.bs o (putL 8 (V.base + (rwD V.rs i).pl + m)))) a = false := hfa
    unfold rule7 at q hfa
    rw [show (byV V (overR V.bs o (putL 8 (V.base + (rwD V.rs i).pl + m)))).rs = V.rs from rfl] at hfa
    cases lv : (rwD V.rs a).live with
    | false => rw [lv] at hfa; cases hfa
    | true =>
      rw [lv] at q hfa
      have q : ((knD V.ks (rwD V.rs a).kind.toNat).l.all fun p => leads V (wordV V.bs ((rwD V.rs a).pl + p))) = true := q
      have hfa : ((knD V.ks (rwD V.rs a).kind.toNat).l.all fun p => leads V (wordV (overR V.bs o (putL 8 (V.base + (rwD V.rs i).pl + m))) ((rwD V.rs a).pl + p))) = false := hfa
      obtain ⟨p', hp', hn⟩ := List.all_eq_false.1 hfa
      have OA := h.obj (by decide) a ha' lv
      obtain ⟨p2, p3⟩ := OA.ps p' hp'
      have xa := OA.pl
      obtain ⟨ja, ka, sb, zb⟩ := h.slot (by decide) a ha' lv
      obtain ⟨jb, kb, sc, zc⟩ := h.slot (by decide) i hi hl
      have ap := sc.apart h (by decide) sb (fun e' => absurd (h.alone (by decide) hi ha' hl lv e') (by omega))
      rw [wordV_else of (by omega) (by rw [putL_len]; omega)] at hn
      exact hn (List.all_eq_true.1 q p' hp')
  · rfl
  · exfalso
    rw [hk i e] at hf
    cases hf
end Go.Proofs.YtebmegghojiegaaDoor
