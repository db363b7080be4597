/- Plain mathematics of AuditSlides: which slot comes to which, and the bytes behind all moves. -/
import Derived.Test.YtebmegghojiegaaDoorBhM
import Derived.Test.YtebmegghojiegaaDoorGsO
namespace Go.Proofs.YtebmegghojiegaaDoor
open Go.RowKit
set_option linter.unusedVariables false

/-- A live slot of a class: where, and how many bytes. -/
def AtC (m : List Sn) (F : Nat → Nat → Bool) (c x z : Nat) : Prop := ∃ k, k < m.length ∧ (sn m k).cl = c ∧ (sn m k).z = z ∧ ∃ s, s < (sn m k).sl ∧ F k s = true ∧ x = (sn m k).at s
theorem obK_mem {m : List Sn} {F : Nat → Nat → Bool} {c x z : Nat} : ∀ n, n ≤ m.length → ((x, z) ∈ obK m F c n ↔ ∃ k, k < n ∧ (sn m k).cl = c ∧ (sn m k).z = z ∧ ∃ s, s < (sn m k).sl ∧ F k s = true ∧ x = (sn m k).at s)
  | 0, _ => by simp [obK]
  | n + 1, hn => by
    rw [obK, List.mem_append, obK_mem n (by omega)]
    constructor
    · rintro (⟨k, h1, h2⟩ | h)
      · exact ⟨k, by omega, h2⟩
      · by_cases e : (sn m n).cl = c
        · rw [if_pos e] at h
          unfold oneO at h
          obtain ⟨s, hs, e2⟩ := List.mem_map.1 h
          obtain ⟨s1, s2⟩ := (lsN_mem _ _ _).1 hs
          injection e2 with e3 e4
          exact ⟨n, by omega, e, e4, s, s1, s2, e3.symm⟩
        · rw [if_neg e] at h; cases h
    · rintro ⟨k, h1, h2, h3, s, s1, s2, s3⟩
      by_cases e : k = n
      · subst e
        right
        rw [if_pos h2]
        unfold oneO
        exact List.mem_map.2 ⟨s, (lsN_mem _ _ _).2 ⟨s1, s2⟩, by rw [← s3, h3]⟩
      · exact .inl ⟨k, by omega, h2, h3, s, s1, s2, s3⟩
theorem at_old {P : Nat} {m : List Sn} (h : Std P m) (F : Nat → Nat → Bool) {c x z : Nat} (hc : c ≤ 7) : AtC m F c x z ↔ ∃ j, SO m F c j ∧ frO m F c j = x ∧ zzO m F c j = z := by
  have e : obK m F c m.length = (List.range (fromL c m F).length).map (fun j => (frO m F c j, zzO m F c j)) := by
    have e1 := ob_old h F (c + 1) (by omega)
    rw [obP, idU, List.map_append, ob_old h F c (by omega)] at e1
    have := List.append_cancel_left e1
    rw [this, List.map_map]
    rfl
  unfold AtC
  rw [← obK_mem m.length (Nat.le_refl _), e, List.mem_map]
  constructor
  · rintro ⟨j, hj, e2⟩
    injection e2 with e3 e4
    exact ⟨j, ⟨hc, by simpa using hj⟩, e3, e4⟩
  · rintro ⟨j, hj, rfl, rfl⟩
    exact ⟨j, by simpa using hj.2, rfl⟩
theorem at_new {P : Nat} {m : List Sn} (h : Std P m) (F : Nat → Nat → Bool) (hI : InF m (clsF m F 7)) (hA : Std P (aftM m F)) {c x z : Nat} (hc : c ≤ 7) : AtC (aftM m F) (aftF m F) c x z ↔ ∃ j, SO m F c j ∧ fiO m F c j = x ∧ zzO m F c j = z := by
  have e : obK (aftM m F) (aftF m F) c (aftM m F).length = (List.range (fromL c m F).length).map (fun j => (fiO m F c j, zzO m F c j)) := by
    have e1 := ob_new h F hI hA (c + 1) (by omega)
    rw [obP, idU, List.map_append, ob_new h F hI hA c (by omega)] at e1
    have := List.append_cancel_left e1
    rw [this, List.map_map]
    rfl
  unfold AtC
  rw [← obK_mem (aftM m F).length (Nat.le_refl _), e, List.mem_map]
  constructor
  · rintro ⟨j, hj, e2⟩
    injection e2 with e3 e4
    exact ⟨j, ⟨hc, by simpa using hj⟩, e3, e4⟩
  · rintro ⟨j, hj, rfl, rfl⟩
    exact ⟨j, by simpa using hj.2, rfl⟩
/-- No two objects come to one place. -/
theorem fi_one {P : Nat} {m : List Sn} (h : Std P m) (F : Nat → Nat → Bool) {c j d i : Nat} (hs : SO m F c j) (ht : SO m F d i) (e : fiO m F c j = fiO m F d i) : c = d ∧ j = i := by
  classical
  have br := plan_br h F
  have dn := plan_dn h F
  let b : Nat → Nat × Nat := fun p => if q : ∃ x : Nat × Nat, SO m F x.1 x.2 ∧ frO m F x.1 x.2 ≤ p ∧ p < frO m F x.1 x.2 + zzO m F x.1 x.2 then q.choose else (0, 0)
  have hb : Hol (SO m F) (zzO m F) (fun c j _ => (c, j)) b (frO m F) := fun c j hs k hk => by
    have q : ∃ x : Nat × Nat, SO m F x.1 x.2 ∧ frO m F x.1 x.2 ≤ frO m F c j + k ∧ frO m F c j + k < frO m F x.1 x.2 + zzO m F x.1 x.2 := ⟨(c, j), hs, by show frO m F c j ≤ _; omega, by show _ < frO m F c j + zzO m F c j; omega⟩
    show (if q : ∃ x : Nat × Nat, SO m F x.1 x.2 ∧ frO m F x.1 x.2 ≤ frO m F c j + k ∧ frO m F c j + k < frO m F x.1 x.2 + zzO m F x.1 x.2 then q.choose else (0, 0)) = (c, j)
    rw [dif_pos q]
    obtain ⟨q1, q2, q3⟩ := q.choose_spec
    by_cases e : q.choose.1 = c ∧ q.choose.2 = j
    · exact Prod.ext e.1 e.2
    · have := fr_apart h F q1 hs e
      omega
  have H := br.holds (fun v hv => ⟨(dn v hv).1, by have := dn v hv; unfold Mv.Dn at this; omega⟩) hb
  have q1 := H c j hs 0 (by have := (obj_ok h F hs).pos; omega)
  have q2 := H d i ht 0 (by have := (obj_ok h F ht).pos; omega)
  rw [e] at q1
  rw [q1] at q2
  injection q2 with a b
  exact ⟨a, b⟩
/-- A move over bytes. -/
def mvBs (v : Mv) (l : List Int) : List Int := overR l v.to.toNat ((l.drop v.fr.toNat).take v.ln.toNat)
theorem mvBs_len {v : Mv} {l : List Int} (h : v.Dn l.length) : (mvBs v l).length = l.length := by
  unfold Mv.Dn at h
  exact over_len (by rw [List.length_take, List.length_drop]; omega)
theorem mvBs_all {v : Mv} {l : List Int} (h : AllB l) : AllB (mvBs v l) := over_all h ((h.drop _).take _)
theorem mvBs_get {v : Mv} {l : List Int} (h : v.Dn l.length) (p : Nat) : (mvBs v l)[p]? = mvB v (fun p => l[p]?) p := by
  unfold Mv.Dn at h
  have e : ((l.drop v.fr.toNat).take v.ln.toNat).length = v.ln.toNat := by rw [List.length_take, List.length_drop]; omega
  unfold mvB mvBs
  by_cases hp : v.to ≤ (p : Int) ∧ (p : Int) < v.to + v.ln
  · rw [if_pos hp, over_in (by rw [e]; omega) (by omega) (by rw [e]; omega), List.getElem?_take, if_pos (by omega), List.getElem?_drop]
    congr 1; omega
  · rw [if_neg hp, over_get (by rw [e]; omega) (by rw [e]; omega)]
def mvAll (V : List Mv) (l : List Int) : List Int := V.foldl (fun x v => mvBs v x) l
theorem mvAll_len : ∀ (V : List Mv) (l : List Int), (∀ v ∈ V, v.Dn l.length) → (mvAll V l).length = l.length
  | [], l, _ => rfl
  | v :: V, l, h => by
    have e := mvBs_len (h v List.mem_cons_self)
    show (mvAll V (mvBs v l)).length = _
    rw [mvAll_len V _ (fun u hu => by rw [e]; exact h u (List.mem_cons_of_mem _ hu)), e]
theorem mvAll_all : ∀ (V : List Mv) (l : List Int), AllB l → AllB (mvAll V l)
  | [], l, h => h
  | v :: V, l, h => mvAll_all V _ (mvBs_all h)
theorem mvAll_get : ∀ (V : List Mv) (l : List Int), (∀ v ∈ V, v.Dn l.length) → (fun p => (mvAll V l)[p]?) = V.foldl (fun x v => mvB v x) (fun p => l[p]?)
  | [], l, _ => rfl
  | v :: V, l, h => by
    have hv := h v List.mem_cons_self
    have e := mvBs_len hv
    show (fun p => (mvAll V (mvBs v l))[p]?) = V.foldl (fun x v => mvB v x) (mvB v (fun p => l[p]?))
    rw [mvAll_get V _ (fun u hu => by rw [e]; exact h u (List.mem_cons_of_mem _ hu))]
    congr 1
    funext p
    exact mvBs_get hv p
theorem mvAll_take (V : List Mv) (l : List Int) (k : Nat) (hk : k < V.length) : mvAll (V.take (k + 1)) l = mvBs V[k] (mvAll (V.take k) l) := by
  unfold mvAll
  rw [List.take_succ_eq_append_getElem hk, List.foldl_append]
  rfl
/-- What is in a slot comes along. -/
theorem mvAll_obj {P : Nat} {m : List Sn} (h : Std P m) (F : Nat → Nat → Bool) {l : List Int} (hl : l.length = 256 * P) {c j : Nat} (hs : SO m F c j) {k : Nat} (hk : k < zzO m F c j) : (mvAll (planV m F) l)[fiO m F c j + k]? = l[frO m F c j + k]? := by
  have dn := plan_dn h F
  rw [← hl] at dn
  have H := (plan_br h F).holds (α := Option Int) (T := fun c j k => l[frO m F c j + k]?) (x := fun p => l[p]?) (fun v hv => ⟨(dn v hv).1, by have := dn v hv; unfold Mv.Dn at this; omega⟩) (fun c j hs k hk => rfl) c j hs k hk
  rw [← mvAll_get _ _ dn] at H
  exact H
end Go.Proofs.YtebmegghojiegaaDoor

/- Plain mathematics of AuditSlides: a view whose objects have other places, the same bytes, and fields that lead to the new places. -/
namespace Go.Proofs.YtebmegghojiegaaDoor
open Go.RowKit
set_option linter.unusedVariables false

/-- Spans' numbers. -/
theorem nums_of {P : Nat} {ts : List Td} (h : stdB (P : Int) ts = true) {k : Nat} (hk : k < ts.length) : rightT (tdD ts k) ∧ ((sn (ts.map snT) k).pg : Int) = (tdD ts k).p ∧ ((sn (ts.map snT) k).cl : Int) = (tdD ts k).c ∧ ((sn (ts.map snT) k).bts : Int) = (tdD ts k).s := by
  unfold stdB at h
  rw [Bool.and_eq_true] at h
  have ok := of_decide_eq_true (stdU_ok h.2 hk)
  have r := newE_rt ok.1
  rw [sn_map hk]
  refine ⟨⟨ok.1, ok.2.1⟩, ?_, ?_, ?_⟩
  · show (((tdD ts k).p.toNat : Nat) : Int) = _; have := r.p0; omega
  · show (((tdD ts k).c.toNat : Nat) : Int) = _; have := r.c0; omega
  · show (((tdD ts k).s.toNat : Nat) : Int) = _
    by_cases e : (tdD ts k).c = 7
    · have f := r.facts.2.2.2.1
      unfold szI at f
      rw [if_pos e] at f
      omega
    · have := r.sm (by have := r.c7; omega); omega
theorem size_of {P : Nat} {V : Vw} (h : stdB (P : Int) V.ts = true) {k : Nat} (hk : k < V.ts.length) : ((sn (V.ts.map snT) k).z : Int) = szT V k ∧ 16 ≤ szT V k := by
  obtain ⟨hr, _, e2, e3⟩ := nums_of h hk
  obtain ⟨f1, f2, f3, f4, f5, f6, f7, f8, f9, f10, f11⟩ := (newE_rt hr.1).facts
  have e : szI ((sn (V.ts.map snT) k).cl : Int) ((sn (V.ts.map snT) k).bts : Int) = szT V k := by rw [e2, e3]; rfl
  unfold Sn.z
  rw [e]
  have : 16 ≤ szT V k := by unfold szT; omega
  omega
theorem sl_to {P : Nat} {V : Vw} (h : stdB (P : Int) V.ts = true) {x : Int} {j : Nat} {k : Int} (a : SlotAt V x j k) : ∃ xN : Nat, x = (xN : Int) ∧ (tdD V.ts j).c.toNat ≤ 7 ∧ AtC (V.ts.map snT) (FT V.ts) (tdD V.ts j).c.toNat xN (szT V j).toNat := by
  obtain ⟨hr, e1, e2, e3⟩ := nums_of h a.jl
  obtain ⟨z1, z2⟩ := size_of h a.jl
  obtain ⟨k0, k1, _⟩ := right_at hr a.kl
  have rt := newE_rt hr.1
  have hx := a.at'
  unfold atS at hx
  refine ⟨(sn (V.ts.map snT) j).at k.toNat, ?_, by have := rt.c7; omega, j, by rw [List.length_map]; exact a.jl, by omega, by omega, k.toNat, ?_, ?_, rfl⟩
  · unfold Sn.at
    rw [Int.natCast_add, Int.natCast_mul, Int.natCast_mul, z1, e1, Int.toNat_of_nonneg k0, ← hx]
    rfl
  · unfold Sn.sl; rw [e2]; omega
  · show fOf (tdD V.ts j).l k.toNat = true
    unfold fOf
    rw [Int.toNat_of_nonneg k0]
    exact decide_eq_true a.kl
theorem sl_of {P : Nat} {V : Vw} (h : stdB (P : Int) V.ts = true) {c x z : Nat} (a : AtC (V.ts.map snT) (FT V.ts) c x z) : ∃ j k, SlotAt V (x : Int) j k ∧ (tdD V.ts j).c = (c : Int) ∧ szT V j = (z : Int) := by
  obtain ⟨j, hj, h1, h2, s, s1, s2, s3⟩ := a
  rw [List.length_map] at hj
  obtain ⟨hr, e1, e2, e3⟩ := nums_of h hj
  obtain ⟨z1, z2⟩ := size_of h hj
  refine ⟨j, (s : Int), ⟨hj, of_decide_eq_true s2, ?_⟩, by omega, by omega⟩
  unfold atS
  show 256 * (tdD V.ts j).p + (s : Int) * szT V j = (x : Int)
  rw [s3]
  unfold Sn.at
  rw [Int.natCast_add, Int.natCast_mul, Int.natCast_mul, z1, e1]
  rfl

/-- A row at its new place; a field that leads to the new place. -/
def slRw (φ : Int → Int) (r : HRw) : HRw := if r.live = true then ⟨r.gen, r.live, r.kind, φ r.pl⟩ else r
def slW (V : Vw) (φ : Int → Int) (x : Int) : Int := if x = 0 then 0 else V.base + φ (x - V.base)
theorem slRw_live {φ : Int → Int} {r : HRw} : (slRw φ r).live = r.live := by unfold slRw; split <;> rfl
theorem slRw_gen {φ : Int → Int} {r : HRw} : (slRw φ r).gen = r.gen := by unfold slRw; split <;> rfl
theorem slRw_kind {φ : Int → Int} {r : HRw} : (slRw φ r).kind = r.kind := by unfold slRw; split <;> rfl
theorem slRw_pl {φ : Int → Int} {r : HRw} (h : r.live = true) : (slRw φ r).pl = φ r.pl := by unfold slRw; rw [if_pos h]
theorem slRw_dead {φ : Int → Int} {r : HRw} (h : r.live = false) : slRw φ r = r := by unfold slRw; rw [if_neg (by rw [h]; decide)]
/-- One view has become another. -/
structure Tr (V V' : Vw) (φ : Int → Int) : Prop where
  base : V'.base = V.base
  pgs : V'.pgs = V.pgs
  ks : V'.ks = V.ks
  rl : V'.rs.length = V.rs.length
  rw' : ∀ i, i < V.rs.length → rwD V'.rs i = slRw φ (rwD V.rs i)
  std : stdB V.pgs V'.ts = true
  to' : ∀ x j k, SlotAt V x j k → ∃ j' k', SlotAt V' (φ x) j' k' ∧ (tdD V'.ts j').c = (tdD V.ts j).c ∧ szT V' j' = szT V j
  from' : ∀ y j' k', SlotAt V' y j' k' → ∃ x j k, SlotAt V x j k ∧ φ x = y
  one : ∀ x j k y j' k', SlotAt V x j k → SlotAt V y j' k' → φ x = φ y → x = y
  bl : V'.bs.length = V.bs.length
  bytes : ∀ i, i < V.rs.length → (rwD V.rs i).live = true → ∀ k : Nat, k < zOf V i → (∀ p ∈ psOf V i, (k : Int) < p ∨ p + 8 ≤ (k : Int)) → V'.bs[(φ (rwD V.rs i).pl).toNat + k]? = V.bs[(rwD V.rs i).pl.toNat + k]?
  word : ∀ i, i < V.rs.length → (rwD V.rs i).live = true → ∀ p ∈ psOf V i, wordV V'.bs (φ (rwD V.rs i).pl + p) = slW V φ (wordV V.bs ((rwD V.rs i).pl + p))
theorem Tr.own {V V' : Vw} {φ : Int → Int} (t : Tr V V' φ) (h : Hold V 7) {x : Int} {i : Nat} (ho : ownI V.rs x = some i) : ownI V'.rs (φ x) = some i := by
  obtain ⟨h1, h2, h3, h4⟩ := own_some ho
  refine own_is (by rw [t.rl]; exact h1) (by rw [t.rw' i h1, slRw_live]; exact h2) (by rw [t.rw' i h1, slRw_pl h2, h3]) (fun j hj q => ?_)
  rw [t.rw' j (by omega), slRw_live] at q
  rw [slRw_pl q.1] at q
  obtain ⟨a, b, sa, _⟩ := h.slot (by decide) j (by omega) q.1
  obtain ⟨a', b', sb, _⟩ := h.slot (by decide) i h1 h2
  rw [h3] at sb
  exact h4 j hj ⟨q.1, t.one _ _ _ _ _ _ sa sb q.2⟩
theorem slot_is {V : Vw} {x z : Int} {j : Nat} {k : Int} (a : SlotAt V x j k) (hf : fitS (tdD V.ts j) z = true) : slotB V.ts x z = true := by
  unfold slotB
  refine List.any_eq_true.2 ⟨tdD V.ts j, by rw [tdD_at a.jl]; exact List.getElem_mem a.jl, ?_⟩
  rw [hf, Bool.true_and, List.any_eq_true]
  exact ⟨k, a.kl, decide_eq_true a.at'⟩
theorem Tr.hold {V V' : Vw} {φ : Int → Int} (t : Tr V V' φ) (h : Hold V 7) : Hold V' 7 := by
  have r1 := h.r1 (by decide)
  intro k hk j hj
  match k, hk with
  | 0, _ =>
    show rule1 _ = true
    unfold rule1
    rw [t.pgs, t.base, t.bl, t.ks, t.rl]
    exact decide_eq_true r1
  | 1, _ =>
    have hj' : j < V'.ks.length := hj
    rw [t.ks] at hj'
    show rule2 _ _ = true
    unfold rule2
    rw [t.ks]
    exact h 1 (by decide) j hj'
  | 2, _ =>
    show okT V'.pgs V'.ts j = true
    rw [t.pgs]
    have s := t.std
    unfold stdB at s
    rw [Bool.and_eq_true] at s
    exact stdU_ok s.2 hj
  | 3, _ =>
    have hj' : j < V.rs.length := by have : j < V'.rs.length := hj; rw [t.rl] at this; exact this
    have q : rule4 V j = true := h 3 (by decide) j hj'
    show rule4 V' j = true
    unfold rule4 at q ⊢
    rw [t.rw' j hj', slRw_gen, slRw_live, t.rl]
    by_cases hl : (rwD V.rs j).live = true
    · rw [if_pos hl] at q ⊢
      rw [Bool.and_eq_true, Bool.and_eq_true] at q
      rw [q.1, q.2.1, Bool.true_and, Bool.true_and]
      have l := q.2.2
      unfold liesB at l ⊢
      rw [slRw_kind, slRw_pl hl, t.ks]
      rw [Bool.and_eq_true] at l
      rw [l.1, Bool.true_and]
      obtain ⟨a, b, sa, hf⟩ := slot_some l.2
      obtain ⟨a', b', sb, e1, e2⟩ := t.to' _ _ _ sa
      refine slot_is sb ?_
      have hf := of_decide_eq_true hf
      refine decide_eq_true ⟨by rw [e1]; exact hf.1, fun c7 => ?_⟩
      rw [← hf.2 (by rw [← e1]; exact c7)]
      unfold szT szI at e2
      rw [if_pos c7, if_pos (by rw [← e1]; exact c7)] at e2
      exact e2
    · have hl' : (rwD V.rs j).live = false := by simpa using hl
      rw [if_neg hl] at q ⊢
      rw [slRw_dead hl']
      exact q
  | 4, _ =>
    have hj' : j < V.rs.length := by have : j < V'.rs.length := hj; rw [t.rl] at this; exact this
    have q : rule5 V j = true := h 4 (by decide) j hj'
    show rule5 V' j = true
    unfold rule5 at q ⊢
    rw [t.rw' j hj', slRw_live]
    cases hl : (rwD V.rs j).live with
    | false => rfl
    | true =>
      rw [hl] at q
      have q : decide (ownI V.rs (rwD V.rs j).pl = some j) = true := q
      show decide (ownI V'.rs (slRw φ (rwD V.rs j)).pl = some j) = true
      rw [slRw_pl hl]
      exact decide_eq_true (t.own h (of_decide_eq_true q))
  | 5, _ =>
    show rule6 V' j = true
    unfold rule6
    rw [List.all_eq_true]
    intro x hx
    obtain ⟨y, a, b, sa, e⟩ := t.from' _ j x ⟨hj, hx, rfl⟩
    have q : rule6 V a = true := h 5 (by decide) a sa.jl
    unfold rule6 at q
    have := List.all_eq_true.1 q b sa.kl
    rw [sa.at'] at this
    obtain ⟨i, hi⟩ := Option.isSome_iff_exists.1 this
    rw [← e, t.own h hi]
    rfl
  | 6, _ =>
    have hj' : j < V.rs.length := by have : j < V'.rs.length := hj; rw [t.rl] at this; exact this
    show rule7 V' j = true
    unfold rule7
    rw [t.rw' j hj', slRw_live, slRw_kind, t.ks]
    cases hl : (rwD V.rs j).live with
    | false => rfl
    | true =>
      show ((knD V.ks (rwD V.rs j).kind.toNat).l.all fun p => leads V' (wordV V'.bs ((slRw φ (rwD V.rs j)).pl + p))) = true
      rw [List.all_eq_true]
      intro p hp
      rw [slRw_pl hl, t.word j hj' hl p hp]
      unfold leads slW
      rcases h.word hj' hl hp with e | ⟨i, e⟩
      · rw [if_pos e]; rfl
      · by_cases e0 : wordV V.bs ((rwD V.rs j).pl + p) = 0
        · rw [if_pos e0]; rfl
        · rw [if_neg e0, t.base, show V.base + φ (wordV V.bs ((rwD V.rs j).pl + p) - V.base) - V.base = φ (wordV V.bs ((rwD V.rs j).pl + p) - V.base) by omega, t.own h e]
          simp
theorem Tr.obj {V V' : Vw} {φ : Int → Int} (t : Tr V V' φ) (h : Hold V 7) {i : Nat} (hi : i < V.rs.length) (li : (rwD V.rs i).live = true) : objI V' i = objI V i := by
  have h' := t.hold h
  have hi' : i < V'.rs.length := by rw [t.rl]; exact hi
  have li' : (rwD V'.rs i).live = true := by rw [t.rw' i hi, slRw_live]; exact li
  have O := h.obj (by decide) i hi li
  have O' := h'.obj (by decide) i hi' li'
  have ek : (rwD V'.rs i).kind = (rwD V.rs i).kind := by rw [t.rw' i hi, slRw_kind]
  have eg : (rwD V'.rs i).gen = (rwD V.rs i).gen := by rw [t.rw' i hi, slRw_gen]
  have ep : (rwD V'.rs i).pl = φ (rwD V.rs i).pl := by rw [t.rw' i hi, slRw_pl li]
  have ez : zOf V' i = zOf V i := by unfold zOf; rw [t.ks, ek]
  have es : psOf V' i = psOf V i := by unfold psOf; rw [t.ks, ek]
  have hgd := (h.r1 (by decide)).2.2.1
  have eb : blankB (b0Of V' i) (psOf V i) = blankB (b0Of V i) (psOf V i) := by
    refine blank_agree _ _ _ (by rw [O'.len, O.len, ez]) (fun q hq => by rw [O'.len, ez]; exact O.ps q hq) (fun k hk => ?_)
    unfold b0Of
    rw [ez, ep, List.getElem?_take, List.getElem?_take]
    split
    · rename_i hkz
      rw [List.getElem?_drop, List.getElem?_drop]
      exact t.bytes i hi li k hkz hk
    · rfl
  have et : (psOf V i).map (toOf V' i) = (psOf V i).map (toOf V i) := by
    apply List.map_congr_left
    intro p hp
    unfold toOf
    rw [ep, t.word i hi li p hp]
    unfold nameH slW
    rw [t.base]
    by_cases e0 : wordV V.bs ((rwD V.rs i).pl + p) = 0
    · rw [if_pos e0, e0]
      unfold goodR at hgd
      rw [own_far h (by decide) (.inl (by omega)), own_far h' (by decide) (.inl (by omega))]
    · rw [if_neg e0, show V.base + φ (wordV V.bs ((rwD V.rs i).pl + p) - V.base) - V.base = φ (wordV V.bs ((rwD V.rs i).pl + p) - V.base) by omega]
      rcases h.word hi li hp with e | ⟨j, e⟩
      · exact absurd e e0
      · rw [e, t.own h e]
        have hj := (own_some e).1
        simp only [t.rw' j hj, slRw_gen]
  unfold objI
  rw [eg, ek, es, eb, et]
theorem Tr.objs {V V' : Vw} {φ : Int → Int} (t : Tr V V' φ) (h : Hold V 7) : objsV V' = objsV V := by
  unfold objsV
  rw [t.rl]
  have : ∀ n, n ≤ V.rs.length → objsU V' n = objsU V n := by
    intro n
    induction n with
    | zero => intro _; rfl
    | succ n ih =>
      intro hn
      unfold objsU
      rw [ih (by omega), t.rw' n (by omega), slRw_live]
      by_cases hl : (rwD V.rs n).live = true
      · rw [if_pos hl, if_pos hl, t.obj h (by omega) hl]
      · rw [if_neg hl, if_neg hl]
  exact this _ (Nat.le_refl _)
end Go.Proofs.YtebmegghojiegaaDoor

/- Plain mathematics of AuditSlides: a sound view slid together is sound, and tells the same objects. -/
namespace Go.Proofs.YtebmegghojiegaaDoor
open Go.RowKit
set_option linter.unusedVariables false

/-! ### fields laid -/
def slS (V : Vw) (φ : Int → Int) (b : List Int) (a : Int × Int) : List Int := if wordV V.bs a.1 = 0 then b else overR b a.2.toNat (putL 8 (V.base + φ (wordV V.bs a.1 - V.base)))
def slL (V : Vw) (φ : Int → Int) (l : List (Int × Int)) (b : List Int) : List Int := l.foldl (slS V φ) b
structure FdP (V : Vw) (φ : Int → Int) (n : Nat) (a : Int × Int) : Prop where
  x0 : 0 ≤ a.2
  x1 : a.2 + 8 ≤ (n : Int)
  wd : wordV V.bs a.1 = 0 ∨ (0 ≤ V.base + φ (wordV V.bs a.1 - V.base) ∧ V.base + φ (wordV V.bs a.1 - V.base) ≤ 18446744073709551615)
theorem slS_len {V : Vw} {φ : Int → Int} {b : List Int} {a : Int × Int} (h : FdP V φ b.length a) : (slS V φ b a).length = b.length := by
  unfold slS
  split
  · rfl
  · exact over_len (by rw [putL_len]; have := h.x0; have := h.x1; omega)
theorem slS_get {V : Vw} {φ : Int → Int} {b : List Int} {a : Int × Int} (h : FdP V φ b.length a) {k : Nat} (hk : (k : Int) < a.2 ∨ a.2 + 8 ≤ (k : Int)) : (slS V φ b a)[k]? = b[k]? := by
  unfold slS
  split
  · rfl
  · exact over_get (by rw [putL_len]; have := h.x0; have := h.x1; omega) (by rw [putL_len]; have := h.x0; omega)
theorem slS_else {V : Vw} {φ : Int → Int} {b : List Int} {a : Int × Int} {y : Int} (h : FdP V φ b.length a) (hy : 0 ≤ y) (hk : y + 8 ≤ a.2 ∨ a.2 + 8 ≤ y) : wordV (slS V φ b a) y = wordV b y := by
  unfold slS
  split
  · rfl
  · exact wordV_else (by rw [putL_len]; have := h.x0; have := h.x1; omega) hy (by rw [putL_len]; have := h.x0; omega)
theorem slS_self {V : Vw} {φ : Int → Int} {b : List Int} {a : Int × Int} (h : FdP V φ b.length a) (hw : wordV b a.2 = wordV V.bs a.1) : wordV (slS V φ b a) a.2 = slW V φ (wordV V.bs a.1) := by
  unfold slS slW
  have x0 := h.x0
  have x1 := h.x1
  split
  · rename_i e; rw [hw, e]
  · rename_i e
    obtain ⟨o, ho⟩ : ∃ o : Nat, a.2 = (o : Int) := ⟨a.2.toNat, by omega⟩
    rcases h.wd with q | q
    · exact absurd q e
    · rw [ho, Int.toNat_natCast]
      exact word_self (by omega) q.1 q.2
theorem slL_snoc (V : Vw) (φ : Int → Int) (l : List (Int × Int)) (b : List Int) (a : Int × Int) : slL V φ (l ++ [a]) b = slS V φ (slL V φ l b) a := by
  unfold slL; rw [List.foldl_append]; rfl
theorem slL_len {V : Vw} {φ : Int → Int} : ∀ (l : List (Int × Int)) (b : List Int), (∀ a ∈ l, FdP V φ b.length a) → (slL V φ l b).length = b.length
  | [], b, _ => rfl
  | a :: l, b, h => by
    have e := slS_len (h a List.mem_cons_self)
    show (slL V φ l (slS V φ b a)).length = _
    rw [slL_len l _ (fun y hy => by rw [e]; exact h y (List.mem_cons_of_mem _ hy)), e]
theorem slS_all {V : Vw} {φ : Int → Int} {b : List Int} {a : Int × Int} (h : AllB b) : AllB (slS V φ b a) := by
  unfold slS
  split
  · exact h
  · exact over_all h (putL_byte _ _)
theorem slL_all {V : Vw} {φ : Int → Int} : ∀ (l : List (Int × Int)) (b : List Int), AllB b → AllB (slL V φ l b)
  | [], b, h => h
  | a :: l, b, h => slL_all l _ (slS_all h)
theorem slL_get {V : Vw} {φ : Int → Int} : ∀ (l : List (Int × Int)) (b : List Int), (∀ a ∈ l, FdP V φ b.length a) → ∀ k : Nat, (∀ a ∈ l, (k : Int) < a.2 ∨ a.2 + 8 ≤ (k : Int)) → (slL V φ l b)[k]? = b[k]?
  | [], b, _, k, _ => rfl
  | a :: l, b, h, k, hk => by
    have ha := h a List.mem_cons_self
    show (slL V φ l (slS V φ b a))[k]? = _
    rw [slL_get l _ (fun y hy => by rw [slS_len ha]; exact h y (List.mem_cons_of_mem _ hy)) k (fun y hy => hk y (List.mem_cons_of_mem _ hy)), slS_get ha (hk a List.mem_cons_self)]
theorem slL_else {V : Vw} {φ : Int → Int} : ∀ (l : List (Int × Int)) (b : List Int), (∀ a ∈ l, FdP V φ b.length a) → ∀ y : Int, 0 ≤ y → (∀ a ∈ l, y + 8 ≤ a.2 ∨ a.2 + 8 ≤ y) → wordV (slL V φ l b) y = wordV b y
  | [], b, _, y, _, _ => rfl
  | a :: l, b, h, y, h0, hk => by
    have ha := h a List.mem_cons_self
    show wordV (slL V φ l (slS V φ b a)) y = _
    rw [slL_else l _ (fun z hz => by rw [slS_len ha]; exact h z (List.mem_cons_of_mem _ hz)) y h0 (fun z hz => hk z (List.mem_cons_of_mem _ hz)), slS_else ha h0 (hk a List.mem_cons_self)]
theorem slL_word {V : Vw} {φ : Int → Int} : ∀ (l : List (Int × Int)) (b : List Int), (∀ a ∈ l, FdP V φ b.length a) → l.Pairwise (fun x y => x.2 + 8 ≤ y.2 ∨ y.2 + 8 ≤ x.2) → (∀ a ∈ l, wordV b a.2 = wordV V.bs a.1) → ∀ a ∈ l, wordV (slL V φ l b) a.2 = slW V φ (wordV V.bs a.1)
  | [], b, _, _, _, a, ha => by cases ha
  | c :: l, b, h, hp, hw, a, ha => by
    have hc := h c List.mem_cons_self
    obtain ⟨p1, p2⟩ := List.pairwise_cons.1 hp
    have hl : ∀ z ∈ l, FdP V φ (slS V φ b c).length z := fun z hz => by rw [slS_len hc]; exact h z (List.mem_cons_of_mem _ hz)
    show wordV (slL V φ l (slS V φ b c)) a.2 = _
    rcases List.mem_cons.1 ha with rfl | ha
    · rw [slL_else l _ hl a.2 hc.x0 (fun z hz => p1 z hz), slS_self hc (hw a List.mem_cons_self)]
    · exact slL_word l _ hl p2 (fun z hz => by rw [slS_else hc (h z (List.mem_cons_of_mem _ hz)).x0 (by have := p1 z hz; omega)]; exact hw z (List.mem_cons_of_mem _ hz)) a ha

/-! ### the slid view -/
def moV (V : Vw) : List Mv := planV (V.ts.map snT) (FT V.ts)
def spV (V : Vw) : List Td := planT (V.ts.map snT) (FT V.ts)
def phV (V : Vw) (x : Int) : Int := whereI x (moV V)
/-- A view whose spans are slid, all else as it was. -/
def midV (V : Vw) : Vw := ⟨V.base, V.pgs, V.ks, V.rs, spV V, V.bs⟩
structure SlF (V : Vw) (P : Nat) : Prop where
  pg : V.pgs = (P : Int)
  p1 : 1 ≤ P
  st : stdB (P : Int) V.ts = true
  sd : Std P (V.ts.map snT)
  inf : InF (V.ts.map snT) (clsF (V.ts.map snT) (FT V.ts) 7)
  at2 : stdB (P : Int) (spV V) = true
  ad : Std P (aftM (V.ts.map snT) (FT V.ts))
  bl : V.bs.length = 256 * P
theorem Hold.slf {V : Vw} (h : Hold V 7) : ∃ P, SlF V P := by
  have r := h.r1 (by decide)
  obtain ⟨P, hP⟩ : ∃ P : Nat, V.pgs = (P : Int) := ⟨V.pgs.toNat, by omega⟩
  have st := h.std (by decide)
  rw [hP] at st
  obtain ⟨sd, inF⟩ := std_of st
  have inf := inF_cls inF (fun i hi => (sd.ok i hi).c7)
  have at2 := aft_std sd inf (by omega)
  exact ⟨P, hP, by omega, st, sd, inf, at2, (std_of at2).1, by omega⟩
theorem SlF.mid {V : Vw} {P : Nat} (f : SlF V P) (h : Hold V 7) : Hold (midV V) 3 := by
  intro k hk j hj
  match k, hk with
  | 0, _ => exact h 0 (by decide) j hj
  | 1, _ => exact h 1 (by decide) j hj
  | 2, _ =>
    show okT V.pgs (spV V) j = true
    rw [f.pg]
    have s := f.at2
    unfold stdB at s
    rw [Bool.and_eq_true] at s
    exact stdU_ok s.2 hj
/-- A slot, by its class and number. -/
theorem SlF.num {V : Vw} {P : Nat} (f : SlF V P) {x : Int} {j : Nat} {k : Int} (a : SlotAt V x j k) : ∃ i, (tdD V.ts j).c.toNat ≤ 7 ∧ SO (V.ts.map snT) (FT V.ts) (tdD V.ts j).c.toNat i ∧ x = (frO (V.ts.map snT) (FT V.ts) (tdD V.ts j).c.toNat i : Nat) ∧ (szT V j).toNat = zzO (V.ts.map snT) (FT V.ts) (tdD V.ts j).c.toNat i ∧ phV V x = (fiO (V.ts.map snT) (FT V.ts) (tdD V.ts j).c.toNat i : Nat) := by
  obtain ⟨xN, rfl, c7, at'⟩ := sl_to f.st a
  obtain ⟨i, so, e1, e2⟩ := (at_old f.sd (FT V.ts) c7).1 at'
  refine ⟨i, c7, so, by rw [e1], e2.symm, ?_⟩
  unfold phV moV
  rw [← e1]
  exact (plan_br f.sd (FT V.ts)).where (fun v hv => (plan_dn f.sd (FT V.ts) v hv).1) _ _ so
theorem SlF.to' {V : Vw} {P : Nat} (f : SlF V P) {x : Int} {j : Nat} {k : Int} (a : SlotAt V x j k) : ∃ j' k', SlotAt (midV V) (phV V x) j' k' ∧ (tdD (spV V) j').c = (tdD V.ts j).c ∧ szT (midV V) j' = szT V j := by
  obtain ⟨i, c7, so, e1, e2, e3⟩ := f.num a
  obtain ⟨j', k', b, g1, g2⟩ := sl_of (V := midV V) f.at2 ((at_new f.sd (FT V.ts) f.inf f.ad c7).2 ⟨i, so, rfl, rfl⟩)
  obtain ⟨_, _, n2, _⟩ := nums_of f.st a.jl
  have := (size_of f.st a.jl).2
  rw [e3]
  have g1 : (tdD (spV V) j').c = (((tdD V.ts j).c.toNat : Nat) : Int) := g1
  exact ⟨j', k', b, by omega, by rw [g2, ← e2]; omega⟩
theorem SlF.from' {V : Vw} {P : Nat} (f : SlF V P) {y : Int} {j' : Nat} {k' : Int} (a : SlotAt (midV V) y j' k') : ∃ x j k, SlotAt V x j k ∧ phV V x = y := by
  obtain ⟨yN, rfl, c7, at'⟩ := sl_to (V := midV V) f.at2 a
  obtain ⟨i, so, e1, e2⟩ := (at_new f.sd (FT V.ts) f.inf f.ad c7).1 at'
  obtain ⟨j, k, b, _, _⟩ := sl_of f.st ((at_old f.sd (FT V.ts) c7).2 ⟨i, so, rfl, rfl⟩)
  refine ⟨_, j, k, b, ?_⟩
  rw [← e1]
  exact (plan_br f.sd (FT V.ts)).where (fun v hv => (plan_dn f.sd (FT V.ts) v hv).1) _ _ so
theorem SlF.one {V : Vw} {P : Nat} (f : SlF V P) {x y : Int} {j j' : Nat} {k k' : Int} (a : SlotAt V x j k) (b : SlotAt V y j' k') (e : phV V x = phV V y) : x = y := by
  obtain ⟨i, _, so, e1, _, e3⟩ := f.num a
  obtain ⟨i', _, so', e1', _, e3'⟩ := f.num b
  rw [e3, e3'] at e
  obtain ⟨q1, q2⟩ := fi_one f.sd (FT V.ts) so so' (by omega)
  rw [e1, e1', q1, q2]
theorem SlF.byte {V : Vw} {P : Nat} (f : SlF V P) {x : Int} {j : Nat} {k : Int} (a : SlotAt V x j k) {n : Nat} (hn : (n : Int) < szT V j) : (mvAll (moV V) V.bs)[(phV V x).toNat + n]? = V.bs[x.toNat + n]? := by
  obtain ⟨i, _, so, e1, e2, e3⟩ := f.num a
  have := (size_of f.st a.jl).2
  rw [e3, e1, Int.toNat_natCast, Int.toNat_natCast]
  exact mvAll_obj f.sd (FT V.ts) f.bl so (by rw [← e2]; omega)
theorem SlF.dn {V : Vw} {P : Nat} (f : SlF V P) : ∀ v ∈ moV V, v.Dn V.bs.length := by
  rw [f.bl]; exact plan_dn f.sd (FT V.ts)
/-- What is known of a live row's new place. -/
structure NwF (V : Vw) (i : Nat) : Prop where
  x0 : 0 ≤ phV V (rwD V.rs i).pl
  fit : phV V (rwD V.rs i).pl + (zOf V i : Int) ≤ (V.bs.length : Int)
theorem SlF.new {V : Vw} {P : Nat} (f : SlF V P) (h : Hold V 7) {i : Nat} (hi : i < V.rs.length) (li : (rwD V.rs i).live = true) : NwF V i := by
  obtain ⟨j, k, a, hz⟩ := h.slot (by decide) i hi li
  obtain ⟨j', k', b, e1, e2⟩ := f.to' a
  have m := f.mid h
  obtain ⟨b1, b2, b3, b4, b5⟩ := b.facts m (by decide)
  obtain ⟨_, hp⟩ := m.right (by decide) j' b.jl
  have r0 := (newE_rt (m.right (by decide) j' b.jl).1.1).p0
  have bl := f.bl
  have pg : V.pgs = (P : Int) := f.pg
  have hp : (tdD (midV V).ts j').p + (pgsN (tdD (midV V).ts j').c (tdD (midV V).ts j').s : Int) ≤ V.pgs := hp
  exact ⟨by omega, by omega⟩
theorem SlF.apart {V : Vw} {P : Nat} (f : SlF V P) (h : Hold V 7) {i j : Nat} (hi : i < V.rs.length) (hj : j < V.rs.length) (li : (rwD V.rs i).live = true) (lj : (rwD V.rs j).live = true) (hne : i ≠ j) : phV V (rwD V.rs i).pl + (zOf V i : Int) ≤ phV V (rwD V.rs j).pl ∨ phV V (rwD V.rs j).pl + (zOf V j : Int) ≤ phV V (rwD V.rs i).pl := by
  obtain ⟨ja, ka, sa, za⟩ := h.slot (by decide) i hi li
  obtain ⟨jb, kb, sb, zb⟩ := h.slot (by decide) j hj lj
  obtain ⟨ja', ka', sa', ea1, ea2⟩ := f.to' sa
  obtain ⟨jb', kb', sb', eb1, eb2⟩ := f.to' sb
  have := sa'.apart (f.mid h) (by decide) sb' (fun e => hne (h.alone (by decide) hi hj li lj (f.one sa sb e)))
  omega
/-- Where the pointer fields of the first rows were, and are. -/
def fldQ (V : Vw) (i : Nat) : List (Int × Int) := (psOf V i).map (fun p => ((rwD V.rs i).pl + p, phV V (rwD V.rs i).pl + p))
def fldP (V : Vw) : Nat → List (Int × Int)
  | 0 => []
  | n + 1 => fldP V n ++ (if (rwD V.rs n).live = true then fldQ V n else [])
theorem fldP_mem {V : Vw} {a : Int × Int} : ∀ {n : Nat}, a ∈ fldP V n → ∃ i p, i < n ∧ (rwD V.rs i).live = true ∧ p ∈ psOf V i ∧ a = ((rwD V.rs i).pl + p, phV V (rwD V.rs i).pl + p)
  | n + 1, h => by
    unfold fldP at h
    rcases List.mem_append.1 h with h | h
    · obtain ⟨i, p, h1, h2⟩ := fldP_mem h
      exact ⟨i, p, by omega, h2⟩
    · by_cases hl : (rwD V.rs n).live = true
      · rw [if_pos hl] at h
        obtain ⟨p, hp, rfl⟩ := List.mem_map.1 h
        exact ⟨n, p, by omega, hl, hp, rfl⟩
      · rw [if_neg hl] at h; cases h
theorem fldP_in {V : Vw} {i : Nat} {p : Int} (hl : (rwD V.rs i).live = true) (hp : p ∈ psOf V i) : ∀ {n : Nat}, i < n → ((rwD V.rs i).pl + p, phV V (rwD V.rs i).pl + p) ∈ fldP V n
  | n + 1, h => by
    unfold fldP
    rcases Nat.lt_or_eq_of_le (Nat.le_of_lt_succ h) with e | rfl
    · exact List.mem_append_left _ (fldP_in hl hp e)
    · rw [if_pos hl]
      exact List.mem_append_right _ (List.mem_map.2 ⟨p, hp, rfl⟩)
theorem fldP_apart {V : Vw} {P : Nat} (f : SlF V P) (h : Hold V 7) : ∀ n, n ≤ V.rs.length → (fldP V n).Pairwise (fun x y => x.2 + 8 ≤ y.2 ∨ y.2 + 8 ≤ x.2)
  | 0, _ => List.Pairwise.nil
  | n + 1, hn => by
    unfold fldP
    rw [List.pairwise_append]
    refine ⟨fldP_apart f h n (by omega), ?_, fun x hx y hy => ?_⟩
    · by_cases hl : (rwD V.rs n).live = true
      · rw [if_pos hl]
        unfold fldQ
        rw [List.pairwise_map]
        exact ((h.obj (by decide) n (by omega) hl).pw).imp (fun {a b} hab => .inl (by show _ + _ + 8 ≤ _ + _; omega))
      · rw [if_neg hl]; exact List.Pairwise.nil
    · by_cases hl : (rwD V.rs n).live = true
      · rw [if_pos hl] at hy
        obtain ⟨p, hp, rfl⟩ := List.mem_map.1 hy
        obtain ⟨i, p', hi, li, hp', rfl⟩ := fldP_mem hx
        have := f.apart h (by omega) (by omega) li hl (show i ≠ n by omega)
        have := (h.obj (by decide) i (by omega) li).ps p' hp'
        have := (h.obj (by decide) n (by omega) hl).ps p hp
        show _ + _ + 8 ≤ _ + _ ∨ _ + _ + 8 ≤ _ + _
        omega
      · rw [if_neg hl] at hy; cases hy
/-- Where a field leads, slid. -/
theorem SlF.lead {V : Vw} {P : Nat} (f : SlF V P) (h : Hold V 7) {i : Nat} (hi : i < V.rs.length) (li : (rwD V.rs i).live = true) {p : Int} (hp : p ∈ psOf V i) : wordV V.bs ((rwD V.rs i).pl + p) = 0 ∨ (V.base ≤ wordV V.bs ((rwD V.rs i).pl + p) ∧ wordV V.bs ((rwD V.rs i).pl + p) - V.base < V.bs.length ∧ 0 ≤ phV V (wordV V.bs ((rwD V.rs i).pl + p) - V.base) ∧ phV V (wordV V.bs ((rwD V.rs i).pl + p) - V.base) ≤ V.bs.length) := by
  rcases h.word_in hi li hp with e | e
  · exact .inl e
  · rcases h.word hi li hp with e' | ⟨j, e'⟩
    · exact .inl e'
    · obtain ⟨j1, j2, j3, _⟩ := own_some e'
      have := f.new h j1 j2
      rw [← j3]
      have := this.x0
      have := (f.new h j1 j2).fit
      exact .inr ⟨e.1, by omega, by omega, by omega⟩
theorem SlF.fds {V : Vw} {P : Nat} (f : SlF V P) (h : Hold V 7) : ∀ a ∈ fldP V V.rs.length, FdP V (phV V) (mvAll (moV V) V.bs).length a := fun a ha => by
  obtain ⟨i, p, hi, li, hp, rfl⟩ := fldP_mem ha
  have O := h.obj (by decide) i hi li
  have N := f.new h hi li
  have := O.ps p hp
  have := N.x0
  have := N.fit
  have r := h.r1 (by decide)
  have g := r.2.2.1
  unfold goodR at g
  rw [mvAll_len _ _ f.dn]
  refine ⟨by show 0 ≤ _ + _; omega, by show _ + _ + 8 ≤ _; omega, ?_⟩
  rcases f.lead h hi li hp with e | e
  · exact .inl e
  · exact .inr ⟨by show 0 ≤ V.base + phV V (wordV V.bs ((rwD V.rs i).pl + p) - V.base); omega, by show V.base + phV V (wordV V.bs ((rwD V.rs i).pl + p) - V.base) ≤ _; omega⟩
theorem SlF.words {V : Vw} {P : Nat} (f : SlF V P) (h : Hold V 7) : ∀ a ∈ fldP V V.rs.length, wordV (mvAll (moV V) V.bs) a.2 = wordV V.bs a.1 := fun a ha => by
  obtain ⟨i, p, hi, li, hp, rfl⟩ := fldP_mem ha
  have O := h.obj (by decide) i hi li
  have N := f.new h hi li
  have q := O.ps p hp
  have x0 := N.x0
  have pl := O.pl
  obtain ⟨j, k, a, hz⟩ := h.slot (by decide) i hi li
  show wordV _ (phV V (rwD V.rs i).pl + p) = wordV _ ((rwD V.rs i).pl + p)
  unfold wordV
  congr 1
  apply List.ext_getElem?
  intro m
  rw [List.getElem?_take, List.getElem?_take]
  split
  · rename_i hm
    rw [List.getElem?_drop, List.getElem?_drop]
    have := f.byte a (n := p.toNat + m) (by omega)
    rw [show (phV V (rwD V.rs i).pl + p).toNat + m = (phV V (rwD V.rs i).pl).toNat + (p.toNat + m) by omega, this]
    congr 1; omega
  · rfl
/-- The slid view. -/
def slidV (V : Vw) : Vw := ⟨V.base, V.pgs, V.ks, V.rs.map (slRw (phV V)), spV V, slL V (phV V) (fldP V V.rs.length) (mvAll (moV V) V.bs)⟩
theorem slid_tr {V : Vw} (h : Hold V 7) : Tr V (slidV V) (phV V) := by
  obtain ⟨P, f⟩ := h.slf
  have ml := mvAll_len _ _ f.dn
  refine ⟨rfl, rfl, rfl, by simp [slidV], fun i hi => ?_, by rw [f.pg]; exact f.at2, fun x j k a => ?_, fun y j' k' a => ?_, fun x j k y j' k' a b e => f.one a b e, ?_, fun i hi li k hk hp => ?_, fun i hi li p hp => ?_⟩
  · show rwD (V.rs.map (slRw (phV V))) i = _
    rw [rwD_at (by simpa using hi), rwD_at hi]
    simp
  · obtain ⟨j', k', b, e1, e2⟩ := f.to' a
    exact ⟨j', k', ⟨b.jl, b.kl, b.at'⟩, e1, e2⟩
  · obtain ⟨x, j, k, b, e⟩ := f.from' (V := V) ⟨a.jl, a.kl, a.at'⟩
    exact ⟨x, j, k, b, e⟩
  · show (slL V (phV V) (fldP V V.rs.length) (mvAll (moV V) V.bs)).length = _
    rw [slL_len _ _ (f.fds h), ml]
  · show (slL V (phV V) (fldP V V.rs.length) (mvAll (moV V) V.bs))[_]? = _
    have N := f.new h hi li
    have x0 := N.x0
    obtain ⟨j, kk, a, hz⟩ := h.slot (by decide) i hi li
    rw [slL_get _ _ (f.fds h) _ (fun a ha => ?_), f.byte a (by omega)]
    obtain ⟨i', p, hi', li', hp', rfl⟩ := fldP_mem ha
    show _ < phV V (rwD V.rs i').pl + p ∨ phV V (rwD V.rs i').pl + p + 8 ≤ _
    have N' := (f.new h hi' li').x0
    have O' := (h.obj (by decide) i' hi' li').ps p hp'
    by_cases e : i' = i
    · subst e
      have := hp p hp'
      omega
    · have := f.apart h hi hi' li li' (fun q => e q.symm)
      omega
  · have q := slL_word (V := V) (φ := phV V) (fldP V V.rs.length) (mvAll (moV V) V.bs) (f.fds h) (fldP_apart f h _ (Nat.le_refl _)) (f.words h) ((rwD V.rs i).pl + p, phV V (rwD V.rs i).pl + p) (fldP_in li hp hi)
    exact q
end Go.Proofs.YtebmegghojiegaaDoor
