/- A view: its numbers, the seven rules, and how it lies in memory. -/
import Derived.Test.YtebmegghojiegaaDoorAuB
import Derived.Test.YtebmegghojiegaaDoorGsM
import Derived.Test.YtebmegghojiegaaDoorLcB
namespace Go.Proofs.YtebmegghojiegaaDoor
open Go.RowKit
set_option linter.unusedVariables false

/-- A kind's numbers. -/
structure Kn where
  (s : Int) (l : List Int)
/-- A view's numbers. -/
structure Vw where
  (base pgs : Int) (ks : List Kn) (rs : List HRw) (ts : List Td) (bs : List Int)
def knD (ks : List Kn) (i : Nat) : Kn := ks.getD i ⟨0, []⟩
def rwD (rs : List HRw) (i : Nat) : HRw := rs.getD i ⟨0, false, 0, 0⟩
theorem knD_at {ks : List Kn} {i : Nat} (h : i < ks.length) : knD ks i = ks[i] := by simp [knD, List.getD, h]
theorem rwD_at {rs : List HRw} {i : Nat} (h : i < rs.length) : rwD rs i = rs[i] := by simp [rwD, List.getD, h]
/-- The first live row of a place. -/
def ownI (rs : List HRw) (x : Int) : Option Nat := rs.findIdx? (fun r => r.live && decide (r.pl = x))
theorem own_some {rs : List HRw} {x : Int} {i : Nat} (h : ownI rs x = some i) : i < rs.length ∧ (rwD rs i).live = true ∧ (rwD rs i).pl = x ∧ ∀ j, j < i → ¬ ((rwD rs j).live = true ∧ (rwD rs j).pl = x) := by
  unfold ownI at h
  obtain ⟨hi, h1, h2⟩ := List.findIdx?_eq_some_iff_getElem.1 h
  rw [Bool.and_eq_true] at h1
  refine ⟨hi, ?_⟩
  rw [rwD_at hi]
  refine ⟨h1.1, of_decide_eq_true h1.2, fun j hj hh => ?_⟩
  have := h2 j hj
  rw [rwD_at (by omega)] at hh
  simp [hh.1, hh.2] at this
theorem own_none {rs : List HRw} {x : Int} (h : ownI rs x = none) : ∀ j, j < rs.length → ¬ ((rwD rs j).live = true ∧ (rwD rs j).pl = x) := fun j hj hh => by
  unfold ownI at h
  have := List.findIdx?_eq_none_iff.1 h rs[j] (List.getElem_mem hj)
  rw [rwD_at hj] at hh
  simp [hh.1, hh.2] at this
theorem own_is {rs : List HRw} {x : Int} {i : Nat} (hi : i < rs.length) (h1 : (rwD rs i).live = true) (h2 : (rwD rs i).pl = x) (h3 : ∀ j, j < i → ¬ ((rwD rs j).live = true ∧ (rwD rs j).pl = x)) : ownI rs x = some i := by
  cases e : ownI rs x with
  | none => exact absurd ⟨h1, h2⟩ (own_none e i hi)
  | some k =>
    obtain ⟨k1, k2, k3, k4⟩ := own_some e
    rcases Nat.lt_trichotomy k i with g | g | g
    · exact absurd ⟨k2, k3⟩ (h3 k g)
    · rw [g]
    · exact absurd ⟨h1, h2⟩ (k4 i g)
/-- Where a slot begins. -/
def atS (t : Td) (i : Int) : Int := 256 * t.p + i * szI t.c t.s
/-- A span for objects of so many bytes. -/
def fitS (t : Td) (z : Int) : Bool := decide (t.c = ofI z ∧ (t.c = 7 → t.s = z))
def slotB (ts : List Td) (x z : Int) : Bool := ts.any fun t => fitS t z && t.l.any fun i => decide (atS t i = x)
def liesB (V : Vw) (r : HRw) : Bool := decide (0 ≤ r.kind ∧ r.kind < V.ks.length) && slotB V.ts r.pl (knD V.ks r.kind.toNat).s
def wordV (bs : List Int) (o : Int) : Int := getL ((bs.drop o.toNat).take 8)
def leads (V : Vw) (x : Int) : Bool := decide (x = 0) || (ownI V.rs (x - V.base)).isSome
/-- The rules. -/
def rule1 (V : Vw) : Bool := decide (1 ≤ V.pgs ∧ V.pgs ≤ 4096 ∧ goodR V.base ∧ (V.bs.length : Int) = V.pgs * 256 ∧ V.ks.length ≤ 64 ∧ V.rs.length ≤ 4096)
def rule2 (V : Vw) (i : Nat) : Bool := decide (checkK (knD V.ks i).s (knD V.ks i).l = 0)
def rule3 (V : Vw) (i : Nat) : Bool := okT V.pgs V.ts i
def rule4 (V : Vw) (i : Nat) : Bool := decide (0 ≤ (rwD V.rs i).gen ∧ (rwD V.rs i).gen ≤ 65535) && (if (rwD V.rs i).live = true then decide (1 ≤ (rwD V.rs i).gen) && liesB V (rwD V.rs i) else decide ((rwD V.rs i).kind = 0 ∧ (rwD V.rs i).pl = 0 ∧ ¬ ((rwD V.rs i).gen = 0 ∧ i + 1 = V.rs.length)))
def rule5 (V : Vw) (i : Nat) : Bool := !(rwD V.rs i).live || decide (ownI V.rs (rwD V.rs i).pl = some i)
def rule6 (V : Vw) (i : Nat) : Bool := (tdD V.ts i).l.all fun x => (ownI V.rs (atS (tdD V.ts i) x)).isSome
def rule7 (V : Vw) (i : Nat) : Bool := !(rwD V.rs i).live || (knD V.ks (rwD V.rs i).kind.toNat).l.all fun p => leads V (wordV V.bs ((rwD V.rs i).pl + p))
def ruF (V : Vw) : Nat → Nat → Bool
  | 0 => fun _ => rule1 V
  | 1 => rule2 V
  | 2 => rule3 V
  | 3 => rule4 V
  | 4 => rule5 V
  | 5 => rule6 V
  | _ => rule7 V
def ruN (V : Vw) : Nat → Nat
  | 0 => 1
  | 1 => V.ks.length
  | 2 => V.ts.length
  | 3 => V.rs.length
  | 4 => V.rs.length
  | 5 => V.ts.length
  | _ => V.rs.length
/-- The first j rules hold. -/
def Hold (V : Vw) (j : Nat) : Prop := ∀ k, k < j → ∀ i, i < ruN V k → ruF V k i = true
/-- What Check answers. -/
def ChkR (V : Vw) (r x : Int) : Prop := (r = 0 ∧ x = 0 ∧ Hold V 7) ∨ ∃ j i : Nat, j < 7 ∧ i < ruN V j ∧ r = (j : Int) + 1 ∧ x = (i : Int) ∧ ruF V j i = false ∧ (∀ k, k < i → ruF V j k = true) ∧ Hold V j
theorem ChkR.one {V : Vw} {r x s y : Int} (h : ChkR V r x) (k : ChkR V s y) : r = s ∧ x = y := by
  rcases h with ⟨rfl, rfl, h⟩ | ⟨j, i, h1, h2, rfl, rfl, h3, h4, h5⟩ <;> rcases k with ⟨rfl, rfl, k⟩ | ⟨j', i', k1, k2, rfl, rfl, k3, k4, k5⟩
  · exact ⟨rfl, rfl⟩
  · rw [h j' k1 i' k2] at k3; cases k3
  · rw [k j h1 i h2] at h3; cases h3
  · rcases Nat.lt_trichotomy j j' with e | rfl | e
    · rw [k5 j e i h2] at h3; cases h3
    · rcases Nat.lt_trichotomy i i' with e | rfl | e
      · rw [k4 i e] at h3; cases h3
      · exact ⟨rfl, rfl⟩
      · rw [h4 i' e] at k3; cases k3
    · rw [h5 j' e i' k2] at k3; cases k3
theorem ChkR.zero {V : Vw} {r x : Int} (h : ChkR V r x) : r = 0 ↔ Hold V 7 := by
  refine ⟨fun e => ?_, fun k => (h.one (.inl ⟨rfl, rfl, k⟩)).1⟩
  rcases h with ⟨_, _, h⟩ | ⟨j, i, _, _, h, _⟩
  · exact h
  · omega
theorem ChkR.bound {V : Vw} {r x : Int} (h : ChkR V r x) : 0 ≤ r ∧ r ≤ 7 := by
  rcases h with ⟨rfl, _⟩ | ⟨j, i, _, _, rfl, _⟩ <;> omega
theorem Hold.mono {V : Vw} {j k : Nat} (h : Hold V k) (hj : j ≤ k) : Hold V j := fun q hq i hi => h q (by omega) i hi
/-- What the first rules say. -/
theorem Hold.r1 {V : Vw} {j : Nat} (h : Hold V j) (hj : 1 ≤ j) : 1 ≤ V.pgs ∧ V.pgs ≤ 4096 ∧ goodR V.base ∧ (V.bs.length : Int) = V.pgs * 256 ∧ V.ks.length ≤ 64 ∧ V.rs.length ≤ 4096 := of_decide_eq_true (h 0 hj 0 (by show 0 < 1; decide))
theorem Hold.r2 {V : Vw} {j : Nat} (h : Hold V j) (hj : 2 ≤ j) (i : Nat) (hi : i < V.ks.length) : checkK (knD V.ks i).s (knD V.ks i).l = 0 := of_decide_eq_true (h 1 hj i hi)
theorem Hold.r3 {V : Vw} {j : Nat} (h : Hold V j) (hj : 3 ≤ j) (i : Nat) (hi : i < V.ts.length) : okT V.pgs V.ts i = true := h 2 hj i hi
theorem Hold.std {V : Vw} {j : Nat} (h : Hold V j) (hj : 3 ≤ j) : stdB V.pgs V.ts = true := by
  unfold stdB
  have h1 := h.r1 (by omega)
  rw [decide_eq_true ⟨h1.1, h1.2.1⟩, Bool.true_and]
  have : ∀ n, n ≤ V.ts.length → stdU V.pgs V.ts n = true := by
    intro n
    induction n with
    | zero => intro _; rfl
    | succ n ih => intro hn; rw [stdU, ih (by omega), h.r3 hj n (by omega)]; rfl
  exact this _ (Nat.le_refl _)
theorem checkK_ok {s : Int} {l : List Int} (h : checkK s l = 0) : 1 ≤ s ∧ s ≤ 4096 ∧ l.length ≤ 16 ∧ placedB s 0 l = true := by
  unfold checkK at h
  split at h
  · cases h
  · split at h
    · cases h
    · split at h
      · exact ⟨by omega, by omega, by omega, by assumption⟩
      · cases h

/-- Where a view's lists lie. -/
structure Va where
  (ka ra sa ba : Option Addr) (kn rn sn bn kc rc sc bc : Nat)
/-- Kinds that can be read. -/
def RdK (w : World) (a : Option Addr) (ks : List Kn) : Prop := ∀ i (h : i < ks.length), ∃ (g o : Nat) (la : Option Addr) (lc : Nat), a = some ⟨g, o, none⟩ ∧ w.cell? ⟨g, o + i * 2, none⟩ = some (.int .i64 ks[i].s) ∧ w.cell? ⟨g, o + i * 2 + 1, none⟩ = some (.slice la ks[i].l.length lc) ∧ IsI w la ks[i].l ∧ (la = none → ks[i].l = [] ∧ lc = 0) ∧ ks[i].l.length ≤ maxLen
theorem RdK.keep {w w' : World} {a : Option Addr} {ks : List Kn} (h : RdK w a ks) (hb : Below w.heap.size w w') : RdK w' a ks := fun i hi => by
  obtain ⟨g, o, la, lc, e, c0, c1, hI, hn, hm⟩ := h i hi
  exact ⟨g, o, la, lc, e, bcell hb c0, bcell hb c1, hI.keep hb, hn, hm⟩
def i64 (x : Int) : Prop := -9223372036854775808 ≤ x ∧ x ≤ 9223372036854775807
/-- A view that can be read. -/
structure Rv (w : World) (V : Vw) (A : Va) : Prop where
  kl : V.ks.length = A.kn
  rl : V.rs.length = A.rn
  sl : V.ts.length = A.sn
  bl : V.bs.length = A.bn
  ks : RdK w A.ka V.ks
  rs : IsW w A.ra V.rs
  ts : RdT w A.sa V.ts
  bs : IsB w A.ba V.bs
  bi : i64 V.base
  pi : i64 V.pgs
  ti : ∀ t ∈ V.ts, i64 t.p
  ri : ∀ r ∈ V.rs, i64 r.pl ∧ i64 r.kind ∧ i64 r.gen
  kz : V.ks.length ≤ 64
  rz : V.rs.length ≤ 300
  tz : V.ts.length ≤ 64
  bz : V.bs.length ≤ 16384
  sk : A.sn ≤ A.sc ∧ A.sc ≤ 9223372036854775807
  bk : A.bn ≤ A.bc ∧ A.bc ≤ 9223372036854775807
theorem Rv.keep {w w' : World} {V : Vw} {A : Va} (h : Rv w V A) (hb : Below w.heap.size w w') : Rv w' V A :=
  ⟨h.kl, h.rl, h.sl, h.bl, h.ks.keep hb, h.rs.keep hb, h.ts.keep hb, h.bs.keep hb, h.bi, h.pi, h.ti, h.ri, h.kz, h.rz, h.tz, h.bz, h.sk, h.bk⟩
def vals (V : Vw) (A : Va) : List Value := [.int .i64 V.base, .int .i64 V.pgs, .slice A.ka A.kn A.kc, .slice A.ra A.rn A.rc, .slice A.sa A.sn A.sc, .slice A.ba A.bn A.bc]
/-- A span that is right. -/
def rightT (t : Td) : Prop := newE t.p t.c t.s = 0 ∧ okL (slN t.c) (-1) t.l = true
/-- What is looked up of a view. -/
structure Lk (w : World) (lb ms mi : Nat) (V : Vw) (A : Va) (nf nr : Nat) (f : Int → Option Nat) : Prop where
  box : w.heap[lb]? = some (.cells #[.int .i64 V.base, .int .i64 V.pgs, .slice A.ka A.kn A.kc, .slice A.ra A.rn A.rc, .slice A.sa A.sn A.sc, .slice A.ba A.bn A.bc, .map (some ms), .map (some mi)] 82 (0, 0))
  vw : Rv w V A
  sp : MapP w ms nf f
  on : MapI w mi nr (ownI V.rs)
  f1 : ∀ q p, f q = some p → ∃ i, i < V.ts.length ∧ rightT (tdD V.ts i) ∧ (tdD V.ts i).p = q ∧ ∃ b g, SpanAt w p b g (tdD V.ts i).p (tdD V.ts i).c (tdD V.ts i).s (fOf (tdD V.ts i).l)
  f2 : ∀ i, i < V.ts.length → rightT (tdD V.ts i) → (f (tdD V.ts i).p).isSome = true
  tab : Tabs w
theorem Lk.keep {w w' : World} {lb ms mi : Nat} {V : Vw} {A : Va} {nf nr : Nat} {f : Int → Option Nat} (h : Lk w lb ms mi V A nf nr f) (hb : Below w.heap.size w w') : Lk w' lb ms mi V A nf nr f :=
  ⟨by rw [hb.block lb (hlt h.box)]; exact h.box, h.vw.keep hb, h.sp.keep hb, h.on.keep hb, fun q p hq => by
    obtain ⟨i, h1, h2, h3, b, g, h4⟩ := h.f1 q p hq
    exact ⟨i, h1, h2, h3, b, g, h4.keep hb⟩, h.f2, h.tab.keep hb⟩
end Go.Proofs.YtebmegghojiegaaDoor
