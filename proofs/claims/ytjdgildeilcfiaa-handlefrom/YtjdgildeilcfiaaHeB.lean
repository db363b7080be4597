/- What the law HandleOnce stands on: handles that were given, generations that only rise. -/
import Derived.Test.YtjdgildeilcfiaaHeA
namespace Go.Proofs.Ytjdgildeilcfiaa
open Go.RowKit
set_option linter.unusedVariables false

/-- A handle that was given out: its row's generation is its own or greater. -/
def Ge (L : List Rw) (x : Nat) : Prop := ∃ (i : Nat) (r : Rw), L[i]? = some r ∧ x % 65536 = i + 1 ∧ ((x / 65536 : Nat) : Int) ≤ r.gen
/-- The rows' generations are no lesser than these. -/
structure Up (R L : List Rw) : Prop where
  len : L.length = R.length
  gen : ∀ i (h : i < R.length), R[i].gen ≤ (L[i]'(by omega)).gen
theorem Up.refl (R : List Rw) : Up R R := ⟨rfl, fun i h => Int.le_refl _⟩
theorem Up.drop {R L : List Rw} (h : Up R L) {j : Nat} (hj : j < L.length) : Up R (dropL L j) := by
  have hl := h.len
  rw [dropL_eq hj]
  refine ⟨by rw [List.length_set]; exact h.len, fun i hi => ?_⟩
  rw [List.getElem_set]
  have := h.gen i hi
  split
  · rename_i e; subst e; exact this
  · exact this
theorem Ge.drop {L : List Rw} {x j : Nat} (g : Ge L x) (hj : j < L.length) : Ge (dropL L j) x := by
  obtain ⟨i, r, e, hi, q⟩ := g
  obtain ⟨hil, hr⟩ := List.getElem?_eq_some_iff.1 e
  rw [dropL_eq hj]
  by_cases hx : i = j
  · subst hx
    exact ⟨i, ⟨L[i].gen, false, 0, 0⟩, by simp [hil], hi, by rw [hr]; exact q⟩
  · exact ⟨i, r, by rw [List.getElem?_set_ne (Ne.symm hx)]; exact e, hi, q⟩
theorem makeG_old {L : List Rw} (h : nxL L < L.length) : makeG L = L[nxL L].gen + 1 := by unfold makeG; rw [dif_pos h]
theorem makeL_old {L : List Rw} (h : nxL L < L.length) (k a : Int) : makeL L k a = L.set (nxL L) ⟨L[nxL L].gen + 1, true, k, a⟩ := by unfold makeL; rw [dif_pos h]
theorem Up.make {R L : List Rw} (h : Up R L) (hn : nxL L < L.length) (k a : Int) : Up R (makeL L k a) := by
  have hl := h.len
  rw [makeL_old hn]
  refine ⟨by rw [List.length_set]; exact h.len, fun i hi => ?_⟩
  rw [List.getElem_set]
  have := h.gen i hi
  split
  · rename_i e; subst e; show R[nxL L].gen ≤ L[nxL L].gen + 1; omega
  · exact this
theorem Ge.make {L : List Rw} {x : Nat} (g : Ge L x) (hn : nxL L < L.length) (k a : Int) : Ge (makeL L k a) x := by
  obtain ⟨i, r, e, hi, q⟩ := g
  obtain ⟨hil, hr⟩ := List.getElem?_eq_some_iff.1 e
  rw [makeL_old hn]
  by_cases hx : i = nxL L
  · subst hx
    refine ⟨nxL L, ⟨L[nxL L].gen + 1, true, k, a⟩, by simp [hil], hi, ?_⟩
    show ((x / 65536 : Nat) : Int) ≤ L[nxL L].gen + 1
    rw [hr]; omega
  · exact ⟨i, r, by rw [List.getElem?_set_ne (Ne.symm hx)]; exact e, hi, q⟩
/-- What is given out anew was never given out. -/
theorem given {n : Nat} {R L : List Rw} {M : List Nat} (hg : Gd n L) (hu : Up R L) (hM : ∀ x ∈ M, Ge L x) (hn : nxL L < L.length) (k a : Int) (N : Nat) (hN : ofN ((nxL L : Nat) + 1) (makeG L) = N) :
    N % 65536 = nxL L + 1 ∧ N < 4294967296 ∧ ((N / 65536 : Nat) : Int) = makeG L ∧ makeG L ≤ 65535 ∧ (∀ h : nxL L < R.length, R[nxL L].gen < makeG L) ∧ N ∉ M ∧ ∀ x ∈ M ++ [N], Ge (makeL L k a) x := by
  have mi := makeG_in hg
  have n2 := hg.n2
  have ln := hg.len
  have ul := hu.len
  have hlt := of_lt ((nxL L : Nat) + 1) (makeG L)
  rw [hN] at hlt
  rw [of_in (by omega)] at hN
  have e1 : N % 65536 = nxL L + 1 := by omega
  have e2 : ((N / 65536 : Nat) : Int) = makeG L := by omega
  have hG := makeG_old hn
  have hno : N ∉ M := by
    intro hm
    obtain ⟨i, r, e, hi, q⟩ := hM N hm
    obtain rfl : i = nxL L := by omega
    obtain ⟨hil, hr⟩ := List.getElem?_eq_some_iff.1 e
    rw [hr] at hG
    omega
  refine ⟨e1, hlt, e2, mi.2, fun h => ?_, hno, fun x hx => ?_⟩
  · have := hu.gen (nxL L) h
    omega
  · simp at hx
    rcases hx with hx | rfl
    · exact (hM x hx).make hn k a
    · exact ⟨nxL L, _, makeL_at L k a, e1, by show _ ≤ makeG L; omega⟩

/-- Rows with these generations. -/
def genR (l : List Nat) : List Rw := l.map (fun (g : Nat) => ⟨max 1 (g : Int), false, 0, 0⟩)
theorem genR_len (l : List Nat) : (genR l).length = l.length := by simp [genR]
theorem genR_gd (l : List Nat) (h0 : 1 ≤ l.length) (h1 : l.length ≤ 20) (hl : ∀ x ∈ l, x < 65536) : Gd l.length (genR l) := by
  have ok : ∀ r ∈ genR l, okR r ∧ r.gen ≠ 0 := fun r hr => by
    obtain ⟨x, hx, rfl⟩ := List.mem_map.1 hr
    have := hl x hx
    refine ⟨⟨?_, ?_, fun e => (by cases e), fun _ => ⟨rfl, rfl⟩⟩, ?_⟩
    · show 0 ≤ max 1 (x : Int); omega
    · show max 1 (x : Int) ≤ 65535; omega
    · show max 1 (x : Int) ≠ 0; omega
  exact ⟨h0, by omega, by rw [genR_len]; exact Nat.le_refl _, fun r hr => (ok r hr).1, fun r hr => (ok r (List.mem_of_getLast? hr)).2⟩
theorem genR_take {l : List Nat} {i : Nat} (hi : i < l.length) : genR (l.take (i + 1)) = genR (l.take i) ++ [⟨max 1 (l[i] : Int), false, 0, 0⟩] := by
  unfold genR
  rw [List.take_succ_eq_append_getElem hi, List.map_append]
  rfl

/-- A table and the handles that were given out of it. -/
structure Onc (w wr : World) (b : Nat) (a : Option Addr) (c n : Nat) (L : List Rw) (ah : Option Addr) (ch : Nat) (M : List Nat) : Prop where
  on : On w wr b a c n L
  oh : Oh wr w.heap.size ah M ch
theorem Oh.apart {w : World} {B B' b : Nat} {a ah : Option Addr} {c n ch : Nat} {L : List Rw} {M : List Nat} (h : Oh w B' ah M ch) (hc : Ct w B b a c n L) : ∀ g, ob ah = some g → ¬ Mine b a g := by
  rintro g hg (e | e)
  · obtain ⟨cur, q⟩ := h.kind g hg
    rw [e, hc.box] at q
    simp at q
  · obtain ⟨cur, q⟩ := h.kind g hg
    obtain ⟨cur', q'⟩ := hc.row.kind g e
    rw [q] at q'
    simp at q'
theorem Onc.keep {w wr w' : World} {b : Nat} {a ah : Option Addr} {c n ch : Nat} {L : List Rw} {M : List Nat} (h : Onc w wr b a c n L ah ch M) (hb : Below wr.heap.size wr w') : Onc w w' b a c n L ah ch M := ⟨h.on.keep hb, h.oh.keep hb⟩
theorem Onc.turn {w wr w' : World} {b : Nat} {a a' ah : Option Addr} {c c' n ch : Nat} {L L' : List Rw} {M : List Nat} (h : Onc w wr b a c n L ah ch M) (hc : Ct w' w.heap.size b a' c' n L') (ht : Tu (Mine b a) wr w') : Onc w w' b a' c' n L' ah ch M := ⟨h.on.turn hc ht, h.oh.tu ht (h.oh.apart h.on.ct)⟩
/-- One handle more is told. -/
theorem Onc.more {w wr w' : World} {b : Nat} {a ah ah' : Option Addr} {c n ch ch' : Nat} {L : List Rw} {M M' : List Nat} (h : Onc w wr b a c n L ah ch M) (ho : Oh w' w.heap.size ah' M' ch') (ht : Tu (fun k => ob ah = some k) wr w') : Onc w w' b a c n L ah' ch' M' :=
  ⟨⟨h.on.ct.tu ht (fun e => h.oh.apart h.on.ct b e (.inl rfl)) (fun g hg e => h.oh.apart h.on.ct g e (.inr hg)), h.on.bel.trans (ht.below (fun i hi => (h.oh.ge i hi).1) h.on.bel.size)⟩, ho⟩
end Go.Proofs.Ytjdgildeilcfiaa
