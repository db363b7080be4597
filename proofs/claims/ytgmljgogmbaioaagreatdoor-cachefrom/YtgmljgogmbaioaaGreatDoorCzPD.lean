/- Plain mathematics: spans that data tell, one behind the other. -/
import Derived.Test.YtgmljgogmbaioaaGreatDoorMgDE
import Derived.Test.YtgmljgogmbaioaaGreatDoorMfNO
import Derived.Test.YtgmljgogmbaioaaGreatDoorKaTU
import Derived.Laws.AppendOwnNone
namespace Go.Proofs.YtgmljgogmbaioaaGreatDoor
open Go.RowKit
set_option linter.unusedVariables false
set_option maxRecDepth 4000

/-- The states of a span's slots, as its list of live ones tells. -/
def stT (t : Td) : List Nat := (List.range (slN t.c)).map fun i => if fOf t.l i = true then 1 else 0
def sgT (t : Td) : Sg := ⟨t.p.toNat, t.c.toNat, t.s.toNat, stT t⟩
def tdZ (ts : List Td) (k : Nat) : Td := ts.getD k ⟨0, 0, 0, []⟩
/-- May a span stand behind the page e? -/
def okD (P e : Int) (t : Td) : Bool := decide (newE t.p t.c t.s = 0 ∧ okL (slN t.c) (-1) t.l = true ∧ e ≤ t.p ∧ t.p + (pgsN t.c t.s : Int) ≤ P)
def endZ (ts : List Td) : Nat → Int
  | 0 => 0
  | k + 1 => (tdZ ts k).p + (pgsN (tdZ ts k).c (tdZ ts k).s : Int)
def stdZ (P : Int) (ts : List Td) : Nat → Bool
  | 0 => true
  | k + 1 => stdZ P ts k && okD P (endZ ts k) (tdZ ts k)
theorem stdZ_false {P : Int} {ts : List Td} {k : Nat} (h : okD P (endZ ts k) (tdZ ts k) = false) : ∀ n, k < n → stdZ P ts n = false
  | n + 1, hk => by
    rw [stdZ]
    rcases Nat.lt_or_eq_of_le (Nat.le_of_lt_succ hk) with e | rfl
    · rw [stdZ_false h n e, Bool.false_and]
    · rw [h, Bool.and_false]
theorem tdZ_at {ts : List Td} {k : Nat} (h : k < ts.length) : tdZ ts k = ts[k] := by
  unfold tdZ; rw [List.getD_eq_getElem?_getD, List.getElem?_eq_getElem h]; rfl
theorem stT_len (t : Td) : (stT t).length = slN t.c := by simp [stT]
theorem stT_at (t : Td) (i : Nat) (h : i < slN t.c) : (stT t)[i]? = some (if fOf t.l i = true then 1 else 0) := by simp [stT, h]
theorem stT_le (t : Td) : ∀ x ∈ stT t, x ≤ 1 := by
  intro x hx
  obtain ⟨i, _, rfl⟩ := List.mem_map.1 hx
  split <;> omega
/-- The numbers of a span that may be, as they are. -/
theorem td_nums {p c s : Int} (h : newE p c s = 0) : ((p.toNat : Nat) : Int) = p ∧ ((c.toNat : Nat) : Int) = c ∧ ((s.toNat : Nat) : Int) = s := by
  have r := newE_rt h
  refine ⟨by have := r.p0; omega, by have := r.c0; omega, ?_⟩
  by_cases e : c = 7
  · have h1 := r.lg e
    have f := r.facts.2.2.2.1
    unfold szI at f
    rw [if_pos e] at f
    omega
  · have := r.sm (by have := r.c7; omega); omega
theorem sgT_f {t : Td} (h : newE t.p t.c t.s = 0) (hl : okL (slN t.c) (-1) t.l = true) : (sgT t).f = fOf t.l := by
  funext j
  by_cases hj : j < slN t.c
  · rw [Sg.f_at (s := sgT t) (stT_at t j hj)]
    cases fOf t.l j <;> simp
  · have e : fOf t.l j = false := by
      cases e : fOf t.l j with
      | false => rfl
      | true => exact absurd (fOf_within hl j e) hj
    rw [e]
    cases e2 : (sgT t).f j with
    | false => rfl
    | true =>
      have := Sg.f_within e2
      have e3 : (sgT t).st.length = slN t.c := stT_len t
      omega
theorem sgT_ok {t : Td} (W : Nat) (h : newE t.p t.c t.s = 0) : (sgT t).Ok W := by
  have r := newE_rt h
  obtain ⟨e1, e2, e3⟩ := td_nums h
  refine ⟨?_, fun hc => ?_, fun hc => ?_, ?_, fun x hx => by have := stT_le t x hx; omega, fun _ x hx => stT_le t x hx⟩
  · show t.c.toNat ≤ 7; have := r.c7; omega
  · show t.s.toNat = 0
    have hc : t.c.toNat < 7 := hc
    have := r.sm (by omega); omega
  · have hc : t.c.toNat = 7 := hc
    show ofI ((t.s.toNat : Nat) : Int) = 7
    rw [e3]; exact r.lg (by omega)
  · show (stT t).length = slN ((t.c.toNat : Nat) : Int)
    rw [e2]; exact stT_len t
theorem sgT_k {t : Td} (h : newE t.p t.c t.s = 0) : (sgT t).k = pgsN t.c t.s := by
  obtain ⟨e1, e2, e3⟩ := td_nums h
  show pgsN ((t.c.toNat : Nat) : Int) ((t.s.toNat : Nat) : Int) = _
  rw [e2, e3]
/-- One span more at the end. -/
theorem Fit.snoc {W P : Nat} {t : Sg} (ht : t.Ok W) (hP : t.pg + t.k ≤ P) : ∀ {m : List Sg} {a : Nat}, Fit W P a m → a ≤ t.pg → (∀ s ∈ m, s.pg + s.k ≤ t.pg) → Fit W P a (m ++ [t])
  | [], a, _, ha, _ => ⟨ha, ht, hP⟩
  | s :: l, a, h, ha, hs => ⟨h.1, h.2.1, Fit.snoc ht hP h.2.2 (hs s List.mem_cons_self) (fun x hx => hs x (List.mem_cons_of_mem _ hx))⟩
/-- Where spans end. -/
def endM (m : List Sg) : Nat := match m.getLast? with
  | none => 0
  | some s => s.pg + s.k
theorem endM_snoc (m : List Sg) (t : Sg) : endM (m ++ [t]) = t.pg + t.k := by unfold endM; simp
theorem endM_nil : endM [] = 0 := rfl
theorem endM_last {m : List Sg} {k : Nat} (hk : k < m.length) (hl : m.length = k + 1) : endM m = m[k].pg + m[k].k := by
  unfold endM
  rw [List.getLast?_eq_getElem?, hl, Nat.add_sub_cancel, List.getElem?_eq_getElem hk]
theorem Fit.upto {W P : Nat} {m : List Sg} (h : Fit W P 0 m) : ∀ s ∈ m, s.pg + s.k ≤ endM m := by
  intro s hs
  obtain ⟨i, hi, rfl⟩ := List.getElem_of_mem hs
  obtain ⟨k, hk⟩ : ∃ k, m.length = k + 1 := ⟨m.length - 1, by omega⟩
  rw [endM_last (by omega) hk]
  rcases Nat.lt_or_eq_of_le (show i ≤ k by omega) with e | rfl
  · have := (h.split (i := k) (by omega)).2 m[i] (by rw [List.mem_iff_getElem]; exact ⟨i, by simp; omega, by simp⟩)
    omega
  · exact Nat.le_refl _
theorem pgF_snoc (m : List Sg) (t : Sg) : pgF (m ++ [t]) = turnU (pgF m) t.pg t.k true := by
  funext p
  unfold pgF turnU
  rw [List.any_append]
  simp only [List.any_cons, List.any_nil, Bool.or_false]
  by_cases h : t.pg ≤ p ∧ p < t.pg + t.k
  · rw [decide_eq_true h, Bool.or_true, if_pos h]
  · rw [decide_eq_false h, Bool.or_false, if_neg h]
theorem pgF_end {W P : Nat} {m : List Sg} (h : Fit W P 0 m) {p : Nat} (hp : endM m ≤ p) : pgF m p = false := by
  cases e : pgF m p with
  | false => rfl
  | true =>
    obtain ⟨s, hs, h1, h2⟩ := pgF_true.1 e
    have := h.upto s hs
    omega
/-- Slots that are free or live are kept by none. -/
theorem kof_app (m : List Sg) (t : Sg) (h : ∀ x ∈ t.st, x ≤ 1) : Kof (m ++ [t]) = Kof m := by
  funext v c
  show keptM v c (m ++ [t]) = keptM v c m
  unfold keptM
  rw [pl_append]
  have : pl (keptQ v c) [t] = [] := by
    rw [List.eq_nil_iff_forall_not_mem]
    intro a ha
    simp only [pl, List.append_nil] at ha
    obtain ⟨j, x, hx, hq, _⟩ := (mem_plS _ _ _ _ _).1 ha
    obtain ⟨_, rfl⟩ := of_decide_eq_true hq
    have := h _ (List.mem_of_getElem? hx)
    omega
  rw [this, List.append_nil]
end Go.Proofs.YtgmljgogmbaioaaGreatDoor

/- The document's From with spans. -/
namespace Go.Proofs.YtgmljgogmbaioaaGreatDoor
open Go.RowKit
set_option linter.unusedVariables false
set_option maxRecDepth 4000

/-- States of slots of which the first j are told. -/
def stU (l : List Int) (n j : Nat) : List Nat := (List.range n).map fun i => if i < j ∧ fOf l i = true then 1 else 0
theorem stU_len (l : List Int) (n j : Nat) : (stU l n j).length = n := by simp [stU]
theorem stU_zero (l : List Int) (n : Nat) : stU l n 0 = List.replicate n 0 := by
  apply List.ext_getElem
  · simp [stU]
  · intro i h1 h2; simp [stU]
theorem stU_all (t : Td) : stU t.l (slN t.c) (slN t.c) = stT t := by
  unfold stU stT
  apply List.map_congr_left
  intro i hi
  have := List.mem_range.1 hi
  simp [this]
theorem stU_no (l : List Int) (n j : Nat) (h : fOf l j = false) : stU l n (j + 1) = stU l n j := by
  unfold stU
  apply List.map_congr_left
  intro i _
  by_cases e : i = j
  · subst e; simp [h]
  · have : (i < j + 1) = (i < j) := propext (by omega)
    simp only [this]
theorem stU_yes (l : List Int) (n j : Nat) (hj : j < n) (h : fOf l j = true) : stU l n (j + 1) = (stU l n j).set j 1 := by
  apply List.ext_getElem
  · simp [stU]
  · intro i h1 h2
    rw [List.getElem_set]
    simp only [stU, List.getElem_map, List.getElem_range]
    by_cases e : j = i
    · subst e; simp [h]
    · have : (i < j + 1) = (i < j) := propext (by omega)
      simp only [this, if_neg e]
/-- A span that is being made: its box, its states so far, the document's span beside it. -/
structure InF (w wz : World) (mb mg : Nat) (p c s : Int) (f : Nat → Bool) (n : Nat) (xb q0 : Nat) (sv : List Nat) : Prop where
  bel : Below w.heap.size w wz
  ref : Ref wz mb mg p c s n f
  bx : wz.heap[xb]? = some (.cells #[.int .i64 p, .int .i64 c, .int .i64 s, .slice (some ⟨q0, 0, none⟩) n n] 75 (0, 0))
  st : wz.heap[q0]? = some (.cells (sv.map numV).toArray 3 (0, 0))
  lx : w.heap.size ≤ xb
  lq : w.heap.size ≤ q0
  sl : sv.length = n
theorem InF.qx {w wz : World} {mb mg : Nat} {p c s : Int} {f : Nat → Bool} {n xb q0 : Nat} {st : List Nat} (h : InF w wz mb mg p c s f n xb q0 st) : q0 ≠ xb ∧ q0 ≠ mb ∧ q0 ≠ mg := by
  refine ⟨fun e => ?_, fun e => ?_, fun e => ?_⟩
  · have h1 := h.st; rw [e, h.bx] at h1; simp at h1
  · have h1 := h.st; rw [e, h.ref.box] at h1; simp at h1
  · have h1 := h.st; rw [e, h.ref.row] at h1; simp at h1
theorem InF.put {w wz : World} {mb mg : Nat} {p c s : Int} {f : Nat → Bool} {n xb q0 : Nat} {st : List Nat} (h : InF w wz mb mg p c s f n xb q0 st) (j v : Nat) : InF w (wz.setCell ⟨q0, j, none⟩ (.int .i64 (v : Nat))) mb mg p c s f n xb q0 (st.set j v) := by
  obtain ⟨n1, n2, n3⟩ := h.qx
  have on : Only q0 wz (wz.setCell ⟨q0, j, none⟩ (.int .i64 (v : Nat))) := Only.set q0 j _ wz
  refine ⟨h.bel.trans (on.below h.lq), h.ref.beside on (Ne.symm n2) (Ne.symm n3), by rw [on.block _ (Ne.symm n1)]; exact h.bx, ?_, h.lx, h.lq, by rw [List.length_set]; exact h.sl⟩
  rw [heap_put h.st]
  congr 2
  simp [numV]
theorem InF.keep {w wz wy : World} {mb mg : Nat} {p c s : Int} {f : Nat → Bool} {n xb q0 : Nat} {st : List Nat} (h : InF w wz mb mg p c s f n xb q0 st) (hb : Below wz.heap.size wz wy) : InF w wy mb mg p c s f n xb q0 st :=
  ⟨h.bel.trans (hb.mono h.bel.size), h.ref.keep hb, bblock hb h.bx, bblock hb h.st, h.lx, h.lq, h.sl⟩
theorem zst_row (l : List Int) (n : Nat) : zst n = ((stU l n 0).map numV).toArray := by rw [stU_zero]; rfl
theorem InF.new1 {w : World} {mb mg : Nat} {p c s : Int} {f : Nat → Bool} {n : Nat} (l : List Int) (h : Ref w mb mg p c s n f) : InF w ((w.alloc (.cells (zst n) 3)).alloc (.cells #[.int .i64 p, .int .i64 c, .int .i64 s, .slice (some ⟨w.heap.size, 0, none⟩) n n] 75)).drew mb mg p c s f n (w.heap.size + 1) w.heap.size (stU l n 0) := by
  have b1 : Below w.heap.size w (w.alloc (.cells (zst n) 3)) := (Below.refl _ w).alloc (Nat.le_refl _) _
  have b2 : Below (w.heap.size + 1) (w.alloc (.cells (zst n) 3)) ((w.alloc (.cells (zst n) 3)).alloc (.cells #[.int .i64 p, .int .i64 c, .int .i64 s, .slice (some ⟨w.heap.size, 0, none⟩) n n] 75)) := (Below.refl _ _).alloc (by simp) _
  have b : Below w.heap.size w ((w.alloc (.cells (zst n) 3)).alloc (.cells #[.int .i64 p, .int .i64 c, .int .i64 s, .slice (some ⟨w.heap.size, 0, none⟩) n n] 75)).drew := (b1.trans (b2.mono (by omega))).drew
  refine ⟨b, h.keep b, ?_, ?_, by omega, Nat.le_refl _, stU_len _ _ _⟩
  · have := Go.heap_alloc_new (w.alloc (.cells (zst n) 3)) (.cells #[.int .i64 p, .int .i64 c, .int .i64 s, .slice (some ⟨w.heap.size, 0, none⟩) n n] 75)
    rw [World.size_alloc] at this
    exact this
  · rw [← zst_row]
    show ((w.alloc (.cells (zst n) 3)).alloc _).heap[w.heap.size]? = _
    rw [Go.heap_alloc_old _ _ (by simp)]
    exact Go.heap_alloc_new w _
theorem InF.new2 {w : World} {mb mg : Nat} {p c s : Int} {f : Nat → Bool} {n : Nat} (l : List Int) (h : Ref w mb mg p c s n f) : InF w ((w.alloc (.cells #[.int .i64 p, .int .i64 c, .int .i64 s, .slice (some ⟨w.heap.size + 1, 0, none⟩) n n] 75)).alloc (.cells (zst n) 3)).drew mb mg p c s f n w.heap.size (w.heap.size + 1) (stU l n 0) := by
  have b1 : Below w.heap.size w (w.alloc (.cells #[.int .i64 p, .int .i64 c, .int .i64 s, .slice (some ⟨w.heap.size + 1, 0, none⟩) n n] 75)) := (Below.refl _ w).alloc (Nat.le_refl _) _
  have b2 : Below (w.heap.size + 1) (w.alloc (.cells #[.int .i64 p, .int .i64 c, .int .i64 s, .slice (some ⟨w.heap.size + 1, 0, none⟩) n n] 75)) ((w.alloc (.cells #[.int .i64 p, .int .i64 c, .int .i64 s, .slice (some ⟨w.heap.size + 1, 0, none⟩) n n] 75)).alloc (.cells (zst n) 3)) := (Below.refl _ _).alloc (by simp) _
  have b : Below w.heap.size w ((w.alloc (.cells #[.int .i64 p, .int .i64 c, .int .i64 s, .slice (some ⟨w.heap.size + 1, 0, none⟩) n n] 75)).alloc (.cells (zst n) 3)).drew := (b1.trans (b2.mono (by omega))).drew
  refine ⟨b, h.keep b, ?_, ?_, Nat.le_refl _, by omega, stU_len _ _ _⟩
  · show ((w.alloc _).alloc (.cells (zst n) 3)).heap[w.heap.size]? = _
    rw [Go.heap_alloc_old _ _ (by simp)]
    exact Go.heap_alloc_new w _
  · rw [← zst_row]
    have := Go.heap_alloc_new (w.alloc (.cells #[.int .i64 p, .int .i64 c, .int .i64 s, .slice (some ⟨w.heap.size + 1, 0, none⟩) n n] 75)) (.cells (zst n) 3)
    rw [World.size_alloc] at this
    exact this
theorem InF.cells {w wz : World} {mb mg : Nat} {p c s : Int} {f : Nat → Bool} {n xb q0 : Nat} {st : List Nat} (h : InF w wz mb mg p c s f n xb q0 st) : wz.cell? ⟨xb, 0, none⟩ = some (.int .i64 p) ∧ wz.cell? ⟨xb, 1, none⟩ = some (.int .i64 c) ∧ wz.cell? ⟨xb, 2, none⟩ = some (.int .i64 s) ∧ wz.cell? ⟨xb, 3, none⟩ = some (.slice (some ⟨q0, 0, none⟩) n n) :=
  ⟨cell_of_row _ _ 0 _ _ _ h.bx, cell_of_row _ _ 1 _ _ _ h.bx, cell_of_row _ _ 2 _ _ _ h.bx, cell_of_row _ _ 3 _ _ _ h.bx⟩
/-- The row with a span more behind. -/
theorem Rm.snoc {w wz w' E : World} {M : Nat → Nat} {rb : Nat} {a a' : Option Addr} {cap cap' : Nat} {gs : List Nat} {P W : Nat} {m : List Sg} (h : Rm w M rb a cap gs P W m) (h2 : 2 ≤ w.heap.size) (bz : Below w.heap.size w wz) (bE : Below wz.heap.size wz E) (t : Sg) (q0 : Nat) (hq : wz.heap[q0]? = some (.cells (t.st.map numV).toArray 3 (0, 0))) (lq : w.heap.size ≤ q0)
    (hrow : Mo w' 0 a' (m ++ [t]) (gs ++ [q0]) cap') (hob : ob a' = ob a ∨ ob a' = some E.heap.size) (htu : Tu (fun k => ob a = some k) E w') (n : Nat) (hn : m.length = n) :
    Rm (w'.setCell ⟨rb, 2, none⟩ (.slice a' (n + 1) cap')) (fun k => if k < w.heap.size then M k else if k = q0 then 3 + t.pg else if ob a' = some k then 2 else 0) rb a' cap' (gs ++ [q0]) P W (m ++ [t]) ∧ w'.frozen? ⟨rb, 2, none⟩ = false := by
  subst hn
  have on : Only rb w' (w'.setCell ⟨rb, 2, none⟩ (.slice a' (m.length + 1) cap')) := Only.set rb 2 _ w'
  have hrb := hlt h.box
  have bwE : Below w.heap.size w E := bz.trans (bE.mono bz.size)
  have hq0 := hlt hq
  have zE := bE.size
  have oa : ∀ g, ob a = some g → g < w.heap.size ∧ M g = 2 := fun g hg => by
    obtain ⟨_, ⟨h1, _⟩ | ⟨g', c', cur, h1, _, h3, _⟩⟩ := h.row
    · injection h1 with e1; subst e1; cases hg
    · cases h1; cases hg; exact ⟨hlt h3, h.lr _ rfl⟩
  have old : ∀ k, k < w.heap.size → (if k < w.heap.size then M k else if k = q0 then 3 + t.pg else if ob a' = some k then 2 else 0) = M k := fun k hk => if_pos hk
  have st : ∀ k o, w.heap[k]? = some o → M k ≠ 2 → w'.heap[k]? = some o := fun k o hk hM => htu.block k o (bblock bwE hk) (fun e => hM (oa k e).2)
  have bx1 := st rb _ h.box (by rw [h.lb]; decide)
  have rbM : M rb = 1 := h.lb
  refine ⟨⟨by rw [old 0 (by omega)]; exact h.m0, by rw [old 1 (by omega)]; exact h.m1, ?_, by rw [old rb hrb]; exact h.lb, ?_, fun g hg => ?_, hrow.1, fun i hi hi' => ?_⟩, frozen_of_row _ _ _ _ _ bx1⟩
  · rw [heap_put bx1, List.length_append]; simp
  · rw [List.length_append] 
    obtain ⟨h0, h1 | ⟨g, c', cur, h1, hbg, h3, h4⟩⟩ := hrow.2
    · rw [List.length_append] at h1 h0; exact ⟨h0, .inl h1⟩
    · rw [List.length_append] at h1 h0 h4
      refine ⟨h0, .inr ⟨g, c', cur, h1, Nat.zero_le _, ?_, h4⟩⟩
      rw [on.block g (fun e => ?_)]
      · exact h3
      · have : w'.heap[rb]? = _ := bx1
        rw [e, this] at h3
        simp at h3
  · rcases hob with e | e
    · rw [e] at hg
      obtain ⟨k1, k2⟩ := oa g hg
      rw [old g k1]; exact k2
    · have hg' := hg
      rw [e] at hg'
      have : E.heap.size = g := Option.some.inj hg'
      have := bwE.size
      show (if g < w.heap.size then M g else if g = q0 then 3 + t.pg else if ob a' = some g then 2 else 0) = 2
      rw [if_neg (by omega), if_neg (by omega), if_pos hg]
  · rw [List.length_append, List.length_singleton] at hi
    have gl := h.glen
    by_cases e : i = m.length
    · subst e
      have e1 : (gs ++ [q0])[m.length] = q0 := by rw [List.getElem_append_right (by omega)]; simp [gl]
      have e2 : (m ++ [t])[m.length] = t := by rw [List.getElem_append_right (Nat.le_refl _)]; simp
      rw [e1, e2]
      refine ⟨?_, ?_⟩
      · rw [on.block q0 (fun e => by omega)]
        exact htu.block q0 _ (bblock bE hq) (fun e => by have := (oa q0 e).1; omega)
      · show (if q0 < w.heap.size then M q0 else if q0 = q0 then 3 + t.pg else if ob a' = some q0 then 2 else 0) = 3 + t.pg
        rw [if_neg (by omega), if_pos rfl]
    · have hi1 : i < m.length := by omega
      have hi2 : i < gs.length := by omega
      have e1 : (gs ++ [q0])[i] = gs[i] := List.getElem_append_left hi2
      have e2 : (m ++ [t])[i] = m[i] := List.getElem_append_left hi1
      rw [e1, e2]
      obtain ⟨k1, k2⟩ := h.st i hi1 hi2
      refine ⟨?_, by rw [old _ (hlt k1)]; exact k2⟩
      rw [on.block _ (fun e => by rw [e, rbM] at k2; omega)]
      exact st _ _ k1 (by rw [k2]; omega)
/-- What the document's From leaves. -/
def FromR (w : World) (P W : Nat) (ts : List Td) (r : Bool) (e : Ending) (w' : World) : Prop :=
  (r = true ∧ ∃ rb, e = .returned (.tuple #[.pointer (some ⟨rb, 0, none⟩), .int .i64 0]) ∧ BornR w rb P W (ts.map sgT) w') ∨ (r = false ∧ e = .returned (.tuple #[.pointer none, .int .i64 4]) ∧ Below w.heap.size w w')
theorem mfrom_bad (p v : Int) (a : Option Addr) (n c : Nat) (w : World) (h : p < 1 ∨ 4096 < p ∨ v < 1 ∨ 8 < v) : Calls Tryz.prog 13 #[.int .i64 p, .int .i64 v, .slice a n c] w fun e w' => e = .returned (.tuple #[.pointer none, .int .i64 2]) ∧ w = w' := by
  by_cases h1 : p < 1
  · go_enter Tryz.func13, Tryz.ntmps13
    go_wp2
    go_ret2
    exact ⟨rfl, rfl⟩
  · by_cases h2 : 4096 < p
    · go_enter Tryz.func13, Tryz.ntmps13
      go_wp2
      go_ret2
      exact ⟨rfl, rfl⟩
    · by_cases h3 : v < 1
      · go_enter Tryz.func13, Tryz.ntmps13
        go_wp2
        go_ret2
        exact ⟨rfl, rfl⟩
      · have h4 : 8 < v := by omega
        go_enter Tryz.func13, Tryz.ntmps13
        go_wp2
        go_ret2
        exact ⟨rfl, rfl⟩
/-- The document's cache, a span more behind. -/
theorem bornR_snoc {w wr wv : World} {rb P W : Nat} {m : List Sg} (h : BornR w rb P W m wr) (h2 : 2 ≤ w.heap.size) (bv : Below wr.heap.size wr wv) (t : Sg) (q0 : Nat) (hq : wv.heap[q0]? = some (.cells (t.st.map numV).toArray 3 (0, 0))) (lq : wr.heap.size ≤ q0) (k : Nat) (hk : m.length = k) (hk4 : k ≤ 4096) (ns : Nat) (hns : t.st.length = ns) :
    ∃ a0 c0 E a9 c9 w9, wv.cell? ⟨rb, 2, none⟩ = some (.slice a0 k c0) ∧ wv.drew.alloc (.cells #[.int .i64 (t.pg : Nat), .int .i64 (t.cl : Nat), .int .i64 (t.bts : Nat), .slice (some ⟨q0, 0, none⟩) ns ns] 75) = E ∧ E.cell? ⟨rb, 2, none⟩ = some (.slice a0 k c0) ∧
      (Builtin.append_ #[65, 65] 65 #[.slice a0 k c0, .slice (some ⟨wv.heap.size, 0, none⟩) 1 1]).run Tryz.prog E = .ok (.slice a9 (k + 1) c9) w9 ∧ w9.cell? ⟨rb, 2, none⟩ = some (.slice a0 k c0) ∧ w9.frozen? ⟨rb, 2, none⟩ = false ∧ BornR w rb P W (m ++ [t]) (w9.setCell ⟨rb, 2, none⟩ (.slice a9 (k + 1) c9)) := by
  subst hns
  obtain ⟨⟨M, ⟨a0, c0, gs, hR⟩, hlow⟩, bw⟩ := h
  have hwr := bw.size
  have hwv := bv.size
  obtain ⟨E, hE⟩ : ∃ E, wv.drew.alloc (.cells #[.int .i64 (t.pg : Nat), .int .i64 (t.cl : Nat), .int .i64 (t.bts : Nat), .slice (some ⟨q0, 0, none⟩) t.st.length t.st.length] 75) = E := ⟨_, rfl⟩
  have bE : Below wv.heap.size wv E := by rw [← hE]; exact (Below.refl _ wv).drew.alloc (Nat.le_refl _) _
  have rE : E.heap[wv.heap.size]? = some (.cells (mcs t q0).toArray 75 (0, 0)) := by rw [← hE]; exact Go.heap_alloc_new wv.drew _
  have bwE : Below wr.heap.size wr E := bv.trans (bE.mono hwv)
  have mo : Mo E 0 a0 m gs c0 := ⟨hR.glen, ownsRow_keepB hR.row bwE⟩
  obtain ⟨a9, c9, w9, run9, mo9, tu9, ob9⟩ := appM_run 0 E (Nat.zero_le _) a0 m gs k c0 mo hk wv.heap.size 0 [t] [q0] 1 1 rfl rfl (fun j u hj => by
    rw [Nat.zero_add, cell_of_row _ _ _ _ _ _ rE]
    simpa [cellsM] using hj) (by omega) (by simp)
  have b2 := hR.box2
  rw [hk] at b2
  have hrb := hlt hR.box
  have rbw : w.heap.size ≤ rb := by
    rcases Nat.lt_or_ge rb w.heap.size with e | e
    · have := hlow rb e; rw [hR.lb] at this; omega
    · exact e
  obtain ⟨hR', fz⟩ := hR.snoc (a' := a9) (cap' := c9) (w' := w9) (by omega) bv bE t q0 hq lq mo9 ob9 tu9 k hk
  have oa : ∀ g, ob a0 = some g → w.heap.size ≤ g := fun g hg => by
    have := hR.lr g hg
    rcases Nat.lt_or_ge g w.heap.size with e | e
    · have := hlow g e; omega
    · exact e
  have B9 : Below w.heap.size w w9 := (bw.trans (bwE.mono hwr)).trans (tu9.below (fun i e => oa i e) (by have := bE.size; omega))
  have on : Only rb w9 (w9.setCell ⟨rb, 2, none⟩ (.slice a9 (k + 1) c9)) := Only.set rb 2 _ w9
  have bx9 : w9.heap[rb]? = some (.cells #[.int .i64 (P : Nat), .int .i64 (W : Nat), .slice a0 m.length c0] 67 (0, 0)) := tu9.block rb _ (bblock bwE hR.box) (fun e => by have := hR.lr rb e; rw [hR.lb] at this; omega)
  refine ⟨a0, c0, E, a9, c9, w9, bcell bv b2, hE, bcell bwE b2, run9, ?_, fz, ⟨_, ⟨a9, c9, _, hR'⟩, fun j hj => ?_⟩, B9.trans (on.below rbw)⟩
  · rw [← hk]; exact cell_of_row _ _ 2 _ _ _ bx9
  · show (if j < wr.heap.size then M j else _) = 0
    rw [if_pos (by omega)]; exact hlow j hj
set_option maxRecDepth 20000 in
set_option maxHeartbeats 8000000 in
theorem mfrom_any (P W : Nat) (a : Option Addr) (n cap : Nat) (ts : List Td) (w : World) (h : RdT w a ts) (hn : ts.length = n) (hn9 : n ≤ 100000) (h2 : 2 ≤ w.heap.size) (hp : 1 ≤ P ∧ P ≤ 4096) (hw : 1 ≤ W ∧ W ≤ 8) (r : Bool) (hR : stdZ (P : Int) ts n = r) :
    Calls Tryz.prog 13 #[.int .i64 (P : Nat), .int .i64 (W : Nat), .slice a n cap] w (FromR w P W ts r) := by
  have H : Hid (RdT w a ts) := h
  have HN : Hid (ts.length = n) := hn
  have HR : Hid (stdZ (P : Int) ts n = r) := hR
  have H2 : Hid (2 ≤ w.heap.size) := h2
  have hp2 := hp.2
  have p1 : ¬ ((P : Int) < 1) := by omega
  have p2 : ¬ ((4096 : Int) < (P : Int)) := by omega
  have q1 : ¬ ((W : Int) < 1) := by omega
  have q2 : ¬ ((8 : Int) < (W : Int)) := by omega
  obtain ⟨D, hD⟩ : ∃ D, w.alloc (.cells #[.int .i64 (P : Nat), .int .i64 (W : Nat), .slice none 0 0] 67) = D := ⟨_, rfl⟩
  have bD : Below w.heap.size w D := by rw [← hD]; exact (Below.refl _ w).alloc (Nat.le_refl _) _
  have F : Hid (BornR w w.heap.size P W [] D) := by
    refine ⟨⟨fun k => if k = w.heap.size then 1 else 0, ⟨none, 0, [], ?_, ?_, ?_, ?_, ?_, ?_, rfl, ?_⟩, fun k hk => if_neg (by omega)⟩, bD⟩
    · exact if_neg (by omega)
    · exact if_neg (by omega)
    · rw [← hD]; exact Go.heap_alloc_new w _
    · exact if_pos rfl
    · exact World.ownsRow_nil _ _ _ _
    · intro g hg; cases hg
    · intro i hi; simp at hi
  have HD : Hid (w.alloc (.cells #[.int .i64 (P : Nat), .int .i64 (W : Nat), .slice none 0 0] 67) = D) := hD
  obtain ⟨rb, hrb⟩ : ∃ rb, w.heap.size = rb := ⟨_, rfl⟩
  have HRB : Hid (w.heap.size = rb) := hrb
  rw [hrb] at F
  clear bD hD hp hw h2 h hn hR hrb
  go_enter Tryz.func13, Tryz.ntmps13
  go_upto_region 4 with (fail)
  rw [HD.out, HRB.out]
  go_wp2_with fail
  go_loopw [9, 36] (fun ev iv wr => ∃ (k : Nat) (e : Int), k ≤ n ∧ iv = .int .i64 (k : Nat) ∧ ev = .int .i64 e ∧ endZ ts k = e ∧ stdZ (P : Int) ts k = true ∧ 0 ≤ e ∧ e ≤ (P : Int) ∧ (k : Int) ≤ e ∧ BornR w rb P W ((ts.take k).map sgT) wr) (fun _ iv _ => n - lenW iv)
  case atStart => exact ⟨0, 0, Nat.zero_le _, rfl, rfl, rfl, rfl, Int.le_refl _, by omega, by omega, F.out⟩
  case round =>
    obtain ⟨k, e, hk, rfl, rfl, he, hst, he0, heP, hke, hBR⟩ := hrel
    rename World => wr
    have HEE : Hid (endZ ts k = e) := he
    have STD : Hid (stdZ (P : Int) ts k = true) := hst
    have BR : Hid (BornR w rb P W ((ts.take k).map sgT) wr) := hBR
    have BWR : Hid (Below w.heap.size w wr) := hBR.2
    clear he hst hBR F
    by_cases hkn : k < n
    · have hkt : k < ts.length := by rw [HN.out]; exact hkn
      obtain ⟨g, off, la, lk, rfl, c0, c1, c2, c3, hI, hl⟩ := (H.out.keep BWR.out) k hkt
      have MT : (ts.take (k + 1)).map sgT = (ts.take k).map sgT ++ [sgT ts[k]] := by rw [List.take_succ_eq_append_getElem hkt, List.map_append]; rfl
      have TZ : tdZ ts k = ts[k] := tdZ_at hkt
      obtain ⟨t, ht⟩ : ∃ t, ts[k] = t := ⟨_, rfl⟩
      rw [ht] at c0 c1 c2 c3 hI hl MT TZ
      have OKT : okD (P : Int) (endZ ts k) (tdZ ts k) = okD (P : Int) e t := by rw [TZ, HEE.out]
      have BAD : Hid (okD (P : Int) e t = false → r = false) := fun e0 => by
        rw [← HR.out]
        exact stdZ_false (by rw [OKT, e0]) n hkn
      have NXT : Hid (okD (P : Int) e t = true → stdZ (P : Int) ts (k + 1) = true) := fun e0 => by rw [stdZ, STD.out, OKT, e0]; rfl
      have NEND : Hid (endZ ts (k + 1) = t.p + (pgsN t.c t.s : Int)) := by show _ = _; rw [endZ, TZ]
      have HMT : Hid ((ts.take (k + 1)).map sgT = (ts.take k).map sgT ++ [sgT t]) := MT
      have ML : Hid (((ts.take k).map sgT).length = k) := by show _ = _; rw [List.length_map, List.length_take, HN.out]; omega
      obtain ⟨p, c, s, l⟩ := t
      simp only at c0 c1 c2 c3 hI hl NEND
      have LL : Hid (l.length ≤ maxLen) := hl
      obtain ⟨E, hE⟩ : ∃ E, wr.alloc (.cells #[.int .i64 p, .int .i64 c, .int .i64 s, .slice la l.length lk] 48) = E := ⟨_, rfl⟩
      have HE : Hid (wr.alloc (.cells #[.int .i64 p, .int .i64 c, .int .i64 s, .slice la l.length lk] 48) = E) := hE
      have BE : Hid (Below wr.heap.size wr E) := by show Below _ _ _; rw [← hE]; exact (Below.refl _ wr).alloc (Nat.le_refl _) _
      have RE : E.heap[wr.heap.size]? = some (.cells (dcells p c s la l.length lk) 48 (0, 0)) := by rw [← hE]; exact Go.heap_alloc_new wr _
      have HRE : Hid (E.heap[wr.heap.size]? = some (.cells (dcells p c s la l.length lk) 48 (0, 0))) := RE
      have e0 := dcell0 RE
      have e1 := dcell1 RE
      have e2 := dcell2 RE
      have e3 := dcell3 RE
      have IE : Hid (IsI E la l) := hI.keep BE.out
      have k0 : (k : Int) < (n : Int) := by omega
      clear hI hl hE RE ht MT TZ OKT hkt
      by_cases hne : newE p c s = 0
      · have HNE : Hid (newE p c s = 0) := hne
        have RT := newE_rt hne
        obtain ⟨p, rfl⟩ : ∃ p' : Nat, p = p' := ⟨p.toNat, by have := RT.p0; omega⟩
        obtain ⟨c, rfl⟩ : ∃ c' : Nat, c = c' := ⟨c.toNat, by have := RT.c0; omega⟩
        obtain ⟨s, rfl⟩ : ∃ s' : Nat, s = s' := ⟨s.toNat, ((td_nums hne).2.2).symm⟩
        have pk := pgsN_le (c : Int) (s : Int)
        have pp1 := RT.p1
        have G1 := RT.facts.2.2.2.2.2.2.1
        have n16 := RT.facts.2.1
        obtain ⟨G, hG⟩ : ∃ G, pgsN (c : Int) (s : Int) = G := ⟨_, rfl⟩
        have HG : Hid (pgsN (c : Int) (s : Int) = G) := hG
        obtain ⟨ns, hns⟩ : ∃ ns, slN (c : Int) = ns := ⟨_, rfl⟩
        have HNS : Hid (slN (c : Int) = ns) := hns
        rw [hG] at pk pp1 G1 NEND
        rw [hns] at n16
        obtain ⟨q, hq⟩ : ∃ q, okL ns (-1) l = q := ⟨_, rfl⟩
        have HQ : Hid (okL ns (-1) l = q) := hq
        have OKE : Hid (q = true → okD (P : Int) e ⟨(p : Int), (c : Int), (s : Int), l⟩ = decide (e ≤ (p : Int) ∧ (p : Int) + (G : Int) ≤ (P : Int))) := fun eq => by
          unfold okD
          show decide (newE (p : Int) (c : Int) (s : Int) = 0 ∧ okL (slN (c : Int)) (-1) l = true ∧ e ≤ (p : Int) ∧ (p : Int) + (pgsN (c : Int) (s : Int) : Int) ≤ (P : Int)) = _
          rw [hG, hns]
          congr 1
          exact propext ⟨fun h => ⟨h.2.2.1, h.2.2.2⟩, fun h => ⟨hne, hq.trans eq, h.1, h.2⟩⟩
        have OKF : Hid (q = false → okD (P : Int) e ⟨(p : Int), (c : Int), (s : Int), l⟩ = false) := fun eq => by
          refine decide_eq_false (fun h => ?_)
          have h2 : okL (slN (c : Int)) (-1) l = true := h.2.1
          rw [hns, hq, eq] at h2; cases h2
        clear hne RT hG hns hq
        go_upto_region 8 with (fail)
        rw [HE.out]
        go_wp2_with fail
        refine (rof_any (p : Int) (c : Int) (s : Int) la lk l ns q _ IE.out LL.out HNE.out HNS.out HQ.out).mono ?_
        rintro e' w2 ⟨b2, ⟨hqf, rfl⟩ | ⟨hqt, mb, mg, rfl, hRef, gmb, gmg⟩⟩
        · have RF : Hid (r = false) := BAD.out (OKF.out hqf)
          have B2 : Hid (Below w.heap.size w w2) := BWR.out.trans ((BE.out.trans (b2.mono BE.out.size)).mono BWR.out.size)
          clear b2 hqf
          go_wp2
          go_ret2
          exact .inr ⟨RF.out, rfl, B2.out⟩
        · have B2 : Hid (Below wr.heap.size wr w2) := BE.out.trans (b2.mono BE.out.size)
          have REF : Hid (Ref w2 mb mg (p : Int) (c : Int) (s : Int) ns (fOf l)) := hRef
          have d0 := bcell b2 e0
          have d1 := bcell b2 e1
          have d2 := bcell b2 e2
          have m3 := hRef.c3
          have MK : ∀ w0 : World, (Instr.makeSlice 34 (.int .i64 (ns : Nat)) (.int .i64 (ns : Nat))).run Tryz.prog w0 = .ok (.slice (some ⟨w0.heap.size, 0, none⟩) ns ns) (w0.alloc (.cells (zst ns) 3)) := fun w0 => make_I w0 ns (by omega)
          have HQT : Hid (q = true) := hqt
          clear b2 hRef gmb gmg hqt e0 e1 e2 e3 c0 c1 c2 c3
          go_upto_region 11 with (fail)
          go_cut [14] from 47 to 59 (fun v wx => ∃ xb q0, v = .pointer (some ⟨xb, 0, none⟩) ∧ InF w2 wx mb mg (p : Int) (c : Int) (s : Int) (fOf l) ns xb q0 (stU l ns 0))
          case first =>
            have REFH := REF.out
            go_region_held3 (fun w' => w'.cell? ⟨wr.heap.size, 0, none⟩ = some (.int .i64 (p : Nat)) ∧ w'.cell? ⟨wr.heap.size, 1, none⟩ = some (.int .i64 (c : Nat)) ∧ w'.cell? ⟨wr.heap.size, 2, none⟩ = some (.int .i64 (s : Nat)) ∧ w'.cell? ⟨mb, 3, none⟩ = some (.slice (some ⟨mg, 0, none⟩) ns ns)) (first | exact ⟨d0, d1, d2, m3⟩ | go_keep) (fail)
            all_goals go_wp2
            all_goals go_meet
            · exact ⟨_, _, rfl, InF.new1 l REFH⟩
            · exact ⟨_, _, rfl, InF.new2 l REFH⟩
          case rest =>
            obtain ⟨xb, q0, rfl, hIF⟩ := hcut
            have I0 : Hid (InF w2 wc mb mg (p : Int) (c : Int) (s : Int) (fOf l) ns xb q0 (stU l ns 0)) := hIF
            have m3c := hIF.ref.c3
            clear hIF m3 d0 d1 d2
            go_wp2_with fail
            go_loopw [65] (fun jv wz => ∃ j : Nat, j ≤ ns ∧ jv = .int .i64 (j : Nat) ∧ InF w2 wz mb mg (p : Int) (c : Int) (s : Int) (fOf l) ns xb q0 (stU l ns j)) (fun jv _ => ns - lenW jv)
            case atStart => exact ⟨0, Nat.zero_le _, rfl, I0.out⟩
            case round =>
              clear m3c
              obtain ⟨j, hj, rfl, hI⟩ := hrel
              rename World => wz
              have HI : Hid (InF w2 wz mb mg (p : Int) (c : Int) (s : Int) (fOf l) ns xb q0 (stU l ns j)) := hI
              by_cases hjn : j < ns
              · have m3 := hI.ref.c3
                have mj := hI.ref.cell j hjn
                have j0 : (j : Int) < (ns : Int) := by omega
                have j1 : (0 : Int) ≤ (j : Int) := by omega
                by_cases hf : fOf l j = true
                · rw [hf] at mj
                  obtain ⟨x0, x1, x2, x3⟩ := hI.cells
                  have sj := st_cell hI.st j (by rw [hI.sl]; exact hjn)
                  obtain ⟨y, hy⟩ : ∃ y, (stU l ns j)[j]'(by rw [hI.sl]; exact hjn) = y := ⟨_, rfl⟩
                  rw [hy] at sj
                  have fj : wz.frozen? ⟨q0, j, none⟩ = false := frozen_of_row _ _ _ _ _ hI.st
                  have NI : Hid (InF w2 (wz.setCell ⟨q0, j, none⟩ (.int .i64 1)) mb mg (p : Int) (c : Int) (s : Int) (fOf l) ns xb q0 (stU l ns (j + 1))) := by
                    show InF _ _ _ _ _ _ _ _ _ _ _ _
                    rw [stU_yes l ns j hjn hf]
                    exact hI.put j 1
                  clear hI hf hy
                  go_wp2
                  go_roundw
                  case rel => exact ⟨j + 1, by omega, by congr 1, NI.out⟩
                  case measure => simp [lenW]; omega
                · have hf' : fOf l j = false := by simpa using hf
                  rw [hf'] at mj
                  have NI : Hid (InF w2 wz mb mg (p : Int) (c : Int) (s : Int) (fOf l) ns xb q0 (stU l ns (j + 1))) := by
                    show InF _ _ _ _ _ _ _ _ _ _ _ _
                    rw [stU_no l ns j hf']
                    exact hI
                  clear hI hf hf'
                  go_wp2
                  go_roundw
                  case rel => exact ⟨j + 1, by omega, by congr 1, NI.out⟩
                  case measure => simp [lenW]; omega
              · obtain rfl : j = ns := by omega
                obtain ⟨x0, x1, x2, x3⟩ := hI.cells
                have B0 : Hid (Below wr.heap.size wr wz) := B2.out.trans (hI.bel.mono B2.out.size)
                have BW0 : Hid (∀ w9, Below wz.heap.size wz w9 → Below w.heap.size w w9) := fun w9 b => BWR.out.trans ((B0.out.trans (b.mono B0.out.size)).mono BWR.out.size)
                have BQ : Hid (∀ i, Below wz.heap.size wz (wz.drewN i)) := fun i => ⟨rfl, rfl, rfl, Nat.le_refl _, fun _ _ => rfl⟩
                clear hI I0
                by_cases hpe : (p : Int) < e
                · have RF : Hid (r = false) := BAD.out (by rw [OKE.out HQT.out]; exact decide_eq_false (by omega))
                  have hd : decide ((p : Int) < e) = true := decide_eq_true hpe
                  go_wp2_with fail
                  go_quiet (fail)
                  all_goals go_wp2
                  all_goals go_ret2
                  all_goals exact .inr ⟨RF.out, rfl, BW0.out _ (BQ.out _)⟩
                · have hd : decide ((p : Int) < e) = false := decide_eq_false hpe
                  have wpg : IntKind.i64.wrap ((p : Int) + (G : Int)) = (p : Int) + (G : Int) := by rw [IntKind.wrap_i64]; omega
                  go_wp2_with fail
                  go_region_held3 (fun w' => w'.cell? ⟨xb, 0, none⟩ = some (.int .i64 (p : Nat)) ∧ w'.cell? ⟨xb, 1, none⟩ = some (.int .i64 (c : Nat)) ∧ w'.cell? ⟨xb, 2, none⟩ = some (.int .i64 (s : Nat)) ∧ w'.cell? ⟨xb, 3, none⟩ = some (.slice (some ⟨q0, 0, none⟩) j j)) (first | exact ⟨y0, y1, y2, y3⟩ | exact ⟨x0, x1, x2, x3⟩)
                    ((go_at_call 32; refine (mpages_any p c s q0 j _ G HG.out).mono ?_; rintro e5 w5 ⟨rfl, b5⟩; have B5 : Hid (Below wz.heap.size wz w5) := Below.ofDrew b5; have y0 := bcell B5.out x0; have y1 := bcell B5.out x1; have y2 := bcell B5.out x2; have y3 := bcell B5.out x3; clear b5))
                  have I5 : Hid (InF w2 w5 mb mg (p : Int) (c : Int) (s : Int) (fOf l) j xb q0 (stU l j j)) := HI.out.keep B5.out
                  clear x0 x1 x2 x3
                  by_cases hfit : (P : Int) < (p : Int) + (G : Int)
                  · have RF : Hid (r = false) := BAD.out (by rw [OKE.out HQT.out]; exact decide_eq_false (by omega))
                    go_wp2
                    go_ret2
                    exact .inr ⟨RF.out, rfl, BW0.out _ B5.out⟩
                  · have OKD : Hid (okD (P : Int) e ⟨(p : Int), (c : Int), (s : Int), l⟩ = true) := by show _ = _; rw [OKE.out HQT.out]; exact decide_eq_true (by omega)
                    have hf1 : ¬ ((P : Int) < (p : Int) + (G : Int)) := hfit
                    go_wp2_with fail
                    go_region_held3 (fun w' => w'.cell? ⟨xb, 0, none⟩ = some (.int .i64 (p : Nat)) ∧ w'.cell? ⟨xb, 1, none⟩ = some (.int .i64 (c : Nat)) ∧ w'.cell? ⟨xb, 2, none⟩ = some (.int .i64 (s : Nat)) ∧ w'.cell? ⟨xb, 3, none⟩ = some (.slice (some ⟨q0, 0, none⟩) j j)) (first | exact ⟨z0, z1, z2, z3⟩ | exact ⟨y0, y1, y2, y3⟩)
                      ((go_at_call 32; refine (mpages_any p c s q0 j _ G HG.out).mono ?_; rintro e6 w6 ⟨rfl, b6⟩; have B6 : Hid (Below w5.heap.size w5 w6) := Below.ofDrew b6; have z0 := bcell B6.out y0; have z1 := bcell B6.out y1; have z2 := bcell B6.out y2; have z3 := bcell B6.out y3; clear b6))
                    have I6 : Hid (InF w2 w6 mb mg (p : Int) (c : Int) (s : Int) (fOf l) j xb q0 (stU l j j)) := I5.out.keep B6.out
                    have BV : Hid (Below wr.heap.size wr w6) := B0.out.trans ((B5.out.trans (B6.out.mono B5.out.size)).mono B0.out.size)
                    have SG : sgT ⟨(p : Int), (c : Int), (s : Int), l⟩ = ⟨p, c, s, stU l j j⟩ := by
                      have := stU_all ⟨(p : Int), (c : Int), (s : Int), l⟩
                      rw [show slN ((⟨(p : Int), (c : Int), (s : Int), l⟩ : Td).c) = j from HNS.out] at this
                      unfold sgT
                      rw [← this]
                      rfl
                    have hk4 : k ≤ 4096 := by omega
                    have hlq : wr.heap.size ≤ q0 := Nat.le_trans B2.out.size I6.out.lq
                    obtain ⟨a0, c0', E9, a9, c9, w9, k1, hE9, k2, run9, k3, fz9, BR9⟩ := bornR_snoc BR.out H2.out BV.out ⟨p, c, s, stU l j j⟩ q0 I6.out.st hlq k ML.out hk4 j I6.out.sl
                    dsimp only at hE9
                    have BR10 : Hid (BornR w rb P W ((ts.take (k + 1)).map sgT) (w9.setCell ⟨rb, 2, none⟩ (.slice a9 (k + 1) c9))) := by
                      rw [HMT.out, SG]; exact BR9
                    have S1 : Hid (stdZ (P : Int) ts (k + 1) = true) := NXT.out OKD.out
                    clear y0 y1 y2 y3 BR9 SG hlq
                    go_wp2_with fail
                    go_region_law (first
                      | (refine step_app rfl (.tmp 102) (.tmp 104) 65 rfl (.slice a0 k c0') (.slice (some ⟨w6.heap.size, 0, none⟩) 1 1) (by simp [Act.eval]) (by simp [Act.eval]) (.slice a9 (k + 1) c9) w9 run9 ?_))
                    all_goals
                      go_wp2
                      go_roundw
                      case rel => exact ⟨k + 1, (p : Int) + (G : Int), by omega, by congr 1, rfl, NEND.out, S1.out, by omega, by omega, by omega, BR10.out⟩
                      case measure => simp [lenW]; omega
      · have HNE : Hid (newE p c s ≠ 0) := hne
        have RF : Hid (r = false) := BAD.out (decide_eq_false (fun h => hne h.1))
        obtain ⟨x, hx⟩ : ∃ x, newE p c s = x := ⟨_, rfl⟩
        have HX : Hid (newE p c s = x) := hx
        have hx0 : x ≠ 0 := by rw [← hx]; exact hne
        have x0 : (x == 0) = false := beq_eq_false_iff_ne.2 hx0
        have x1 : (x != 0) = true := by rw [bne, x0]; rfl
        clear hne hx
        go_upto_region 8 with (fail)
        rw [HE.out]
        go_wp2_with (go_at_call 31; refine (rof_bad p c s la l.length lk x _ HX.out hx0).mono ?_; rintro e' w2 ⟨rfl, b2⟩; have B2 : Hid (Below w.heap.size w w2) := BWR.out.trans ((BE.out.trans (b2.mono BE.out.size)).mono BWR.out.size); clear b2)
        go_ret2
        exact .inr ⟨RF.out, rfl, B2.out⟩
    · obtain rfl : k = n := by omega
      have FF : Hid (FromR w P W ts r (.returned (.tuple #[.pointer (some ⟨rb, 0, none⟩), .int .i64 0])) wr) := by
        refine .inl ⟨by rw [← HR.out]; exact STD.out, rb, rfl, ?_⟩
        have := BR.out
        rw [List.take_of_length_le (Nat.le_of_eq HN.out)] at this
        exact this
      go_wp2
      go_ret2
      exact FF.out
end Go.Proofs.YtgmljgogmbaioaaGreatDoor

/- What lay does: a span behind those that stand. -/
namespace Go.Proofs.YtgmljgogmbaioaaGreatDoor
open Go.RowKit
set_option linter.unusedVariables false
set_option maxRecDepth 4000

theorem Cm.newspan {w w2 : World} {L : Nat → Nat} {cb fb hb : Nat} {a : Option Addr} {cap : Nat} {ps : List Nat} {sh : List Value} {P W : Nat} {φ : Nat → Bool} {m : List Sg} {K : Nat → Nat → List Nat} {sb b g : Nat} {t : Td} (h : Cm w L cb fb hb a cap ps sh P W φ m K) (hn : newE t.p t.c t.s = 0) (hl : okL (slN t.c) (-1) t.l = true) (sp : Spn w w2 sb b g t.p t.c t.s (fOf t.l)) :
    Cm w2 (lab L w.heap.size (5 + 2 * (sgT t).pg)) cb fb hb a cap ps sh P W φ m K ∧ SpS w2 (fun k => lab L w.heap.size (5 + 2 * (sgT t).pg) k = 5 + 2 * (sgT t).pg) sb (sgT t) ∧ Mv L w (lab L w.heap.size (5 + 2 * (sgT t).pg)) w2 := by
  obtain ⟨e1, e2, e3⟩ := td_nums hn
  refine ⟨h.keep (lab_ext _ _ _) sp.low, ⟨b, g, ?_, lab_new sp.gs, lab_new sp.gb, lab_new sp.gg⟩, Mv.below (lab_ext _ _ _) sp.low⟩
  rw [sgT_f hn hl]
  show SpanAt w2 sb b g ((t.p.toNat : Nat) : Int) ((t.c.toNat : Nat) : Int) ((t.s.toNat : Nat) : Int) (fOf t.l)
  rw [e1, e2, e3]
  exact sp.at'
/-- Behind Mark. -/
theorem Cm.marked {w w3 : World} {L : Nat → Nat} {cb fb hb : Nat} {a : Option Addr} {cap : Nat} {ps : List Nat} {sh : List Value} {P W : Nat} {φ φ' : Nat → Bool} {m : List Sg} {K : Nat → Nat → List Nat} (h : Cm w L cb fb hb a cap ps sh P W φ m K) (i3 : IsR w3 (fun j => L j = 2 ∨ w.heap.size ≤ j) fb P φ') (t3 : Tu (fun j => L j = 2 ∨ w.heap.size ≤ j) w w3) : Cm w3 (lab L w.heap.size 2) cb fb hb a cap ps sh P W φ' m K ∧ Mv L w (lab L w.heap.size 2) w3 := by
  refine ⟨h.freed (lab_ext w L 2) t3 (i3.mono (fun i _ hi => ?_)), Mv.of (fun l => l = 2) (by omega) (lab_ext w L 2) t3⟩
  unfold lab; split
  · rcases hi with e | e
    · exact e
    · omega
  · rfl
theorem SpS.marked {w w3 : World} {L : Nat → Nat} {p : Nat} {s : Sg} (h : SpS w (fun k => L k = 5 + 2 * s.pg) p s) (t3 : Tu (fun j => L j = 2 ∨ w.heap.size ≤ j) w w3) : SpS w3 (fun k => lab L w.heap.size 2 k = 5 + 2 * s.pg) p s := by
  refine (h.mono (T := fun k => lab L w.heap.size 2 k = 5 + 2 * s.pg) (fun i hi e => by rw [lab_ext w L 2 i hi]; exact e)).same (keepL (lab_ext w L 2) t3 (by omega)) t3.size
/-- The pointer put behind the others. -/
theorem lay_end {w : World} {L : Nat → Nat} {cb fb hb : Nat} {a : Option Addr} {cap : Nat} {ps : List Nat} {sh : List Value} {P W : Nat} {m : List Sg} (t : Sg) (ht1 : ∀ x ∈ t.st, x ≤ 1) (h : Cm w L cb fb hb a cap ps sh P W (turnU (pgF m) t.pg t.k true) m (Kof m)) (sb : Nat) (hsp : SpS w (fun k => L k = 5 + 2 * t.pg) sb t) (hml : m.length ≤ 4096) (n : Nat) (hn : m.length = n) :
    ∃ E a' cap' w4, w.alloc (.cells #[.pointer (some ⟨sb, 0, none⟩)] 92) = E ∧ (Builtin.append_ #[87, 87] 87 #[.slice a n cap, .slice (some ⟨w.heap.size, 0, none⟩) 1 1]).run Tryz.prog E = .ok (.slice a' (n + 1) cap') w4 ∧
      w4.frozen? ⟨cb, 1, none⟩ = false ∧ w4.cell? ⟨cb, 1, none⟩ = some (.slice a n cap) ∧ Cm (w4.setCell ⟨cb, 1, none⟩ (.slice a' (n + 1) cap')) (lab L w.heap.size 3) cb fb hb a' cap' (ps ++ [sb]) sh P W (pgF (m ++ [t])) (m ++ [t]) (Kof (m ++ [t])) ∧ Mv L w (lab L w.heap.size 3) (w4.setCell ⟨cb, 1, none⟩ (.slice a' (n + 1) cap')) := by
  subst hn
  obtain ⟨E, hE⟩ : ∃ E, w.alloc (.cells #[.pointer (some ⟨sb, 0, none⟩)] 92) = E := ⟨_, rfl⟩
  have bE : Below w.heap.size w E := by rw [← hE]; exact (Below.refl _ w).alloc (Nat.le_refl _) _
  have rE : E.heap[w.heap.size]? = some (.cells #[ptrV sb] 92 (0, 0)) := by rw [← hE]; exact Go.heap_alloc_new w _
  have vE : VAt E (fun k => L k = 3 ∨ w.heap.size ≤ k) 92 a (ps.map ptrV) cap := (h.row.mono (fun i _ e => .inl e)).keep bE
  have pl := h.plen
  obtain ⟨a', cap', w4, hr, hv, htu, hob⟩ := appV_run 87 92 (.pointer none) rfl (by kernel_rfl) (by kernel_rfl) 87 (fun k => L k = 3 ∨ w.heap.size ≤ k) E (fun i hi => .inr (Nat.le_trans bE.size hi)) a (ps.map ptrV) cap vE ⟨w.heap.size, 0, none⟩ [ptrV sb] 1 (fun j u hj => by
    cases j with
    | zero => simp at hj; subst hj; rw [show (⟨w.heap.size, 0, none⟩ : Addr).add 0 = ⟨w.heap.size, 0, none⟩ from by simp [Addr.add]]; exact cell_of_row _ _ 0 _ _ _ rE
    | succ j => simp at hj) (fun u hu => by simp at hu; subst hu; rfl) (by rw [List.length_map, pl]; omega) (by simp)
  have e1 : (ps.map ptrV ++ [ptrV sb]).length = m.length + 1 := by simp [pl]
  rw [e1, List.length_map, pl] at hr
  have e2 : ps.map ptrV ++ [ptrV sb] = (ps.take m.length ++ sb :: ps.drop m.length).map ptrV := by rw [← pl, List.take_length, List.drop_length, List.map_append]; rfl
  rw [e2] at hv
  have ob1 : ∀ k, ob a = some k → (L k = 3 ∨ w.heap.size ≤ k) := fun k hk => (vE.ob_in k hk).1
  have T4 : Tu (fun k => L k = 3 ∨ w.heap.size ≤ k) w w4 := (Tu.ofBelow bE).trans (htu.mono (fun k _ hk => ob1 k hk))
  obtain ⟨C, M⟩ := begin_end h m.length (Nat.le_refl _) t sb hsp T4 hv
  have hcb := hlt h.box
  have hlb := h.lb
  have b4 := T4.block cb _ h.box (by rintro (e | e) <;> omega)
  refine ⟨E, a', cap', w4, hE, hr, frozen_of_row _ _ 1 _ _ b4, cell_of_row _ _ 1 _ _ _ b4, ?_, M⟩
  have e3 : ps.take m.length ++ sb :: ps.drop m.length = ps ++ [sb] := by rw [← pl, List.take_length, List.drop_length]
  have e4 : m.take m.length ++ t :: m.drop m.length = m ++ [t] := by rw [List.take_length, List.drop_length]
  rw [e3, e4] at C
  rw [pgF_snoc, kof_app m t ht1]
  exact C
theorem wpList_runP {ops : Array Oper} {rest : List Oper} {o : Oper} {a : Act} {Q : Exit → Act → World → Prop} {w : World} (hgd : o.guard = none) (hty : o.type = 87) (s x : Operand)
    (ho : o.op = .call { callee := .builtin .append, args := #[s, x], argTypes := #[87, 87] }) (v1 v2 v' : Value) (w' : World) (hs : a.eval s = v1) (hx : a.eval x = v2)
    (hrun : (Builtin.append_ #[87, 87] 87 #[v1, v2]).run Tryz.prog w = .ok v' w') (h : wpList Tryz.prog ops Q rest (a.put o.dst v') w') : wpList Tryz.prog ops Q (o :: rest) a w := by
  refine wpList_plain hgd fun K' hK' => ?_
  unfold Oper.wp
  simp [execOp, ho, hty, resolve, invoke, builtin, hs, hx, hrun, Result.andThen]
  exact hK' _ _ h
/-- What lay leaves. -/
def LayP (L : Nat → Nat) (w : World) (cb fb hb : Nat) (sh : List Value) (P W : Nat) (m : List Sg) (t : Td) (r : Bool) (e : Ending) (w' : World) : Prop :=
  e = .returned (.bool r) ∧ ∃ L', Mv L w L' w' ∧ (r = true → ∃ a cap ps, Cm w' L' cb fb hb a cap ps sh P W (pgF (m ++ [sgT t])) (m ++ [sgT t]) (Kof (m ++ [sgT t])))
set_option maxRecDepth 20000 in
set_option maxHeartbeats 4000000 in
theorem klay_any (L : Nat → Nat) (cb fb hb : Nat) (a : Option Addr) (cap : Nat) (ps : List Nat) (sh : List Value) (P W : Nat) (m : List Sg) (la : Option Addr) (lk : Nat) (p c s : Int) (l : List Int) (w : World) (h : Cm w L cb fb hb a cap ps sh P W (pgF m) m (Kof m)) (ho : Okc P W m) (hI : IsI w la l) (hm : l.length ≤ maxLen) (hp : -9223372036854775808 ≤ p ∧ p ≤ 9223372036854775807) (r : Bool) (hr : okD (P : Int) ((endM m : Nat) : Int) ⟨p, c, s, l⟩ = r) :
    Calls Tryz.prog 46 #[.pointer (some ⟨cb, 0, none⟩), .agg #[.int .i64 p, .int .i64 c, .int .i64 s, .slice la l.length lk]] w (LayP L w cb fb hb sh P W m ⟨p, c, s, l⟩ r) := by
  have HC : Hid (Cm w L cb fb hb a cap ps sh P W (pgF m) m (Kof m)) := h
  have HO : Hid (Okc P W m) := ho
  have HR : Hid (okD (P : Int) ((endM m : Nat) : Int) ⟨p, c, s, l⟩ = r) := hr
  have hml := ho.fit.len
  have hP := ho.p1
  obtain ⟨n, hn⟩ : ∃ n, m.length = n := ⟨_, rfl⟩
  have HN : Hid (m.length = n) := hn
  rw [hn] at hml
  obtain ⟨D, hD, zD, rD, bD⟩ := dbox w p c s la l.length lk
  have HD : Hid (w.alloc (.cells #[.int .i64 p, .int .i64 c, .int .i64 s, .slice la l.length lk] 48) = D) := hD
  have BD : Hid (Below w.heap.size w D) := bD
  have TD : Hid (Tabs D) := h.tab.keep bD
  have ID : Hid (IsI D la l) := hI.keep bD
  have c0 := dcell0 rD
  have c1 := dcell1 rD
  have c2 := dcell2 rD
  have c3 := dcell3 rD
  clear h ho hr hn hD zD rD bD hI
  by_cases hof : newE p c s = 0 ∧ okL (slN c) (-1) l = true
  · obtain ⟨hnE, hok⟩ := hof
    have HNE : Hid (newE p c s = 0) := hnE
    have HOK : Hid (okL (slN c) (-1) l = true) := hok
    have RT := newE_rt hnE
    have HRT : Hid (Rt p c s) := RT
    have rp0 := RT.p0
    have rp1 := RT.p1
    have G1 := RT.facts.2.2.2.2.2.2.1
    have pk := pgsN_le c s
    have EPG : Hid ((((sgT ⟨p, c, s, l⟩).pg : Nat) : Int) = p) := (td_nums hnE).1
    have EKK : Hid ((sgT ⟨p, c, s, l⟩).k = pgsN c s) := sgT_k (t := ⟨p, c, s, l⟩) hnE
    obtain ⟨G, hG⟩ : ∃ G, pgsN c s = G := ⟨_, rfl⟩
    have HG : Hid (pgsN c s = G) := hG
    rw [hG] at rp1 pk G1 EKK
    have HR2 : Hid (decide (((endM m : Nat) : Int) ≤ p ∧ p + (G : Int) ≤ (P : Int)) = r) := by
      show _ = _
      rw [← HR.out]
      unfold okD
      show _ = decide (newE p c s = 0 ∧ okL (slN c) (-1) l = true ∧ _ ∧ p + (pgsN c s : Int) ≤ (P : Int))
      rw [hG]
      congr 1
      exact propext ⟨fun h => ⟨hnE, hok, h.1, h.2⟩, fun h => ⟨h.2.2.1, h.2.2.2⟩⟩
    clear hnE hok RT hG
    go_enter Tryz.func46, Tryz.ntmps46
    go_upto_region 1 with (fail)
    rw [HD.out]
    go_wp2_with fail
    refine (of_ok p c s la lk l _ TD.out ID.out hm HNE.out HOK.out).mono ?_
    rintro e w2 ⟨sb, b, g, rfl, sp2⟩
    have SP : Hid (Spn w w2 sb b g p c s (fOf l)) := sp2.back BD.out
    have BX : Hid (Bx w2 sb p c s) := sp2.at'.box
    obtain ⟨C2, S2, M2⟩ := HC.out.newspan (t := ⟨p, c, s, l⟩) HNE.out HOK.out SP.out
    obtain ⟨L2, hL2⟩ : ∃ L2, lab L w.heap.size (5 + 2 * (sgT ⟨p, c, s, l⟩).pg) = L2 := ⟨_, rfl⟩
    rw [hL2] at C2 S2 M2
    have HC2 : Hid (Cm w2 L2 cb fb hb a cap ps sh P W (pgF m) m (Kof m)) := C2
    have HS2 : Hid (SpS w2 (fun k => L2 k = 5 + 2 * (sgT ⟨p, c, s, l⟩).pg) sb (sgT ⟨p, c, s, l⟩)) := S2
    have HM2 : Hid (Mv L w L2 w2) := M2
    have T2 : Hid (Tabs w2) := C2.tab
    have k1 := C2.cell1
    rw [HN.out] at k1
    have k0 := C2.cell0
    have FR : Hid (IsR w2.drew (fun j => L2 j = 2 ∨ w2.heap.size ≤ j) fb P (pgF m)) := (C2.free.mono (fun i _ e => .inl e)).drew
    clear sp2 C2 S2 M2 hL2 c0 c1 c2 c3
    have FALSEP : Hid (∀ w3, Below w2.heap.size w2 w3 → r = false → LayP L w cb fb hb sh P W m ⟨p, c, s, l⟩ r (.returned (.bool false)) w3) := fun w3 b3 hf => by
      subst hf
      exact ⟨rfl, L2, HM2.out.trans (Mv.below (Ext.refl _ _) b3), fun h => by cases h⟩
    obtain ⟨EM, hEM⟩ : ∃ EM, endM m = EM := ⟨_, rfl⟩
    have HEM : Hid (endM m = EM) := hEM
    rw [hEM] at HR2
    have DN : Hid (∀ k, Bx (w2.drewN k) sb p c s) := fun k => BX.out.drewN k
    have BDN : Hid (∀ k, Below w2.heap.size w2 (w2.drewN k)) := fun k => ⟨rfl, rfl, rfl, Nat.le_refl _, fun _ _ => rfl⟩
    clear hEM
    go_upto_region 5 with (fail)
    go_cut [35] from 21 to 35 (fun v wx => v = .bool (decide (p < (EM : Int))) ∧ Below w2.heap.size w2 wx)
    case first =>
      rcases Nat.eq_zero_or_pos n with hn0 | hnp
      · have V : Hid (decide (p < (EM : Int)) = false) := by
          refine decide_eq_false ?_
          have e : m = [] := List.eq_nil_of_length_eq_zero (HN.out.trans hn0)
          have := HEM.out
          rw [e, endM_nil] at this
          omega
        subst hn0
        clear k0 hml HG
        go_quiet (fail)
        all_goals go_wp2
        all_goals go_meet
        all_goals exact ⟨by rw [V.out], BDN.out _⟩
      · obtain ⟨j, hj⟩ : ∃ j, n = j + 1 := ⟨n - 1, by omega⟩
        have hjm : j < m.length := by rw [HN.out]; omega
        obtain ⟨gr, pj, rfl, hg3, hgl, cg, hpj, hsp⟩ := HC2.out.at j hjm
        obtain ⟨bb, gg, hat, hrest⟩ := hsp
        have RTj := Sg.Ok.rt HO.out.fit HO.out.p1 (List.getElem_mem hjm)
        have EJ : m[j].pg + m[j].k = EM := by rw [← HEM.out, endM_last hjm (by rw [HN.out, hj])]
        obtain ⟨q, hq⟩ : ∃ q, m[j] = q := ⟨_, rfl⟩
        rw [hq] at hat RTj EJ
        have HBJ : Hid (∀ k, Bx (w2.drewN k) pj (q.pg : Int) (q.cl : Int) (q.bts : Int)) := fun k => hat.box.drewN k
        have HRJ : Hid (Rt (q.pg : Int) (q.cl : Int) (q.bts : Int)) := RTj
        have HEJ : Hid ((q.pg : Int) + (pgsN (q.cl : Int) (q.bts : Int) : Int) = (EM : Int)) := by
          show _ = _
          have e : q.k = pgsN (q.cl : Int) (q.bts : Int) := rfl
          rw [← e]; omega
        have hj1 : (n : Int) - 1 = (j : Int) := by omega
        have hj2 : (0 : Int) ≤ (j : Int) := by omega
        have hj3 : (j : Int) < (n : Int) := by omega
        have hj4 : decide ((0 : Int) ≤ (j : Int)) = true := decide_eq_true hj2
        clear hrest
        clear hj hg3 hpj hat RTj EJ hq hnp k0 HG hml
        go_quiet ((first
          | (go_at_call 79; exact Calls.quiet_of_same ((page_any sb p c s _ (DN.out _)).mono (fun _ _ h => ⟨h.1, h.2.symm⟩)))
          | (go_at_call 80; exact Calls.quiet_of_same ((endp_any pj (q.pg : Int) (q.cl : Int) (q.bts : Int) _ (HBJ.out _) T2.out.1 HRJ.out EM HEJ.out).mono (fun _ _ h => ⟨h.1, h.2.symm⟩)))))
        all_goals go_wp2
        all_goals go_meet
        all_goals exact ⟨rfl, BDN.out _⟩
    case rest =>
      obtain ⟨rfl, bw⟩ := hcut
      have BW : Hid (Below w2.heap.size w2 wc) := bw
      have C5 : Hid (Cm wc L2 cb fb hb a cap ps sh P W (pgF m) m (Kof m)) := HC2.out.keep (Ext.refl _ _) bw
      have S5 : Hid (SpS wc (fun k => L2 k = 5 + 2 * (sgT ⟨p, c, s, l⟩).pg) sb (sgT ⟨p, c, s, l⟩)) := HS2.out.same (old_below bw) bw.size
      have M5 : Hid (Mv L w L2 wc) := HM2.out.trans (Mv.below (Ext.refl _ _) bw)
      have B5 : Hid (Bx wc.drew sb p c s) := (SP.out.keep bw).at'.box.drew
      have T5 : Hid (TabC wc.drew) := C5.out.tab.1
      have F5 : Hid (IsR wc.drew (fun j => L2 j = 2 ∨ wc.heap.size ≤ j) fb P (pgF m)) := (C5.out.free.mono (fun i _ e => .inl e)).drew
      have j0 := C5.out.cell0
      clear bw k0 k1
      by_cases hpe : p < (EM : Int)
      · have RF : Hid (r = false) := by show _ = _; rw [← HR2.out]; exact decide_eq_false (by omega)
        have hd : decide (p < (EM : Int)) = true := decide_eq_true hpe
        rw [hd]
        go_wp2
        go_ret
        exact FALSEP.out _ BW.out RF.out
      · have hd : decide (p < (EM : Int)) = false := decide_eq_false hpe
        rw [hd]
        have hpN : p.toNat = (sgT ⟨p, c, s, l⟩).pg := rfl
        by_cases hfit : p + (G : Int) ≤ (P : Int)
        · have RF : Hid (r = true) := by show _ = _; rw [← HR2.out]; exact decide_eq_true (by omega)
          have ALL : Hid (AllF (pgF m) p.toNat (G : Int).toNat (!true)) := fun i h1 h2 => by
            rw [Int.toNat_natCast] at h2
            exact pgF_end HO.out.fit (by rw [HEM.out]; omega)
          have HTR : Hid (∀ r3 f3, TurnR P (pgF m) p (G : Int) true r3 f3 → r3 = 0 ∧ f3 = turnU (pgF m) (sgT ⟨p, c, s, l⟩).pg (sgT ⟨p, c, s, l⟩).k true) := fun r3 f3 hU => hU.one (.inr (.inr ⟨by omega, by omega, hfit, ALL.out, rfl, by rw [EKK.out, ← hpN, Int.toNat_natCast]⟩))
          clear hd hpe
          go_wp2_with fail
          go_region_held3 (fun w' => w'.cell? ⟨cb, 0, none⟩ = some (.pointer (some ⟨fb, 0, none⟩))) (first | exact j3 | exact j0)
            ((first
            | (go_at_call 81; refine (mark_any (fun j => L2 j = 2 ∨ wc.heap.size ≤ j) fb P (pgF m) p (G : Int) _ F5.out (fun i hi => .inr hi) (by omega) (by omega) (by omega)).mono ?_; rintro e w3 ⟨r3, f3, rfl, hU, i3, t3⟩; obtain ⟨rfl, rfl⟩ := HTR.out _ _ hU; obtain ⟨c6, m6⟩ := C5.out.marked i3 (⟨t3.os, t3.tape, t3.output, t3.size, t3.block⟩); have s6 := S5.out.marked (w3 := w3) ⟨t3.os, t3.tape, t3.output, t3.size, t3.block⟩; have C6 : Hid (Cm w3 (lab L2 wc.heap.size 2) cb fb hb a cap ps sh P W (turnU (pgF m) (sgT ⟨p, c, s, l⟩).pg (sgT ⟨p, c, s, l⟩).k true) m (Kof m)) := c6; have M6 : Hid (Mv L w (lab L2 wc.heap.size 2) w3) := M5.out.trans m6; have S6 : Hid (SpS w3 (fun k => lab L2 wc.heap.size 2 k = 5 + 2 * (sgT ⟨p, c, s, l⟩).pg) sb (sgT ⟨p, c, s, l⟩)) := s6; have j3 := c6.cell0; clear c6 m6 s6 hU i3 t3)
            | (go_at_call 82; refine (pages_q sb p c s G _ B5.out T5.out HRT.out.c0 HRT.out.c7 HG.out).mono ?_; rintro e w' ⟨rfl, rfl⟩)
            | (go_at_call 79; refine (page_any sb p c s _ B5.out).mono ?_; rintro e w' ⟨rfl, rfl⟩)))
          obtain ⟨E, a4, cap4, w4, hE, run4, f4, x4, C7, M7⟩ := lay_end (sgT ⟨p, c, s, l⟩) (stT_le _) C6.out sb S6.out (by rw [HN.out]; omega) n HN.out
          have HE : Hid (w3.alloc (.cells #[.pointer (some ⟨sb, 0, none⟩)] 92) = E) := hE
          have RUN4 : Hid ((Builtin.append_ #[87, 87] 87 #[.slice a n cap, .slice (some ⟨w3.heap.size, 0, none⟩) 1 1]).run Tryz.prog E = .ok (.slice a4 (n + 1) cap4) w4) := run4
          have FIN : Hid (LayP L w cb fb hb sh P W m ⟨p, c, s, l⟩ r (.returned (.bool true)) (w4.setCell ⟨cb, 1, none⟩ (.slice a4 (n + 1) cap4))) := ⟨by rw [RF.out], _, M6.out.trans M7, fun _ => ⟨_, _, _, C7⟩⟩
          have j1 := C6.out.cell1
          rw [HN.out] at j1
          clear hE run4 C7 M7 j3 j0 hpN hfit
          go_wp2_with (at_builtin; (try rw [HE.out]); refine wpList_runP rfl rfl _ _ rfl (.slice a n cap) (.slice (some ⟨w3.heap.size, 0, none⟩) 1 1) _ _ rfl rfl RUN4.out ?_)
          go_ret
          exact FIN.out
        · have RF : Hid (r = false) := by show _ = _; rw [← HR2.out]; exact decide_eq_false (by omega)
          have HTR : Hid (∀ r3 f3, TurnR P (pgF m) p (G : Int) true r3 f3 → r3 = 2 ∧ f3 = pgF m) := fun r3 f3 hU => hU.one (.inl ⟨by omega, rfl, rfl⟩)
          clear hd hpe
          go_wp2_with fail
          go_region_held3 (fun w' => w'.cell? ⟨cb, 0, none⟩ = some (.pointer (some ⟨fb, 0, none⟩))) (first | exact j3 | exact j0)
            ((first
            | (go_at_call 81; refine (mark_any (fun j => L2 j = 2 ∨ wc.heap.size ≤ j) fb P (pgF m) p (G : Int) _ F5.out (fun i hi => .inr hi) (by omega) (by omega) (by omega)).mono ?_; rintro e w3 ⟨r3, f3, rfl, hU, i3, t3⟩; obtain ⟨rfl, rfl⟩ := HTR.out _ _ hU; obtain ⟨c6, m6⟩ := C5.out.marked i3 (⟨t3.os, t3.tape, t3.output, t3.size, t3.block⟩); have M6 : Hid (Mv L w (lab L2 wc.heap.size 2) w3) := M5.out.trans m6; have j3 := c6.cell0; clear c6 m6 hU i3 t3)
            | (go_at_call 82; refine (pages_q sb p c s G _ B5.out T5.out HRT.out.c0 HRT.out.c7 HG.out).mono ?_; rintro e w' ⟨rfl, rfl⟩)
            | (go_at_call 79; refine (page_any sb p c s _ B5.out).mono ?_; rintro e w' ⟨rfl, rfl⟩)))
          go_wp2
          go_ret
          exact ⟨ret_bool RF.out.symm, _, M6.out, fun h => by rw [RF.out] at h; cases h⟩
  · have F : Hid (r = false) := by
      show _ = _
      rw [← HR.out]
      exact decide_eq_false (fun q => hof ⟨q.1, q.2.1⟩)
    obtain ⟨x, hx0, hx⟩ : ∃ x : Int, x ≠ 0 ∧ ((newE p c s = x ∧ x ≠ 0) ∨ (newE p c s = 0 ∧ okL (slN c) (-1) l = false ∧ x = 4)) := by
      by_cases e : newE p c s = 0
      · refine ⟨4, by decide, .inr ⟨e, ?_, rfl⟩⟩
        cases eo : okL (slN c) (-1) l with
        | false => rfl
        | true => exact absurd ⟨e, eo⟩ hof
      · exact ⟨_, e, .inl ⟨rfl, e⟩⟩
    have HX : Hid ((newE p c s = x ∧ x ≠ 0) ∨ (newE p c s = 0 ∧ okL (slN c) (-1) l = false ∧ x = 4)) := hx
    have x0 : (x == 0) = false := beq_eq_false_iff_ne.2 hx0
    have x1 : (x != 0) = true := by rw [bne, x0]; rfl
    clear hof hx
    go_enter Tryz.func46, Tryz.ntmps46
    go_upto_region 1 with (fail)
    rw [HD.out]
    go_wp2_with (go_at_call 78; refine (of_fail p c s la lk l x _ TD.out ID.out hm hp HX.out).mono ?_; rintro e' w2 ⟨rfl, b2⟩; have MF : Hid (Mv L w (lab L w.heap.size 0) w2) := Mv.below (lab_ext _ _ _) (BD.out.trans (b2.mono BD.out.size)); clear b2)
    go_ret
    exact ⟨ret_bool F.out.symm, _, MF.out, fun h => by rw [F.out] at h; cases h⟩
end Go.Proofs.YtgmljgogmbaioaaGreatDoor

/- The code's From with spans. -/
namespace Go.Proofs.YtgmljgogmbaioaaGreatDoor
open Go.RowKit
set_option linter.unusedVariables false
set_option maxRecDepth 4000

theorem klay_ca (L : Nat → Nat) (cb P W : Nat) (m : List Sg) (la : Option Addr) (lk : Nat) (p c s : Int) (l : List Int) (ln : Nat) (hln : l.length = ln) (w : World) (h : Ca w L cb P W m) (ho : Okc P W m) (hI : IsI w la l) (hm : l.length ≤ maxLen) (hp : -9223372036854775808 ≤ p ∧ p ≤ 9223372036854775807) (r : Bool) (hr : okD (P : Int) ((endM m : Nat) : Int) ⟨p, c, s, l⟩ = r) :
    Calls Tryz.prog 46 #[.pointer (some ⟨cb, 0, none⟩), .agg #[.int .i64 p, .int .i64 c, .int .i64 s, .slice la ln lk]] w fun e w' => e = .returned (.bool r) ∧ ∃ L', Mv L w L' w' ∧ (r = true → Ca w' L' cb P W (m ++ [sgT ⟨p, c, s, l⟩])) := by
  subst hln
  obtain ⟨fb, hb, a, cap, ps, sh, hC⟩ := h
  refine (klay_any L cb fb hb a cap ps sh P W m la lk p c s l w hC ho hI hm hp r hr).mono ?_
  rintro e w' ⟨rfl, L', hM, hT⟩
  refine ⟨rfl, L', hM, fun h => ?_⟩
  obtain ⟨a', cap', ps', hC'⟩ := hT h
  exact ⟨fb, hb, a', cap', ps', sh, hC'⟩
theorem born_new (P W : Nat) (w w1 wz : World) (fb : Nat) (HT : Tabs w) (I1 : IsR w1 (fun k => w.heap.size ≤ k) w.heap.size P (fun _ => false)) (B1 : Below w.heap.size w w1) (EFB : w.heap.size = fb) (hwz : (w1.alloc (.cells (List.replicate (W * 7) (Value.slice none 0 0)).toArray 99)).alloc (.cells #[.pointer (some ⟨fb, 0, none⟩), .slice none 0 0, .slice (some ⟨w1.heap.size, 0, none⟩) W W] 89) = wz) : Born w (w1.heap.size + 1) P W [] wz := by
  have BZ : Below w1.heap.size w1 wz := by rw [← hwz]; exact ((Below.refl _ w1).alloc (Nat.le_refl _) _).alloc (by simp) _
  have hcb : wz.heap[w1.heap.size + 1]? = some (.cells #[.pointer (some ⟨fb, 0, none⟩), .slice none 0 0, .slice (some ⟨w1.heap.size, 0, none⟩) W W] 89 (0, 0)) := by
    rw [← hwz]
    have := Go.heap_alloc_new (w1.alloc (.cells (List.replicate (W * 7) (Value.slice none 0 0)).toArray 99)) (.cells #[.pointer (some ⟨fb, 0, none⟩), .slice none 0 0, .slice (some ⟨w1.heap.size, 0, none⟩) W W] 89)
    rw [World.size_alloc] at this
    exact this
  have hhb : wz.heap[w1.heap.size]? = some (.cells (List.replicate (W * 7) (Value.slice none 0 0)).toArray 99 (0, 0)) := by
    rw [← hwz, Go.heap_alloc_old _ _ (by simp)]; exact Go.heap_alloc_new w1 _
  have hs1 := B1.size
  have ht0 := HT.1.1
  have ht1 := HT.2.1
  obtain ⟨Lz, hLz⟩ : ∃ Lz : Nat → Nat, Lz = fun k => if k < w.heap.size then 0 else if k < w1.heap.size then 2 else if k = w1.heap.size then 4 else if k = w1.heap.size + 1 then 1 else 0 := ⟨_, rfl⟩
  have z0 : ∀ k, k < w.heap.size → Lz k = 0 := fun k hk => by rw [hLz]; simp [hk]
  refine ⟨⟨Lz, ⟨fb, w1.heap.size, none, 0, [], List.replicate (W * 7) (.slice none 0 0), ?_⟩, z0⟩, B1.trans (BZ.mono hs1)⟩
  refine ⟨(HT.keep B1).keep BZ, z0 0 (by omega), z0 1 (by omega), hcb, ?_, ?_, VAt.nil _ _ _, rfl, fun i hi => by simp at hi, hhb, ?_, by simp, fun v c hv hc => ⟨none, 0, ?_, VAt.nil _ _ _⟩⟩
  · rw [hLz]; simp only; rw [if_neg (by omega), if_neg (by omega), if_neg (by omega), if_pos trivial]
  · rw [show pgF [] = fun _ => false from rfl, ← EFB]
    refine (I1.mono (fun i hi e => ?_)).keep BZ
    rw [hLz]
    simp only
    rw [if_neg (by omega), if_pos hi]
  · rw [hLz]; simp only; rw [if_neg (by omega), if_neg (by omega), if_pos trivial]
  · show _ = some (Value.slice none 0 0)
    have : v * 7 + c < W * 7 := by have := Nat.mul_le_mul_right 7 hv; omega
    rw [List.getElem?_replicate, if_pos this]
/-- One span more may stand. -/
theorem Okc.snoc {P W : Nat} {m : List Sg} {t : Td} (h : Okc P W m) (ht : okD (P : Int) ((endM m : Nat) : Int) t = true) : Okc P W (m ++ [sgT t]) ∧ ((endM (m ++ [sgT t]) : Nat) : Int) = t.p + (pgsN t.c t.s : Int) := by
  obtain ⟨h1, h2, h3, h4⟩ := of_decide_eq_true ht
  obtain ⟨e1, _, _⟩ := td_nums h1
  have ek := sgT_k h1
  have ep : (sgT t).pg = t.p.toNat := rfl
  refine ⟨⟨h.p0, h.p1, h.w0, h.w1, Fit.snoc (sgT_ok W h1) (by rw [ek, ep]; omega) h.fit (Nat.zero_le _) (fun s hs => ?_)⟩, ?_⟩
  · have := h.fit.upto s hs; rw [ep]; omega
  · rw [endM_snoc, ek, ep]; omega
/-- What From leaves. -/
def FromC (w : World) (P W : Nat) (ts : List Td) (r : Bool) (e : Ending) (w' : World) : Prop :=
  (r = true ∧ ∃ cb, e = .returned (.tuple #[.pointer (some ⟨cb, 0, none⟩), .int .i64 0]) ∧ Born w cb P W (ts.map sgT) w') ∨ (r = false ∧ e = .returned (.tuple #[.pointer none, .int .i64 4]) ∧ Below w.heap.size w w')
set_option maxRecDepth 20000 in
set_option maxHeartbeats 4000000 in
theorem kfrom_any (P W : Nat) (a : Option Addr) (n cap : Nat) (ts : List Td) (w : World) (hT : Tabs w) (h : RdT w a ts) (hn : ts.length = n) (hn9 : n ≤ 100000) (hrg : ∀ t ∈ ts, -9223372036854775808 ≤ t.p ∧ t.p ≤ 9223372036854775807) (hp : 1 ≤ P ∧ P ≤ 4096) (hw : 1 ≤ W ∧ W ≤ 8) (r : Bool) (hR : stdZ (P : Int) ts n = r) :
    Calls Tryz.prog 17 #[.int .i64 (P : Nat), .int .i64 (W : Nat), .slice a n cap] w (FromC w P W ts r) := by
  have HT : Hid (Tabs w) := hT
  have H : Hid (RdT w a ts) := h
  have HN : Hid (ts.length = n) := hn
  have HR : Hid (stdZ (P : Int) ts n = r) := hR
  have HRG : Hid (∀ t ∈ ts, -9223372036854775808 ≤ t.p ∧ t.p ≤ 9223372036854775807) := hrg
  have HPW : Hid ((1 ≤ P ∧ P ≤ 4096) ∧ (1 ≤ W ∧ W ≤ 8)) := ⟨hp, hw⟩
  have h1 : ¬ ((P : Int) < 1) := by omega
  have h2 : ¬ ((4096 : Int) < (P : Int)) := by omega
  have h3 : ¬ ((W : Int) < 1) := by omega
  have h4 : ¬ ((8 : Int) < (W : Int)) := by omega
  have MK : ∀ w : World, (Instr.makeSlice 86 (.int .i64 (W : Nat)) (.int .i64 (W : Nat))).run Tryz.prog w = .ok (.slice (some ⟨w.heap.size, 0, none⟩) W W) (w.alloc (.cells (List.replicate (W * 7) (Value.slice none 0 0)).toArray 99)) := fun w => make_S w _ (by omega)
  clear hT h hn hR hrg hp hw
  go_enter Tryz.func17, Tryz.ntmps17
  go_wp2_with fail
  refine (new_any P _ (by have := HPW.out; omega)).mono ?_
  rintro e w1 ⟨rfl, i1, b1⟩
  have I1 : Hid (IsR w1 (fun k => w.heap.size ≤ k) w.heap.size P (fun _ => false)) := i1
  have B1 : Hid (Below w.heap.size w w1) := b1
  obtain ⟨fb, hfb⟩ : ∃ fb, w.heap.size = fb := ⟨_, rfl⟩
  have EFB : Hid (w.heap.size = fb) := hfb
  rw [hfb]
  clear i1 b1 hfb
  obtain ⟨wz, hwz⟩ : ∃ wz, (w1.alloc (.cells (List.replicate (W * 7) (Value.slice none 0 0)).toArray 99)).alloc (.cells #[.pointer (some ⟨fb, 0, none⟩), .slice none 0 0, .slice (some ⟨w1.heap.size, 0, none⟩) W W] 89) = wz := ⟨_, rfl⟩
  have HWZ : Hid ((w1.alloc (.cells (List.replicate (W * 7) (Value.slice none 0 0)).toArray 99)).alloc (.cells #[.pointer (some ⟨fb, 0, none⟩), .slice none 0 0, .slice (some ⟨w1.heap.size, 0, none⟩) W W] 89) = wz) := hwz
  have BORN : Hid (Born w (w1.heap.size + 1) P W [] wz) := born_new P W w w1 wz fb HT.out I1.out B1.out EFB.out hwz
  obtain ⟨cb, hcb⟩ : ∃ cb, w1.heap.size + 1 = cb := ⟨_, rfl⟩
  have HCB : Hid (w1.heap.size + 1 = cb) := hcb
  rw [hcb] at BORN
  clear hwz hcb
  go_wp2_with (rw [HWZ.out])
  (try rw [HCB.out])
  go_loopw [39] (fun iv wr => ∃ (k : Nat) (L : Nat → Nat), k ≤ n ∧ iv = .int .i64 (k : Nat) ∧ stdZ (P : Int) ts k = true ∧ Ca wr L cb P W ((ts.take k).map sgT) ∧ Okc P W ((ts.take k).map sgT) ∧ ((endM ((ts.take k).map sgT) : Nat) : Int) = endZ ts k ∧ (∀ j, j < w.heap.size → L j = 0) ∧ Below w.heap.size w wr) (fun iv _ => n - lenW iv)
  case atStart =>
    obtain ⟨⟨L, hC, hl⟩, bb⟩ := BORN.out
    have := HPW.out
    exact ⟨0, L, Nat.zero_le _, rfl, rfl, (by have q := hC; rw [← HWZ.out] at q; exact q), ⟨this.1.1, this.1.2, this.2.1, this.2.2, Nat.zero_le _⟩, rfl, hl, (by have q := bb; rw [← HWZ.out] at q; exact q)⟩
  case round =>
    obtain ⟨k, L, hk, rfl, hst, hC, hO, hE, hL, hB⟩ := hrel
    rename World => wr
    have STD : Hid (stdZ (P : Int) ts k = true) := hst
    have HC : Hid (Ca wr L cb P W ((ts.take k).map sgT)) := hC
    have HO : Hid (Okc P W ((ts.take k).map sgT)) := hO
    have HE : Hid (((endM ((ts.take k).map sgT) : Nat) : Int) = endZ ts k) := hE
    have HL : Hid (∀ j, j < w.heap.size → L j = 0) := hL
    have HB : Hid (Below w.heap.size w wr) := hB
    clear hst hC hO hE hL hB
    by_cases hkn : k < n
    · have hkt : k < ts.length := by rw [HN.out]; exact hkn
      obtain ⟨g, off, la, lk, rfl, c0, c1, c2, c3, hI, hl⟩ := (H.out.keep HB.out) k hkt
      have hrg := HRG.out ts[k] (List.getElem_mem hkt)
      have MT : (ts.take (k + 1)).map sgT = (ts.take k).map sgT ++ [sgT ts[k]] := by rw [List.take_succ_eq_append_getElem hkt, List.map_append]; rfl
      have TZ : tdZ ts k = ts[k] := tdZ_at hkt
      obtain ⟨t, ht⟩ : ∃ t, ts[k] = t := ⟨_, rfl⟩
      rw [ht] at c0 c1 c2 c3 hI hl hrg MT TZ
      obtain ⟨q, hq⟩ : ∃ q, okD (P : Int) ((endM ((ts.take k).map sgT) : Nat) : Int) t = q := ⟨_, rfl⟩
      have OKQ : Hid (okD (P : Int) ((endM ((ts.take k).map sgT) : Nat) : Int) t = q) := hq
      have NXT : Hid (q = true → stdZ (P : Int) ts (k + 1) = true) := fun e => by rw [stdZ, STD.out, TZ, ← HE.out, hq, e]; rfl
      have BAD : Hid (q = false → r = false) := fun e => by
        rw [← HR.out]
        exact stdZ_false (by rw [TZ, ← HE.out, hq, e]) n hkn
      have NOK : Hid (q = true → Okc P W ((ts.take (k + 1)).map sgT) ∧ ((endM ((ts.take (k + 1)).map sgT) : Nat) : Int) = endZ ts (k + 1)) := fun e => by
        rw [MT, endZ, TZ]
        exact HO.out.snoc (by rw [hq, e])
      have HMT : Hid ((ts.take (k + 1)).map sgT = (ts.take k).map sgT ++ [sgT t]) := MT
      obtain ⟨p, c, s, l⟩ := t
      simp only at c0 c1 c2 c3 hI hl hrg
      obtain ⟨ln, hln⟩ : ∃ ln, l.length = ln := ⟨_, rfl⟩
      have HLN : Hid (l.length = ln) := hln
      rw [hln] at c3
      have LL : Hid (l.length ≤ maxLen) := hl
      obtain ⟨E, hEE⟩ : ∃ E, wr.alloc (.cells #[.int .i64 p, .int .i64 c, .int .i64 s, .slice la ln lk] 48) = E := ⟨_, rfl⟩
      have HEE : Hid (wr.alloc (.cells #[.int .i64 p, .int .i64 c, .int .i64 s, .slice la ln lk] 48) = E) := hEE
      have BE : Hid (Below wr.heap.size wr E) := by show Below _ _ _; rw [← hEE]; exact (Below.refl _ wr).alloc (Nat.le_refl _) _
      have RE : E.heap[wr.heap.size]? = some (.cells (dcells p c s la ln lk) 48 (0, 0)) := by rw [← hEE]; exact Go.heap_alloc_new wr _
      have e0 := dcell0 RE
      have e1 := dcell1 RE
      have e2 := dcell2 RE
      have e3 := dcell3 RE
      have IE : Hid (IsI E la l) := hI.keep BE.out
      have CE : Hid (Ca E (lab L wr.heap.size 0) cb P W ((ts.take k).map sgT)) := HC.out.keep (lab_ext _ _ _) BE.out
      have HL' : Hid (∀ j, j < w.heap.size → lab L wr.heap.size 0 j = 0) := fun j hj => by rw [lab_ext wr L 0 j (by have := HB.out.size; omega)]; exact HL.out j hj
      have k0 : (k : Int) < (n : Int) := by omega
      clear hI hl hEE RE ht MT TZ hq hln hkt
      go_upto_region 8 with (fail)
      rw [HEE.out]
      go_wp2_with fail
      refine (klay_ca _ cb P W _ la lk p c s l ln HLN.out _ CE.out HO.out IE.out LL.out hrg q OKQ.out).mono ?_
      rintro e w2 ⟨rfl, L2, hM2, hT2⟩
      have B2 : Hid (Below w.heap.size w w2) := (HB.out.trans (BE.out.mono HB.out.size)).trans (hM2.tu.below (fun i hi => by
        rcases Nat.lt_or_ge i w.heap.size with e | e
        · exact absurd (HL'.out i e) hi
        · exact e) (by have := HB.out.size; have := BE.out.size; omega))
      have L2z : Hid (∀ j, j < w.heap.size → L2 j = 0) := fun j hj => by rw [hM2.ext j (by have := HB.out.size; have := BE.out.size; omega)]; exact HL'.out j hj
      have HT2 : Hid (q = true → Ca w2 L2 cb P W ((ts.take k).map sgT ++ [sgT ⟨p, c, s, l⟩])) := hT2
      clear hM2 hT2 e0 e1 e2 e3 c0 c1 c2 c3
      cases q with
      | false =>
        have RF : Hid (r = false) := BAD.out rfl
        go_wp2
        go_ret2
        exact .inr ⟨RF.out, rfl, B2.out⟩
      | true =>
        have S1 : Hid (stdZ (P : Int) ts (k + 1) = true) := NXT.out rfl
        have O1 : Hid (Okc P W ((ts.take (k + 1)).map sgT) ∧ ((endM ((ts.take (k + 1)).map sgT) : Nat) : Int) = endZ ts (k + 1)) := NOK.out rfl
        have C1 : Hid (Ca w2 L2 cb P W ((ts.take (k + 1)).map sgT)) := by rw [HMT.out]; exact HT2.out rfl
        go_wp2
        go_roundw
        case rel => exact ⟨k + 1, L2, by omega, by congr 1, S1.out, C1.out, O1.out.1, O1.out.2, L2z.out, B2.out⟩
        case measure => simp [lenW]; omega
    · obtain rfl : k = n := by omega
      have F : Hid (FromC w P W ts r (.returned (.tuple #[.pointer (some ⟨cb, 0, none⟩), .int .i64 0])) wr) := by
        refine .inl ⟨by rw [← HR.out]; exact STD.out, cb, rfl, ⟨L, ?_, HL.out⟩, HB.out⟩
        have := HC.out
        rw [List.take_of_length_le (Nat.le_of_eq HN.out)] at this
        exact this
      go_wp2
      go_ret2
      exact F.out
end Go.Proofs.YtgmljgogmbaioaaGreatDoor

/- The document's Copy of spans that are told. -/
namespace Go.Proofs.YtgmljgogmbaioaaGreatDoor
open Go.RowKit
set_option linter.unusedVariables false
set_option maxRecDepth 4000

theorem app_nil_cap (P : Program) (w : World) (t e : TypeId) (i : TypeInfo) (ht : P.underlying t = some (.slice e)) (hi : P.info? e = some i) (ty : TypeId) (b : Addr) (k : Nat) : (Builtin.append_ #[t, t] ty #[.slice (some b) 0 0, .slice none 0 k]).run P w = (Builtin.append_ #[t, t] ty #[.slice (some b) 0 0, .slice none 0 0]).run P w := by
  rfl
/-- Numbers of any list put behind none: a list of one's own. -/
theorem appAll_run (B : Nat) (w : World) (hB : B ≤ w.heap.size) (g0 : Nat) (h : OwnsI w B (some ⟨g0, 0, none⟩) [] 0) (la : Option Addr) (l : List Int) (n lk : Nat) (hn : l.length = n) (hI : IsI w la l) (hl : l.length ≤ 17592186044416) :
    ∃ a' cap' w', (Builtin.append_ #[34, 34] 34 #[.slice (some ⟨g0, 0, none⟩) 0 0, .slice la n lk]).run Tryz.prog w = .ok (.slice a' n cap') w' ∧ OwnsI w' B a' l cap' ∧ Tu (fun k => k = g0) w w' := by
  subst hn
  obtain ⟨i0, hi, hz0, hz2, hz3⟩ := info_parts Tryz.info3
  cases la with
  | none =>
    obtain ⟨_, rfl | ⟨b, off, e, _⟩⟩ := hI
    · refine ⟨some ⟨g0, 0, none⟩, 0, w, ?_, h, Tu.refl _ _⟩
      show (Builtin.append_ #[34, 34] 34 #[.slice (some ⟨g0, 0, none⟩) 0 0, .slice none 0 lk]).run Tryz.prog w = _
      rw [app_nil_cap Tryz.prog w _ _ _ Tryz.underlying34 hi]
      exact run_append_owned_none (P := Tryz.prog) (w := w) B 34 34 3 i0 1 Tryz.underlying34 hi _ _ _ h
    · cases e
  | some x =>
    obtain ⟨v', w', hr, h2, h3, _, _⟩ := run_append_own_at (P := Tryz.prog) w B 34 34 3 i0 _ 1 8 Tryz.underlying34 hi hz0 hz2 hz3 rfl (by decide) (.slice (some ⟨g0, 0, none⟩) 0 0) 0 ([].map (Value.int .i64)) h x l.length lk (l.map (Value.int .i64)) (by simp) (fun j u hj => by
        have hj' : j < l.length := by have := (List.getElem?_eq_some_iff.1 hj).1; simpa using this
        obtain ⟨_, h0 | ⟨b, off, e, _, hc⟩⟩ := hI
        · rw [h0] at hj'; simp at hj'
        · cases e
          rw [show (⟨b, off, none⟩ : Addr).add j = ⟨b, off + j, none⟩ from by simp [Addr.add], hc j hj']
          rw [List.getElem?_map, List.getElem?_eq_getElem hj'] at hj
          rw [← hj, List.getD_eq_getElem?_getD, List.getElem?_eq_getElem hj']
          rfl) (fun u hu => by obtain ⟨x, _, rfl⟩ := List.mem_map.1 hu; rfl) (by unfold maxLen; omega) (by omega) hB
    simp only [Nat.zero_add, List.map_nil, List.nil_append] at h2
    obtain ⟨a', cap', rfl⟩ := owns_formI h2
    refine ⟨a', cap', w', hr, h2, Tu.grown h3 (fun g hg => ?_)⟩
    have : some g0 = some g := hg
    exact (Option.some.inj this).symm
set_option maxRecDepth 20000 in
set_option maxHeartbeats 4000000 in
theorem rcopy_any (a : Option Addr) (n cap : Nat) (ts : List Td) (w : World) (h : RdT w a ts) (hn : ts.length = n) (hl : n ≤ 100000) (hL : ∀ t ∈ ts, t.l.length ≤ 17592186044416) :
    Calls Tryz.prog 16 #[.slice a n cap] w fun e w' => ∃ a' c', e = .returned (.slice a' n c') ∧ Told w' w.heap.size (.slice a' n c') ts ∧ Below w.heap.size w w' := by
  have H : Hid (RdT w a ts) := h
  have HN : Hid (ts.length = n) := hn
  have HL : Hid (∀ t ∈ ts, t.l.length ≤ 17592186044416) := hL
  clear h hn hL
  go_enter Tryz.func16, Tryz.ntmps16
  go_wp2_with fail
  go_loopw [3, 8] (fun lv iv wr => ∃ (k : Nat) (av : Option Addr) (cv : Nat), k ≤ n ∧ iv = .int .i64 (k : Nat) ∧ lv = .slice av k cv ∧ Told wr w.heap.size (.slice av k cv) (ts.take k) ∧ Below w.heap.size w wr) (fun _ iv _ => n - lenW iv)
  case atStart => exact ⟨0, none, 0, Nat.zero_le _, rfl, rfl, Told.nil _ _, Below.refl _ _⟩
  case round =>
    obtain ⟨k, av, cv, hk, rfl, rfl, ht, hb⟩ := hrel
    rename World => wr
    have HT : Hid (Told wr w.heap.size (.slice av k cv) (ts.take k)) := ht
    have HB : Hid (Below w.heap.size w wr) := hb
    clear ht hb
    by_cases hkn : k < n
    · have hkt : k < ts.length := by rw [HN.out]; exact hkn
      obtain ⟨g, off, la, lk, rfl, c0, c1, c2, c3, hI, hl0⟩ := (H.out.keep HB.out) k hkt
      have hl1 := HL.out ts[k] (List.getElem_mem hkt)
      have ET : ts.take k ++ [ts[k]] = ts.take (k + 1) := (List.take_succ_eq_append_getElem hkt).symm
      obtain ⟨t, ht⟩ : ∃ t, ts[k] = t := ⟨_, rfl⟩
      rw [ht] at c0 c1 c2 c3 hI hl0 hl1 ET
      have HET : Hid (ts.take k ++ [t] = ts.take (k + 1)) := ET
      obtain ⟨p, c, s, l⟩ := t
      simp only at c0 c1 c2 c3 hI hl0 hl1
      obtain ⟨ln, hln⟩ : ∃ ln, l.length = ln := ⟨_, rfl⟩
      have HLN : Hid (l.length = ln) := hln
      rw [hln] at c3
      obtain ⟨E1, hE1⟩ : ∃ E1, wr.alloc (.cells #[.int .i64 p, .int .i64 c, .int .i64 s, .slice la ln lk] 48) = E1 := ⟨_, rfl⟩
      have HE1 : Hid (wr.alloc (.cells #[.int .i64 p, .int .i64 c, .int .i64 s, .slice la ln lk] 48) = E1) := hE1
      have B1 : Below wr.heap.size wr E1 := by rw [← hE1]; exact (Below.refl _ wr).alloc (Nat.le_refl _) _
      have R1 : E1.heap[wr.heap.size]? = some (.cells (dcells p c s la ln lk) 48 (0, 0)) := by rw [← hE1]; exact Go.heap_alloc_new wr _
      have z1 : E1.heap.size = wr.heap.size + 1 := by rw [← hE1]; simp
      obtain ⟨E2, hE2⟩ : ∃ E2, E1.alloc (.cells #[] 3) = E2 := ⟨_, rfl⟩
      have HE2 : Hid (E1.alloc (.cells #[] 3) = E2) := hE2
      have B2 : Below E1.heap.size E1 E2 := by rw [← hE2]; exact (Below.refl _ E1).alloc (Nat.le_refl _) _
      have O2 : OwnsI E2 (wr.heap.size + 1) (some ⟨E1.heap.size, 0, none⟩) [] 0 := by
        rw [← hE2]; exact World.ownsRow_made E1 #[] 0 (by omega) (Nat.zero_le _) rfl
      have R2 := bblock B2 R1
      have hw0 := HB.out.size
      obtain ⟨a9, c9, w9, run9, o9, u9⟩ := appAll_run (wr.heap.size + 1) E2 (by have := B2.size; omega) E1.heap.size O2 la l ln lk hln ((hI.keep B1).keep B2) hl1
      have R9 : w9.heap[wr.heap.size]? = some (.cells (dcells p c s la ln lk) 48 (0, 0)) := u9.block _ _ R2 (by omega)
      have B9 : Below wr.heap.size wr w9 := (B1.trans (B2.mono B1.size)).trans ((u9.below (B := wr.heap.size + 1) (fun i e => by omega) (by have := B2.size; omega)).mono (by omega))
      obtain ⟨X, hX⟩ : ∃ X, w9.setCell ⟨wr.heap.size, 3, none⟩ (.slice a9 ln c9) = X := ⟨_, rfl⟩
      have HX : Hid (w9.setCell ⟨wr.heap.size, 3, none⟩ (.slice a9 ln c9) = X) := hX
      have on : Only wr.heap.size w9 X := by rw [← hX]; exact Only.set _ 3 _ w9
      have RX : X.heap[wr.heap.size]? = some (.cells (dcells p c s a9 ln c9) 48 (0, 0)) := by
        rw [← hX, heap_put R9]; simp [dcells]
      have BX : Below wr.heap.size wr X := B9.trans (on.below (Nat.le_refl _))
      have OX : OwnsI X (wr.heap.size + 1) a9 l c9 := by
        obtain ⟨h0, h1 | ⟨g', c'', cur, h1, hb, h3, h4⟩⟩ := o9
        · exact ⟨h0, .inl h1⟩
        · exact ⟨h0, .inr ⟨g', c'', cur, h1, hb, by rw [on.block g' (by omega)]; exact h3, h4⟩⟩
      obtain ⟨D, hD⟩ : ∃ D, X.alloc (.cells #[.int .i64 p, .int .i64 c, .int .i64 s, .slice a9 ln c9] 48) = D := ⟨_, rfl⟩
      have HD : Hid (X.alloc (.cells #[.int .i64 p, .int .i64 c, .int .i64 s, .slice a9 ln c9] 48) = D) := hD
      have bD : Below X.heap.size X D := by rw [← hD]; exact (Below.refl _ X).alloc (Nat.le_refl _) _
      have RD : Hid (D.heap[X.heap.size]? = some (.cells (dcells p c s a9 ln c9) 48 (0, 0))) := by show _ = _; rw [← hD]; exact Go.heap_alloc_new X _
      have B0 : Below wr.heap.size wr D := BX.trans (bD.mono BX.size)
      have TD : Hid (Told D w.heap.size (.slice av k cv) (ts.take k)) := HT.out.keep B0
      have BD : Hid (Below w.heap.size w D) := HB.out.trans (B0.mono HB.out.size)
      have OD : Hid (OwnsI D w.heap.size a9 l c9) := (OX.keep bD).mono (by omega)
      have KL : Hid ((ts.take k).length = k) := by show _ = _; rw [List.length_take, HN.out]; omega
      have LN : Hid ((ts.take k).length ≤ 100000) := by show _ ≤ _; rw [KL.out]; omega
      have RUN9 : Hid ((Builtin.append_ #[34, 34] 34 #[.slice (some ⟨E1.heap.size, 0, none⟩) 0 0, .slice la ln lk]).run Tryz.prog E2 = .ok (.slice a9 ln c9) w9) := run9
      have e3 := dcell3 R2
      have d3 := dcell3 R1
      have f9 : w9.frozen? ⟨wr.heap.size, 3, none⟩ = false := frozen_of_row _ _ _ _ _ R9
      have y3 := dcell3 R9
      have x0 := dcell0 RX
      have x1 := dcell1 RX
      have x2 := dcell2 RX
      have x3 := dcell3 RX
      have k0 : (k : Int) < (n : Int) := by omega
      clear hI hl0 hl1 ET ht hln B1 R1 z1 B2 O2 R2 hw0 run9 o9 u9 B9 on RX BX OX bD B0 R9 hE1
      go_upto_region 5 with (fail)
      rw [HE1.out]
      go_wp2_with (first
        | (have q9 := f9; at_builtin; (try rw [HE2.out]); refine wpList_runi rfl rfl _ _ rfl (.slice (some ⟨E1.heap.size, 0, none⟩) 0 0) (.slice la ln lk) _ _ rfl rfl RUN9.out ?_; clear f9)
        | (at_builtin; (try rw [HX.out]); (try rw [HD.out]); refine wpList_told rfl _ _ rfl w.heap.size BD.out.size av k cv (ts.take k) rfl KL.out TD.out _ 1 ⟨⟨p, c, s, l⟩, a9, c9⟩ ln HLN.out rfl RD.out OD.out LN.out ?_; intro a4 c4 w4 t4 b4; have T4 : Hid (Told w4 w.heap.size (.slice a4 (k + 1) c4) (ts.take (k + 1))) := (by rw [← HET.out]; exact t4); have B4 : Hid (Below w.heap.size w w4) := BD.out.trans b4; clear t4 b4))
      go_roundw
      case rel => exact ⟨k + 1, a4, c4, by omega, by congr 1, rfl, T4.out, B4.out⟩
      case measure => simp [lenW]; omega
    · obtain rfl : k = n := by omega
      have F : Hid (Told wr w.heap.size (.slice av k cv) ts) := by
        have := HT.out
        rw [List.take_of_length_le (Nat.le_of_eq HN.out)] at this
        exact this
      go_wp2
      go_ret
      exact ⟨av, cv, rfl, F.out, HB.out⟩
end Go.Proofs.YtgmljgogmbaioaaGreatDoor
