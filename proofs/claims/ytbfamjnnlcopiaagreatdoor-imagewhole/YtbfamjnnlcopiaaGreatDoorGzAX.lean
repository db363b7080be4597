/- Rows from the last one on: slices.Backward, its function's contract. -/
import Derived.Test.YtbfamjnnlcopiaaGreatDoorGzAO
import Derived.RangeFuncNested
import Derived.RangeFuncBound
import Derived.RangeFuncCalls
import Derived.RangeFuncLeaves
import Derived.Shelf.Abstract
import Derived.Shelf.RegionOpen
import Derived.OwnWalkIn
import Derived.TacticsInMore
import Derived.LoopNIn
import Derived.LoopIn
import Derived.Test.YtbfamjnnlcopiaaGreatDoorGzAN
namespace Go.Proofs.YtbfamjnnlcopiaaGreatDoor
open Go.RowKit Go.Shelf
set_option linter.unusedVariables false
set_option maxRecDepth 4000
attribute [local go_sem] Oper.semAt_some

/-- A row's index. -/
abbrev Ix := { i : Nat // i < 300 }
def ix (n : Nat) : Ix := if h : n < 300 then ⟨n, h⟩ else ⟨0, by decide⟩
theorem ix_at {n : Nat} (h : n < 300) : (ix n).1 = n := by unfold ix; rw [dif_pos h]
def backs (n k : Nat) : List Ix := (List.range k).map (fun t => ix (n - 1 - t))
theorem backs_succ (n k : Nat) : backs n (k + 1) = backs n k ++ [ix (n - 1 - k)] := by simp [backs, List.range_succ]
theorem backs_len (n k : Nat) : (backs n k).length = k := by simp [backs]
/-- What a round keeps: of the blocks below n all but one. -/
structure Kq (n mi : Nat) (W W' : World) : Prop where
  size : W.heap.size ≤ W'.heap.size
  block : ∀ k, k < n → k ≠ mi → W'.heap[k]? = W.heap[k]?
theorem Kq.refl (n mi : Nat) (W : World) : Kq n mi W W := ⟨Nat.le_refl _, fun _ _ _ => rfl⟩
theorem Kq.trans {n mi : Nat} {A B C : World} (h : Kq n mi A B) (k : Kq n mi B C) : Kq n mi A C := ⟨Nat.le_trans h.size k.size, fun q h1 h2 => (k.block q h1 h2).trans (h.block q h1 h2)⟩
def encR (rs : List HRw) (x : Ix) : Array Value := #[.int .i64 (x.1 : Int), .agg #[.int .i64 (rwD rs x.1).gen, .bool (rwD rs x.1).live, .int .i64 (rwD rs x.1).kind, .int .i64 (rwD rs x.1).pl]]
set_option maxRecDepth 100000 in
set_option maxHeartbeats 2000000 in
theorem back1_in (n : Nat) (hn : 1 ≤ n) (l Bs n₀ mi rn rc : Nat) (a : Option Addr) (rs : List HRw) (hrl : rs.length = rn) (hrn : rn ≤ 300) (hBs : Bs < n₀) (hBm : Bs ≠ mi) (ha : ∀ p, a = some p → rs ≠ [] → p.block < n₀ ∧ p.block ≠ mi) (J Jx : List Ix → World → Prop)
    (hY : ∀ pre x W, J pre W → pre.length < rn → YieldAt Fence.wide (n - 1) Tryz.prog l (encR rs x) W fun e W' =>
      (e = .returned (.bool true) ∧ J (pre ++ [x]) W' ∧ Kq n₀ mi W W') ∨ (e = .returned (.bool false) ∧ Jx (pre ++ [x]) W'))
    (W : World) (hc0 : W.cell? ⟨Bs, 0, none⟩ = some (.slice a rn rc)) (hc : IsW W a rs) (h0 : J [] W) :
    CallsIn Fence.wide n Tryz.prog 116 #[.func (.yield l) #[] #[], .pointer (some ⟨Bs, 0, none⟩)] W fun e W' => (∃ v, e = .returned v) ∧
      ((∃ ys, ys = backs rn rn ∧ J ys W') ∨ (∃ pre, True ∧ Jx pre W')) := by
  refine callsIn_of_wp Tryz.func116 rfl trivial ?_ rfl
  simp only [Tryz.ntmps116, List.size_toArray, List.length_cons, List.length_nil, Nat.reduceAdd, Nat.reduceSub, Array.replicate_succ, Array.replicate_zero, List.push_toArray, List.append_toArray, List.nil_append, List.cons_append]
  have wr0 : IntKind.i64.wrap ((rn : Int) - 1) = (rn : Int) - 1 := by rw [IntKind.wrap_i64]; omega
  gi_wp2
  gi_loopw [3] (fun i wr => ∃ (k m : Nat) (y : Int), k + m = rn ∧ y = (m : Int) - 1 ∧ i = .int .i64 y ∧ J (backs rn k) wr ∧ Kq n₀ mi W wr)
    (fun i _ => (intOf i + 1).toNat)
  case atStart => exact ⟨0, rn, (rn : Int) - 1, by omega, rfl, rfl, h0, Kq.refl _ _ _⟩
  case round =>
    obtain ⟨k, m, y, hkm, hy, rfl, hJs, hkq⟩ := hrel
    have HKM : Hid (k + m = rn ∧ y = (m : Int) - 1) := ⟨hkm, hy⟩
    clear hkm hy
    have hcw : wr.cell? ⟨Bs, 0, none⟩ = some (.slice a rn rc) := (World.cell?_of_block (hkq.block Bs hBs hBm)).trans hc0
    rcases m with _ | j
    · have hJ9 : Hid (J (backs rn rn) wr) := by have := HKM.out.1; rw [show k = rn by omega] at hJs; exact hJs
      have hy : y < 0 := by have := HKM.out.2; omega
      have hy' : ¬ (0 ≤ y) := by omega
      clear HKM hJs
      gi_wp2
      go_end0
      exact ⟨⟨_, rfl⟩, by first | exact .inl hJ9.out | exact .inl ⟨_, rfl, hJ9.out⟩⟩
    · have hkj := HKM.out.1
      obtain rfl : y = (j : Int) := by have := HKM.out.2; omega
      have hjr : j < rs.length := by omega
      have hne : rs ≠ [] := by intro e; rw [e] at hjr; simp at hjr
      obtain ⟨b, off, ea, q0, q1, q2, q3⟩ := (hc.same hkq.size (fun p hp => hkq.block p.block (ha p hp hne).1 (ha p hp hne).2)).at j hjr
      clear hne
      subst ea
      have hj3 : j < 300 := by omega
      have ej : rn - 1 - k = j := by omega
      obtain ⟨fn, tmps, assign, body, hyy, hR⟩ := hY (backs rn k) (ix j) wr hJs (by rw [backs_len]; omega)
      have ee : encR rs (ix j) = #[.int .i64 (j : Int), .agg #[.int .i64 (rwD rs j).gen, .bool (rwD rs j).live, .int .i64 (rwD rs j).kind, .int .i64 (rwD rs j).pl]] := by unfold encR; rw [ix_at hj3]
      rw [ee] at hyy
      have j0 : (j : Int) < (rn : Int) := by omega
      have wj : IntKind.i64.wrap ((j : Int) - 1) = (j : Int) - 1 := by rw [IntKind.wrap_i64]; omega
      have HEJ : Hid (rn - 1 - k = j ∧ k + (j + 1) = rn) := ⟨ej, hkj⟩
      clear ee ej hkj hj3 hjr HKM
      gi_wp2
      refine hR.mono ?_
      rintro e W3 (⟨rfl, hJ3, hk3⟩ | ⟨rfl, hJx3⟩)
      · gi_wp2
        go_roundw
        case rel => exact ⟨k + 1, j, (j : Int) - 1, by have := HEJ.out.2; omega, rfl, rfl, by rw [backs_succ, HEJ.out.1]; exact hJ3, hkq.trans hk3⟩
        case measure => simp [intOf]
      · gi_wp2
        refine bodyPost_ret (results_none rfl _ _ _) rfl ?_
        exact ⟨⟨_, rfl⟩, by first | exact .inr ⟨_, hJx3⟩ | exact .inr ⟨_, trivial, hJx3⟩⟩
theorem back_in (n : Nat) (a : Option Addr) (len cap : Nat) (w : World) :
    Calls Tryz.prog 98 #[.slice a len cap] w fun e w' => e = .returned (.func (.func 116) #[] #[.pointer (some ⟨w.heap.size, 0, none⟩)]) ∧ w' = w.alloc (.cells #[.slice a len cap] 23) := by
  go_enter Tryz.func98, Tryz.ntmps98
  go_wp2
  go_ret
  exact ⟨rfl, rfl⟩
theorem back_stops (n : Nat) (hn : 1 ≤ n) (Bs n₀ mi rn rc : Nat) (a : Option Addr) (rs : List HRw) (hrl : rs.length = rn) (hrn : rn ≤ 300) (hBs : Bs < n₀) (hBm : Bs ≠ mi) (ha : ∀ p, a = some p → rs ≠ [] → p.block < n₀ ∧ p.block ≠ mi) (w : World) (hz : n₀ ≤ w.heap.size) (hc0 : w.cell? ⟨Bs, 0, none⟩ = some (.slice a rn rc)) (hc : IsW w a rs) :
    SeqStopsK Fence.wide n Tryz.prog 116 #[.pointer (some ⟨Bs, 0, none⟩)] (encR rs) (Kq n₀ mi) (fun ys => ys = backs rn rn) (fun _ => True) rn w := fun l J Jx W hW _ _ hY h0 =>
  back1_in n hn l Bs n₀ mi rn rc a rs hrl hrn hBs hBm ha J Jx hY W ((hW.cell (p := ⟨Bs, 0, none⟩) (by show Bs < _; omega)).trans hc0) (hc.keep hW) h0
end Go.Proofs.YtbfamjnnlcopiaaGreatDoor

/- What is looked up of the rows: a map from places, filled from the last row on. -/
namespace Go.Proofs.YtbfamjnnlcopiaaGreatDoor
open Go.RowKit Go.Shelf
set_option linter.unusedVariables false
set_option maxRecDepth 4000

/-- What the map holds behind some rows. -/
def putR (rs : List HRw) (f : Int → Option Nat) (x : Ix) : Int → Option Nat := if (rwD rs x.1).live = true then (fun y => if y = (rwD rs x.1).pl then some x.1 else f y) else f
def mapR (rs : List HRw) (l : List Ix) : Int → Option Nat := l.foldl (putR rs) (fun _ => none)
theorem mapR_snoc (rs : List HRw) (l : List Ix) (x : Ix) : mapR rs (l ++ [x]) = putR rs (mapR rs l) x := by simp [mapR, List.foldl_append]
theorem mapR_backs {rs : List HRw} (h3 : rs.length ≤ 300) : ∀ k, k ≤ rs.length → ∀ y, mapR rs (backs rs.length k) y = none ∧ (∀ j, rs.length - k ≤ j → j < rs.length → ¬ ((rwD rs j).live = true ∧ (rwD rs j).pl = y)) ∨ ∃ i, mapR rs (backs rs.length k) y = some i ∧ rs.length - k ≤ i ∧ i < rs.length ∧ (rwD rs i).live = true ∧ (rwD rs i).pl = y ∧ ∀ j, rs.length - k ≤ j → j < i → ¬ ((rwD rs j).live = true ∧ (rwD rs j).pl = y)
  | 0, _, y => .inl ⟨rfl, fun j h1 h2 => by omega⟩
  | k + 1, hk, y => by
    have e1 : (ix (rs.length - 1 - k)).1 = rs.length - 1 - k := ix_at (by omega)
    rw [backs_succ, mapR_snoc]
    unfold putR
    rw [e1]
    obtain ⟨q, hq⟩ : ∃ q, rs.length - 1 - k = q := ⟨_, rfl⟩
    rw [hq]
    have hq1 : rs.length - (k + 1) = q := by omega
    have hq2 : rs.length - k = q + 1 := by omega
    have ih := mapR_backs h3 k (by omega) y
    rw [hq2] at ih
    rw [hq1]
    by_cases hl : (rwD rs q).live = true
    · rw [if_pos hl]
      by_cases hy : y = (rwD rs q).pl
      · right
        exact ⟨q, if_pos hy, Nat.le_refl _, by omega, hl, hy.symm, fun j h1 h2 => by omega⟩
      · rw [if_neg hy]
        rcases ih with ⟨h1, h2⟩ | ⟨i, h1, h2, h3, h4, h5, h6⟩
        · left
          refine ⟨h1, fun j a b hh => ?_⟩
          rcases Nat.lt_or_eq_of_le a with e | rfl
          · exact h2 j e b hh
          · exact hy hh.2.symm
        · right
          refine ⟨i, h1, by omega, h3, h4, h5, fun j a b hh => ?_⟩
          rcases Nat.lt_or_eq_of_le a with e | rfl
          · exact h6 j e b hh
          · exact hy hh.2.symm
    · rw [if_neg hl]
      rcases ih with ⟨h1, h2⟩ | ⟨i, h1, h2, h3, h4, h5, h6⟩
      · left
        refine ⟨h1, fun j a b hh => ?_⟩
        rcases Nat.lt_or_eq_of_le a with e | rfl
        · exact h2 j e b hh
        · exact hl hh.1
      · right
        refine ⟨i, h1, by omega, h3, h4, h5, fun j a b hh => ?_⟩
        rcases Nat.lt_or_eq_of_le a with e | rfl
        · exact h6 j e b hh
        · exact hl hh.1
theorem mapR_all {rs : List HRw} (h3 : rs.length ≤ 300) : mapR rs (backs rs.length rs.length) = ownI rs := by
  funext y
  rcases mapR_backs h3 rs.length (Nat.le_refl _) y with ⟨h1, h2⟩ | ⟨i, h1, h2, h3, h4, h5, h6⟩
  · rw [h1]
    cases e : ownI rs y with
    | none => rfl
    | some i =>
      obtain ⟨k1, k2, k3, _⟩ := own_some e
      exact absurd ⟨k2, k3⟩ (h2 i (by omega) k1)
  · rw [h1]
    exact (own_is h3 h4 h5 (fun j hj => h6 j (by omega) hj)).symm
end Go.Proofs.YtbfamjnnlcopiaaGreatDoor

/- What is looked up of a view: look, its first part. -/
namespace Go.Proofs.YtbfamjnnlcopiaaGreatDoor
open Go.RowKit Go.Shelf
set_option linter.unusedVariables false
set_option maxRecDepth 4000

/-- A view that is being looked up: its spans. -/
structure La (w wz : World) (n0 : Nat) (V : Vw) (A : Va) (k nf : Nat) (f : Int → Option Nat) : Prop where
  bel : Below n0 w wz
  vb : wz.heap[n0]? = some (.cells #[.int .i64 V.base, .int .i64 V.pgs, .slice A.ka A.kn A.kc, .slice A.ra A.rn A.rc, .slice A.sa A.sn A.sc, .slice A.ba A.bn A.bc] 27 (0, 0))
  mp : MapP wz (n0 + 1) nf f
  on : MapI wz (n0 + 2) 0 (fun _ => none)
  lb : wz.heap[n0 + 3]? = some (.cells #[.int .i64 V.base, .int .i64 V.pgs, .slice A.ka A.kn A.kc, .slice A.ra A.rn A.rc, .slice A.sa A.sn A.sc, .slice A.ba A.bn A.bc, .map (some (n0 + 1)), .map (some (n0 + 2))] 142 (0, 0))
  pv : wz.heap[n0 + 4]? = some (.cells #[.pointer (some ⟨n0 + 3, 0, none⟩)] 106 (0, 0))
  nk : nf ≤ k
  f1 : ∀ q p, f q = some p → ∃ i, i < k ∧ rightT (tdD V.ts i) ∧ (tdD V.ts i).p = q ∧ ∃ b g, SpanAt wz p b g (tdD V.ts i).p (tdD V.ts i).c (tdD V.ts i).s (fOf (tdD V.ts i).l) ∧ n0 + 4 < p ∧ n0 + 4 < b ∧ n0 + 4 < g
  f2 : ∀ i, i < k → rightT (tdD V.ts i) → (f (tdD V.ts i).p).isSome = true
  tab : Tabs wz
theorem La.keep {w wz w' : World} {n0 : Nat} {V : Vw} {A : Va} {k nf : Nat} {f : Int → Option Nat} (h : La w wz n0 V A k nf f) (hb : Below wz.heap.size wz w') (hz : n0 ≤ wz.heap.size) : La w w' n0 V A k nf f :=
  ⟨h.bel.trans (hb.mono hz), by rw [hb.block _ (hlt h.vb)]; exact h.vb, h.mp.keep hb, h.on.keep hb, by rw [hb.block _ (hlt h.lb)]; exact h.lb, by rw [hb.block _ (hlt h.pv)]; exact h.pv, h.nk, fun q p hq => by
    obtain ⟨i, h1, h2, h3, b, g, h4, h5⟩ := h.f1 q p hq
    exact ⟨i, h1, h2, h3, b, g, h4.keep hb, h5⟩, h.f2, h.tab.keep hb⟩
theorem La.more {w wz : World} {n0 : Nat} {V : Vw} {A : Va} {k nf : Nat} {f : Int → Option Nat} (h : La w wz n0 V A k nf f) (hr : ¬ rightT (tdD V.ts k)) : La w wz n0 V A (k + 1) nf f :=
  ⟨h.bel, h.vb, h.mp, h.on, h.lb, h.pv, by have := h.nk; omega, fun q p hq => by
    obtain ⟨i, h1, h2⟩ := h.f1 q p hq
    exact ⟨i, by omega, h2⟩, fun i hi hri => by
    rcases Nat.lt_or_eq_of_le (Nat.le_of_lt_succ hi) with e | rfl
    · exact h.f2 i e hri
    · exact absurd hri hr, h.tab⟩
theorem Tabs.only {w w' : World} {g : Nat} (h : Tabs w) (on : Only g w w') (hg : 2 ≤ g) : Tabs w' :=
  ⟨⟨by rw [on.size]; exact h.1.1, fun j hj => by rw [on.cell (p := ⟨0, j, none⟩) (fun e => by have e : 0 = g := e; omega)]; exact h.1.2 j hj⟩, ⟨by rw [on.size]; exact h.2.1, fun j hj => by first | exact trivial | (rw [on.cell (p := ⟨1, j, none⟩) (fun e => by have e : 1 = g := e; omega)]; exact h.2.2 j hj)⟩⟩
theorem La.put {w wz w' : World} {n0 : Nat} {V : Vw} {A : Va} {k nf : Nat} {f : Int → Option Nat} (h : La w wz n0 V A k nf f) {sb b g : Nat} (hr : rightT (tdD V.ts k)) (hs : SpanAt wz sb b g (tdD V.ts k).p (tdD V.ts k).c (tdD V.ts k).s (fOf (tdD V.ts k).l)) (h1 : n0 + 4 < sb) (h2 : n0 + 4 < b) (h3 : n0 + 4 < g)
    (hm : MapP w' (n0 + 1) (nf + 1) (fun j => if j = (tdD V.ts k).p then some sb else f j)) (on : Only (n0 + 1) wz w') : La w w' n0 V A (k + 1) (nf + 1) (fun j => if j = (tdD V.ts k).p then some sb else f j) := by
  have hn0 : n0 ≠ 0 := fun e => by
    subst e
    have c := h.tab.1.2 2 (by decide)
    have d : wz.cell? ⟨0, 2, none⟩ = some (.slice A.ka A.kn A.kc) := cell_of_row _ _ 2 _ _ _ h.vb
    rw [d] at c
    cases c
  have blk : ∀ q, q ≠ n0 + 1 → w'.heap[q]? = wz.heap[q]? := fun q hq => on.block q hq
  refine ⟨h.bel.trans (on.below (by omega)), by rw [blk _ (by omega)]; exact h.vb, hm, h.on.same (fun o ho => by rw [blk _ (by omega)]; exact ho), by rw [blk _ (by omega)]; exact h.lb, by rw [blk _ (by omega)]; exact h.pv, by have := h.nk; omega, fun q p hq => ?_, fun i hi hri => ?_, h.tab.only on (by omega)⟩
  · by_cases e : q = (tdD V.ts k).p
    · rw [if_pos e] at hq
      cases hq
      exact ⟨k, by omega, hr, e.symm, b, g, hs.beside on (by omega) (by omega) (by omega), h1, h2, h3⟩
    · rw [if_neg e] at hq
      obtain ⟨i, a1, a2, a3, b', g', a4, a5, a6, a7⟩ := h.f1 q p hq
      exact ⟨i, by omega, a2, a3, b', g', a4.beside on (by omega) (by omega) (by omega), a5, a6, a7⟩
  · by_cases e : (tdD V.ts i).p = (tdD V.ts k).p
    · simp [e]
    · simp only [if_neg e]
      rcases Nat.lt_or_eq_of_le (Nat.le_of_lt_succ hi) with e' | rfl
      · exact h.f2 i e' hri
      · exact absurd rfl e
end Go.Proofs.YtbfamjnnlcopiaaGreatDoor

/- look: the view's spans looked up, up to its rows. -/
namespace Go.Proofs.YtbfamjnnlcopiaaGreatDoor
open Go.RowKit Go.Shelf
set_option linter.unusedVariables false
set_option maxRecDepth 4000

/-- The first blocks of look. -/
theorem look_blocks (w : World) (V : Vw) (A : Va) (hT : Tabs w) : ∃ D, (((((w.alloc (.cells #[.int .i64 V.base, .int .i64 V.pgs, .slice A.ka A.kn A.kc, .slice A.ra A.rn A.rc, .slice A.sa A.sn A.sc, .slice A.ba A.bn A.bc] 27)).alloc (.map #[] 0)).alloc (.map #[] 0)).alloc (.cells #[.int .i64 V.base, .int .i64 V.pgs, .slice A.ka A.kn A.kc, .slice A.ra A.rn A.rc, .slice A.sa A.sn A.sc, .slice A.ba A.bn A.bc, .map (some (w.heap.size + 1)), .map (some (w.heap.size + 2))] 142)).alloc (.cells #[.pointer (some ⟨w.heap.size + 3, 0, none⟩)] 106)) = D ∧ La w D w.heap.size V A 0 0 (fun _ => none) ∧ D.heap.size = w.heap.size + 5 := by
  refine ⟨_, rfl, ?_, by simp⟩
  obtain ⟨a0, h0⟩ : ∃ a0, w.alloc (.cells #[.int .i64 V.base, .int .i64 V.pgs, .slice A.ka A.kn A.kc, .slice A.ra A.rn A.rc, .slice A.sa A.sn A.sc, .slice A.ba A.bn A.bc] 27) = a0 := ⟨_, rfl⟩
  have z0 : a0.heap.size = w.heap.size + 1 := by rw [← h0]; simp
  have v0 := Go.heap_alloc_new w (.cells #[.int .i64 V.base, .int .i64 V.pgs, .slice A.ka A.kn A.kc, .slice A.ra A.rn A.rc, .slice A.sa A.sn A.sc, .slice A.ba A.bn A.bc] 27)
  have b0 : Below w.heap.size w a0 := by rw [← h0]; exact (Below.refl _ w).alloc (Nat.le_refl _) _
  rw [h0] at v0 ⊢
  obtain ⟨a1, h1⟩ : ∃ a1, a0.alloc (.map #[] 0) = a1 := ⟨_, rfl⟩
  have z1 : a1.heap.size = w.heap.size + 2 := by rw [← h1]; simp [z0]
  have b1 : Below a0.heap.size a0 a1 := by rw [← h1]; exact (Below.refl _ a0).alloc (Nat.le_refl _) _
  have m1 : MapP a1 (w.heap.size + 1) 0 (fun _ => none) := by rw [← h1, ← z0]; exact MapP.made a0
  rw [h1]
  obtain ⟨a2, h2⟩ : ∃ a2, a1.alloc (.map #[] 0) = a2 := ⟨_, rfl⟩
  have z2 : a2.heap.size = w.heap.size + 3 := by rw [← h2]; simp [z1]
  have b2 : Below a1.heap.size a1 a2 := by rw [← h2]; exact (Below.refl _ a1).alloc (Nat.le_refl _) _
  have m2 : MapI a2 (w.heap.size + 2) 0 (fun _ => none) := by rw [← h2, ← z1]; exact MapI.made a1
  rw [h2]
  obtain ⟨a3, h3⟩ : ∃ a3, a2.alloc (.cells #[.int .i64 V.base, .int .i64 V.pgs, .slice A.ka A.kn A.kc, .slice A.ra A.rn A.rc, .slice A.sa A.sn A.sc, .slice A.ba A.bn A.bc, .map (some (w.heap.size + 1)), .map (some (w.heap.size + 2))] 142) = a3 := ⟨_, rfl⟩
  have z3 : a3.heap.size = w.heap.size + 4 := by rw [← h3]; simp [z2]
  have b3 : Below a2.heap.size a2 a3 := by rw [← h3]; exact (Below.refl _ a2).alloc (Nat.le_refl _) _
  have v3 := Go.heap_alloc_new a2 (.cells #[.int .i64 V.base, .int .i64 V.pgs, .slice A.ka A.kn A.kc, .slice A.ra A.rn A.rc, .slice A.sa A.sn A.sc, .slice A.ba A.bn A.bc, .map (some (w.heap.size + 1)), .map (some (w.heap.size + 2))] 142)
  rw [h3, z2] at v3
  rw [h3]
  obtain ⟨a4, h4⟩ : ∃ a4, a3.alloc (.cells #[.pointer (some ⟨w.heap.size + 3, 0, none⟩)] 106) = a4 := ⟨_, rfl⟩
  have b4 : Below a3.heap.size a3 a4 := by rw [← h4]; exact (Below.refl _ a3).alloc (Nat.le_refl _) _
  have v4 := Go.heap_alloc_new a3 (.cells #[.pointer (some ⟨w.heap.size + 3, 0, none⟩)] 106)
  rw [h4, z3] at v4
  rw [h4]
  have b34 : Below a2.heap.size a2 a4 := b3.trans (b4.mono (by omega))
  have b24 : Below a1.heap.size a1 a4 := b2.trans (b34.mono (by omega))
  have b14 : Below a0.heap.size a0 a4 := b1.trans (b24.mono (by omega))
  have b04 : Below w.heap.size w a4 := b0.trans (b14.mono (by omega))
  refine ⟨b04, by rw [b14.block _ (by omega)]; exact v0, m1.keep b24, m2.keep b34, by rw [b4.block _ (by omega)]; exact v3, v4, Nat.le_refl _, (fun q p hq => by cases hq), (fun i hi => by omega), hT.keep b04⟩
end Go.Proofs.YtbfamjnnlcopiaaGreatDoor

/- look's second part: what holds between two rows. -/
namespace Go.Proofs.YtbfamjnnlcopiaaGreatDoor
open Go.RowKit Go.Shelf
set_option linter.unusedVariables false
set_option maxRecDepth 4000

structure Ir (w W0 W : World) (n0 : Nat) (rs : List HRw) (pre : List Ix) : Prop where
  mp : ∃ nr, nr ≤ pre.length ∧ MapI W (n0 + 2) nr (mapR rs pre)
  kq : Kq W0.heap.size (n0 + 2) W0 W
  bel : Below n0 w W
theorem Ir.own {w W0 : World} {n0 : Nat} {rs : List HRw} (h1 : n0 + 5 ≤ W0.heap.size) (h2 : w.heap.size = n0) : OwnFrom W0.heap.size (fun pre W => Ir w W0 W n0 rs pre) := fun pre X Y row hs hg hr => by
  obtain ⟨nr, hn, hm⟩ := hs.mp
  have ne : ∀ k, k < W0.heap.size → row ≠ some k := fun k hk e => by have := (hr k e).1; omega
  have hz := hs.kq.size
  refine ⟨⟨nr, hn, hm.same (fun o ho => by rw [hg.block _ (hlt ho) (fun e => ne _ (by omega) e.symm)]; exact ho)⟩, hs.kq.trans ⟨hg.size, fun k hk _ => hg.block k (by omega) (fun e => ne k hk e.symm)⟩, ?_⟩
  exact hs.bel.grown hg (by omega) (fun k e => by have := (hr k e).1; omega)
theorem Ir.alloc {w W0 W : World} {n0 : Nat} {rs : List HRw} {pre : List Ix} (h : Ir w W0 W n0 rs pre) (h1 : n0 + 5 ≤ W0.heap.size) (h2 : w.heap.size = n0) (o : Obj) : Ir w W0 (W.alloc o) n0 rs pre := (Ir.own (rs := rs) h1 h2).alloc o h
theorem kq_put {n mi : Nat} (W : World) (l : Nat) (o o' : Obj) (hl : n ≤ l) (h : W.heap[l]? = some o) : Kq n mi W (W.putObj l o') :=
  ⟨(grownBy_putObj' W l o').size, fun k hk _ => (grownBy_putObj' W l o').block k (by have := hlt h; omega) (fun e => by cases e; omega)⟩
theorem kq_alloc {n mi : Nat} (W : World) (o : Obj) (hn : n ≤ W.heap.size) : Kq n mi W (W.alloc o) := ⟨by simp, fun k hk _ => Go.heap_alloc_old _ _ (by omega)⟩
theorem Ir.skip {w W0 W : World} {n0 : Nat} {rs : List HRw} {pre : List Ix} {x : Ix} (h : Ir w W0 W n0 rs pre) (hl : (rwD rs x.1).live = false) : Ir w W0 W n0 rs (pre ++ [x]) := by
  obtain ⟨nr, hn, hm⟩ := h.mp
  refine ⟨⟨nr, by rw [List.length_append]; simp; omega, ?_⟩, h.kq, h.bel⟩
  rw [mapR_snoc]
  unfold putR
  rw [if_neg (by rw [hl]; decide)]
  exact hm
theorem Ir.put {w W0 W : World} {n0 : Nat} {rs : List HRw} {pre : List Ix} {x : Ix} (h : Ir w W0 W n0 rs pre) (hl : (rwD rs x.1).live = true) (hp : pre.length < 300) (hpl : i64 (rwD rs x.1).pl) :
    ∃ W3, (Instr.mapUpdate 140 (.map (some (n0 + 2))) (.int .i64 (rwD rs x.1).pl) (.int .i64 ((x.1 : Nat) : Int))).run Tryz.prog W = .ok () W3 ∧ Only (n0 + 2) W W3 ∧ Ir w W0 W3 n0 rs (pre ++ [x]) := by
  obtain ⟨nr, hn, hm⟩ := h.mp
  obtain ⟨W3, r3, m3, o3⟩ := hm.store (by omega) hpl x.1 (by have := x.2; omega)
  refine ⟨W3, r3, o3, ⟨⟨nr + 1, by rw [List.length_append]; simp; omega, ?_⟩, h.kq.trans ⟨by rw [o3.size]; exact Nat.le_refl _, fun k _ hk => o3.block k hk⟩, h.bel.trans (o3.below (by omega))⟩⟩
  rw [mapR_snoc]
  unfold putR
  rw [if_pos hl]
  exact m3
theorem Ir.drew {w W0 W : World} {n0 : Nat} {rs : List HRw} {pre : List Ix} (h : Ir w W0 W n0 rs pre) : Ir w W0 W.drew n0 rs pre := by
  obtain ⟨nr, hn, hm⟩ := h.mp
  exact ⟨⟨nr, hn, hm.same (fun o ho => ho)⟩, ⟨h.kq.size, h.kq.block⟩, h.bel.drew⟩
theorem rwD_i64 {rs : List HRw} (h : ∀ r ∈ rs, i64 r.pl ∧ i64 r.kind ∧ i64 r.gen) (i : Nat) : i64 (rwD rs i).pl := by
  by_cases hi : i < rs.length
  · rw [rwD_at hi]; exact (h _ (List.getElem_mem hi)).1
  · unfold rwD
    rw [List.getD_eq_getElem?_getD, List.getElem?_eq_none (by omega)]
    simp [i64]
/-- The end: all of it is looked up. -/
theorem look_end {w W0 W W9 : World} {n0 : Nat} {V : Vw} {A : Va} {nf : Nat} {f : Int → Option Nat} (hLa : La w W0 n0 V A V.ts.length nf f) (hV : Rv w V A) (hn : w.heap.size = n0) (hz : n0 + 5 ≤ W0.heap.size) (h : Ir w W0 W n0 V.rs (backs V.rs.length V.rs.length)) (hp : Kq W0.heap.size (n0 + 2) W W9) (hp2 : W9.heap[n0 + 2]? = W.heap[n0 + 2]?) (hb : Below n0 W W9) :
    ∃ nr, Lk W9 (n0 + 3) (n0 + 1) (n0 + 2) V A nf nr f ∧ Below n0 w W9 := by
  have hb9 : Below n0 w W9 := h.bel.trans hb
  have kq := h.kq.trans hp
  have blk : ∀ k, k < W0.heap.size → k ≠ n0 + 2 → ∀ o, W0.heap[k]? = some o → W9.heap[k]? = some o := fun k h1 h2 o ho => by rw [kq.block k h1 h2]; exact ho
  obtain ⟨nr, _, hm⟩ := h.mp
  rw [mapR_all hV.rz] at hm
  have on9 : MapI W9 (n0 + 2) nr (ownI V.rs) := hm.same (fun o ho => by rw [hp2]; exact ho)
  refine ⟨nr, ⟨blk _ (by omega) (by omega) _ hLa.lb, hV.keep (by rw [hn]; exact hb9), hLa.mp.same (fun o ho => blk _ (by omega) (by omega) o ho), on9, fun q p hq => ?_, hLa.f2, ?_⟩, hb9⟩
  · obtain ⟨i, h1, h2, h3, b, g, h4, h5, h6, h7⟩ := hLa.f1 q p hq
    refine ⟨i, h1, h2, h3, b, g, h4.blocks ?_ ?_ ?_ kq.size⟩
    · exact kq.block _ h4.lt (by omega)
    · exact kq.block _ h4.set.hb (by omega)
    · exact kq.block _ h4.set.hg (by omega)
  · have t := hLa.tab
    have s2 := kq.size
    have z0 := t.2.1
    refine ⟨⟨by omega, fun j hj => ?_⟩, ⟨by omega, fun j hj => by first | exact trivial | (rw [World.cell?_of_block (a := ⟨1, j, none⟩) (kq.block 1 (by omega) (by omega))]; exact t.2.2 j hj)⟩⟩
    rw [World.cell?_of_block (a := ⟨0, j, none⟩) (kq.block 0 (by omega) (by omega))]
    exact t.1.2 j hj
end Go.Proofs.YtbfamjnnlcopiaaGreatDoor

/- A region that draws its order within a round: what goes through outside of a round goes through within. -/
namespace Go.Proofs.YtbfamjnnlcopiaaGreatDoor
open Go.RowKit Go.Shelf
set_option linter.unusedVariables false
set_option maxRecDepth 4000

theorem wpIn_round {F : Fence} {n : Nat} {P : Program} {o : Oper} {a : Act} {w : World} {K : Act → World → Prop} {Q : Exit → Act → World → Prop} (l : Nat) (hro : F.round = none) (hd : ∀ c, o.op ≠ .defer c) (h : o.wpIn F n P a w K Q) : o.wpIn (F.inRound l) n P a w K Q := by
  unfold Oper.wpIn at *
  refine ⟨h.1, ?_⟩
  have h2 := h.2
  rw [hro, Oper.semAt_none] at h2
  rw [show (F.inRound l).round = some l from rfl, Oper.semAt_some l _ _ hd]
  generalize (execOp a.eval o).run P w = r at *
  cases r with
  | ok x w' => cases x <;> first | exact h2 | (simp only [Oper.uponIn] at h2 ⊢; exact h2)
  | halt s w' => cases s <;> exact h2
theorem anyIn_round {F : Fence} {n : Nat} {P : Program} {md : Region.Mode} {ops : Array Oper} {Q : Exit → Act → World → Prop} (l : Nat) (hro : F.round = none) (hd : ∀ (i : Nat) (o : Oper), ops[i]? = some o → ∀ c, o.op ≠ .defer c) : ∀ (fuel : Nat) (listed : Array Bool) (a : Act) (w : World), wpAnyIn F n P md ops Q fuel listed a w → wpAnyIn (F.inRound l) n P md ops Q fuel listed a w
  | 0, _, _, _, h => h
  | fuel + 1, listed, a, w, h => by
    refine ⟨h.1, fun i hi => ?_⟩
    have h2 := h.2 i hi
    unfold wpOpIn at *
    cases ho : ops[i]? with
    | none => simp only [ho] at h2; exact anyIn_round l hro hd fuel _ _ _ h2
    | some o =>
      simp only [ho] at h2
      simp only
      split
      · rename_i hw
        rw [if_pos hw] at h2
        exact wpIn_round l hro (hd i o ho) (Oper.wpIn_mono (fun a w h => anyIn_round l hro hd fuel _ a w h) h2)
      · rename_i hw
        rw [if_neg hw] at h2
        exact ⟨h2.1, anyIn_round l hro hd fuel _ _ _ h2.2⟩
theorem wpOpIn_run {F : Fence} {n : Nat} {ops : Array Oper} {Q : Exit → Act → World → Prop} {i : Nat} {o : Oper} {K : Act → World → Prop} {a : Act} {w w' : World} {v : Value} (hro : F.round = none) (ho : ops[i]? = some o) (hg : o.guard = none) (hab : o.about Tryz.prog w a.eval = none) (hr : (execOp a.eval o).run Tryz.prog w = .ok (.value v) w') (h : K (a.put o.dst v) w') : wpOpIn F n Tryz.prog ops Q i K a w := by
  unfold wpOpIn
  simp only [ho]
  rw [if_pos (by simp [Region.wanted, hg])]
  unfold Oper.wpIn
  refine ⟨(fun f hf => by rw [hab] at hf; cases hf), ?_⟩
  rw [hro, Oper.semAt_none, hr]
  exact h
theorem wpOpIn_skip {F : Fence} {n : Nat} {ops : Array Oper} {Q : Exit → Act → World → Prop} {i : Nat} {o : Oper} {K : Act → World → Prop} {a : Act} {w w' : World} (hro : F.round = none) (ho : ops[i]? = some o) (hg : o.guard = none) (hab : o.about Tryz.prog w a.eval = none) (hr : (execOp a.eval o).run Tryz.prog w = .ok .skip w') (h : K (a.put o.dst undef) w') : wpOpIn F n Tryz.prog ops Q i K a w := by
  unfold wpOpIn
  simp only [ho]
  rw [if_pos (by simp [Region.wanted, hg])]
  unfold Oper.wpIn
  refine ⟨(fun f hf => by rw [hab] at hf; cases hf), ?_⟩
  rw [hro, Oper.semAt_none, hr]
  exact h
end Go.Proofs.YtbfamjnnlcopiaaGreatDoor
