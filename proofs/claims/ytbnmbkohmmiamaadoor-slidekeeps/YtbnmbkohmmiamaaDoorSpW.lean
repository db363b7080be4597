/- What SpanBack stands on: lists turned one by one beside a span. -/
import Derived.Test.YtbnmbkohmmiamaaDoorSpN
namespace Go.Proofs.YtbnmbkohmmiamaaDoor
open Go.RowKit
set_option linter.unusedVariables false

theorem heap_put {w : World} {g j : Nat} {v : Value} {cs : Array Value} {t : TypeId} (h : w.heap[g]? = some (.cells cs t (0, 0))) : (w.setCell ⟨g, j, none⟩ v).heap[g]? = some (.cells (cs.setIfInBounds j v) t (0, 0)) := by
  simp only [World.setCell, Array.getElem?_modify, h]
  simp
theorem lay4_row {w : World} {g : Nat} {p c s p0 c0 s0 : Int} {a a0 : Option Addr} {n k n0 k0 : Nat} (h : w.heap[g]? = some (.cells (dcells p0 c0 s0 a0 n0 k0) 46 (0, 0))) : (lay4 w g p c s (.slice a n k)).heap[g]? = some (.cells (dcells p c s a n k) 46 (0, 0)) := by
  unfold lay4
  rw [heap_put (heap_put (heap_put (heap_put h)))]
  simp [dcells]

/-- Numbers turned in a list of one's own: the list's block alone is another. -/
theorem OwnsI.turned {w : World} {lb c g : Nat} {l : List Int} (h : OwnsI w lb (some ⟨g, 0, none⟩) l c) (i : Nat) (v : Int) : OwnsI (w.setCell ⟨g, i, none⟩ (.int .i64 v)) lb (some ⟨g, 0, none⟩) (l.set i v) c := by
  obtain ⟨h0, ⟨h1, _⟩ | ⟨q, c', cur, h1, hg1, h2, h3, h4, h5, h6⟩⟩ := h
  · cases h1
  · cases h1
    refine ⟨by simp, .inr ⟨g, c, cur.setIfInBounds i (.int .i64 v), by simp, hg1, heap_put h2, by simpa using h3, h4, by simpa using h5, ?_⟩⟩
    simp only [List.length_set, Array.toList_setIfInBounds, List.map_set]
    rw [List.take_set, h6]
theorem OwnsI.num {w : World} {lb c : Nat} {a : Option Addr} {l : List Int} (h : OwnsI w lb a l c) (i : Nat) (hi : i < l.length) : ∃ g v, a = some ⟨g, 0, none⟩ ∧ lb ≤ g ∧ w.cell? ⟨g, i, none⟩ = some (.int .i64 v) ∧ w.frozen? ⟨g, i, none⟩ = false ∧ ∃ cur, w.heap[g]? = some (.cells cur 3 (0, 0)) := by
  have h' := h
  obtain ⟨_, ⟨h1, h2⟩ | ⟨q, c', cur, h1, hg1, h2, _⟩⟩ := h
  · exfalso; have : l.length = 0 := h2; omega
  · cases h1
    have := World.ownsRow.cellAt h' i (by omega)
    refine ⟨q, l[i], rfl, hg1, ?_, frozen_of_row _ _ i _ _ h2, cur, h2⟩
    rw [this]
    simp [hi]
theorem box_on {w w' : World} {g b : Nat} {T : TypeId} {cs cur : Array Value} (h : w.heap[b]? = some (.cells cs T (0, 0))) (hg : w.heap[g]? = some (.cells cur 3 (0, 0))) (hT : T ≠ 3) (on : Only g w w') : w'.heap[b]? = some (.cells cs T (0, 0)) := by
  rw [on.block b (fun e => by subst e; rw [h] at hg; simp at hg; exact hT hg.2)]
  exact h
theorem IsI.on {w w' : World} {g : Nat} {a : Option Addr} {l : List Int} (h : IsI w a l) (on : Only g w w') (hne : ∀ ad, a = some ad → ad.block ≠ g) : IsI w' a l := by
  obtain ⟨h1, h2 | ⟨b, off, e, hs, hc⟩⟩ := h
  · exact ⟨h1, .inl h2⟩
  · refine ⟨h1, .inr ⟨b, off, e, by rw [on.size]; exact hs, fun i hi => ?_⟩⟩
    rw [on.cell (p := ⟨b, off + i, none⟩) (hne ⟨b, off, none⟩ e)]; exact hc i hi
theorem IsI.lt {w : World} {a : Option Addr} {l : List Int} (h : IsI w a l) (hl : l ≠ []) : ∀ ad, a = some ad → ad.block < w.heap.size := by
  intro ad hd
  obtain ⟨_, h2 | ⟨b, off, e, hs, _⟩⟩ := h
  · exact absurd h2 hl
  · rw [e] at hd; cases hd; exact hs

/-- A list that is turned, in its box, beside a span and a list that stays. -/
structure Bk (w W : World) (sb b g : Nat) (p c s : Int) (f : Nat → Bool) (xb B : Nat) (ax : Option Addr) (cx : Nat) (mx l : List Int) (a2 : Option Addr) : Prop where
  sp : Spn w W sb b g p c s f
  box : W.heap[xb]? = some (.cells (dcells p c s ax l.length cx) 46 (0, 0))
  own : OwnsI W B ax mx cx
  ge : w.heap.size ≤ B
  len : mx.length = l.length
  live : IsI W a2 l
  ns : ∀ ad, ax = some ad → ad.block ≠ sb ∧ ad.block ≠ b ∧ ad.block ≠ g
  nl : l = [] ∨ ∀ ad ad2, ax = some ad → a2 = some ad2 → ad2.block ≠ ad.block
theorem Bk.turn {w W : World} {sb b g : Nat} {p c s : Int} {f : Nat → Bool} {xb B gx : Nat} {cx : Nat} {mx l : List Int} {a2 : Option Addr} (h : Bk w W sb b g p c s f xb B (some ⟨gx, 0, none⟩) cx mx l a2) (i : Nat) (hi : i < l.length) (v : Int) :
    Bk w (W.setCell ⟨gx, i, none⟩ (.int .i64 v)) sb b g p c s f xb B (some ⟨gx, 0, none⟩) cx (mx.set i v) l a2 := by
  obtain ⟨g', _, e, hB, _, _, cur, hg⟩ := h.own.num i (by rw [h.len]; exact hi)
  cases e
  have on := Only.set gx i (.int .i64 v) W
  obtain ⟨n1, n2, n3⟩ := h.ns _ rfl
  refine ⟨⟨h.sp.at'.beside on (fun e => n1 e.symm) (fun e => n2 e.symm) (fun e => n3 e.symm), h.sp.low.trans (on.below (Nat.le_trans h.ge hB)), h.sp.gs, h.sp.gb, h.sp.gg⟩, box_on h.box hg (by decide) on, h.own.turned i v, h.ge, by rw [List.length_set]; exact h.len, h.live.on on ?_, h.ns, h.nl⟩
  rcases h.nl with h0 | h0
  · rw [h0] at hi; simp at hi
  · exact fun ad hd => h0 _ ad rfl hd
theorem ints_true (a a' : Option Addr) (n n' cap cap' : Nat) (l : List Int) (w : World) (h : IsI w a l) (h' : IsI w a' l) (hn : n = l.length) (hn' : n' = l.length) (hm : l.length ≤ maxLen) :
    Calls Tryd.prog 53 #[.slice a n cap, .slice a' n' cap'] w fun e w' => e = .returned (.bool true) ∧ Below w.heap.size w w' := by
  refine (ints_any a a' n n' cap cap' l l w h h' hn hn' hm hm).mono ?_
  rintro e w' ⟨rfl, b⟩
  exact ⟨by simp, b⟩
/-- Of what fails. -/
theorem of_fail (p c s : Int) (a : Option Addr) (cap : Nat) (l : List Int) (x : Int) (w : World) (hT : Tabs w) (hI : IsI w a l) (hm : l.length ≤ maxLen) (hp : -9223372036854775808 ≤ p ∧ p ≤ 9223372036854775807) (h : (newE p c s = x ∧ x ≠ 0) ∨ (newE p c s = 0 ∧ okL (slN c) (-1) l = false ∧ x = 4)) :
    Calls Tryd.prog 20 #[.agg #[.int .i64 p, .int .i64 c, .int .i64 s, .slice a l.length cap]] w fun e w' => e = .returned (.tuple #[.pointer none, .int .i64 x]) ∧ Below w.heap.size w w' := by
  rcases h with ⟨h1, h2⟩ | ⟨h1, h2, rfl⟩
  · exact of_bad p c s a l.length cap w hT hp x h1 h2
  · exact of_form p c s a cap l w hT hI hm h1 h2
end Go.Proofs.YtbnmbkohmmiamaaDoor
