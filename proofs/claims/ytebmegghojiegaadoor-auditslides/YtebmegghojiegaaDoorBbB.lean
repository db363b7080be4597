/- Rows of objects of one's own. -/
import Derived.Test.YtebmegghojiegaaDoorGsL
namespace Go.Proofs.YtebmegghojiegaaDoor
open Go.RowKit
set_option linter.unusedVariables false

/-- An object, and where its lists lie. -/
structure Rob extends Ob where
  (ba : Option Addr) (bk : Nat) (ha : Option Addr) (hk : Nat)
def Rob.cs (r : Rob) : List Value := [.int .u64 (r.h : Nat), .int .i64 r.k, .slice r.ba r.b.length r.bk, .slice r.ha r.t.length r.hk]
theorem Rob.cs_at : ∀ (rs : List Rob) (i : Nat) (h : i < rs.length), (rs.flatMap Rob.cs)[i * 4]? = some (.int .u64 (rs[i].h : Nat)) ∧ (rs.flatMap Rob.cs)[i * 4 + 1]? = some (.int .i64 rs[i].k) ∧ (rs.flatMap Rob.cs)[i * 4 + 2]? = some (.slice rs[i].ba rs[i].b.length rs[i].bk) ∧ (rs.flatMap Rob.cs)[i * 4 + 3]? = some (.slice rs[i].ha rs[i].t.length rs[i].hk)
  | r :: rs, 0, _ => ⟨rfl, rfl, rfl, rfl⟩
  | r :: rs, i + 1, h => by
    have := Rob.cs_at rs i (by simpa using h)
    rw [show (i + 1) * 4 = i * 4 + 4 by omega]
    exact this
theorem Tryd.infoO : (Tryd.prog.info? 44).map (fun i => (i.zero, i.size, i.bytes)) = some (some (.agg #[.int .u64 0, .int .i64 0, .slice none 0 0, .slice none 0 0]), 4, 64) := by kernel_rfl
theorem Tryd.infoR : (Tryd.prog.info? 84).map (fun i => (i.zero, i.size, i.bytes)) = some (some (.agg #[.int .u64 0, .int .i64 0, .slice none 0 0, .slice none 0 0]), 4, 64) := by kernel_rfl
theorem Tryd.undO : Tryd.prog.underlying 34 = some (.slice 44) := by kernel_rfl
theorem Tryd.undR : Tryd.prog.underlying 37 = some (.slice 84) := by kernel_rfl
/-- An object more behind a row of one's own. -/
theorem appO_run (t ts : TypeId) (hu : Tryd.prog.underlying ts = some (.slice t)) (hI : (Tryd.prog.info? t).map (fun i => (i.zero, i.size, i.bytes)) = some (some (.agg #[.int .u64 0, .int .i64 0, .slice none 0 0, .slice none 0 0]), 4, 64)) (B : Nat) (w : World) (hB : B ≤ w.heap.size) (a : Option Addr) (n c : Nat) (rs : List Rob) (h : w.ownsRow B t 4 (.slice a n c) n (rs.flatMap Rob.cs)) (q : Nat) (r : Rob) (u : TypeId) (hq : w.heap[q]? = some (.cells r.cs.toArray u (0, 0))) (hn : n ≤ 100000) :
    ∃ a' c' w', (Builtin.append_ #[ts, ts] ts #[.slice a n c, .slice (some ⟨q, 0, none⟩) 1 1]).run Tryd.prog w = .ok (.slice a' (n + 1) c') w' ∧ w'.ownsRow B t 4 (.slice a' (n + 1) c') (n + 1) ((rs ++ [r]).flatMap Rob.cs) ∧ Tu (fun k => ob a = some k) w w' := by
  obtain ⟨i0, hi, hz0, hz2, hz3⟩ := info_parts hI
  obtain ⟨v', w', hr, h2, h3, _, _⟩ := run_append_own_at (P := Tryd.prog) w B ts ts t i0 _ 4 64 hu hi hz0 hz2 hz3 rfl (by decide) (.slice a n c) n (rs.flatMap Rob.cs) h ⟨q, 0, none⟩ 1 1 r.cs rfl (fun j u' hj => by
      rw [show (⟨q, 0, none⟩ : Addr).add j = ⟨q, j, none⟩ by simp [Addr.add]; exact fun h => h.symm, cell_of_row w q j _ _ _ hq]
      show (r.cs.toArray)[j]? = some u'
      rw [List.getElem?_toArray]; exact hj) (by intro u' hu'; simp [Rob.cs] at hu'; rcases hu' with rfl | rfl | rfl | rfl <;> rfl) (by unfold maxLen; omega) (by omega) hB
  obtain ⟨a', c', rfl⟩ := howns_form h2
  rw [ob_own] at h3
  refine ⟨a', c', w', hr, ?_, Tu.grown h3 (fun g hg => hg)⟩
  have e : (rs ++ [r]).flatMap Rob.cs = rs.flatMap Rob.cs ++ r.cs := by simp [List.flatMap_append]
  rw [e]
  exact h2
/-- Objects of one's own, each with bytes and handles of its own. -/
def Tob (w : World) (B : Nat) (t : TypeId) (v : Value) (os : List Ob) : Prop := ∃ rs : List Rob, rs.map Rob.toOb = os ∧ w.ownsRow B t 4 v os.length (rs.flatMap Rob.cs) ∧ ∀ r ∈ rs, OwnsB w B r.ba r.b r.bk ∧ Oh w B r.ha r.t r.hk ∧ AllB r.b ∧ r.ba ≠ none
theorem Tob.nil (w : World) (B : Nat) (t : TypeId) : Tob w B t (.slice none 0 0) [] := ⟨[], rfl, World.ownsRow_nil _ _ _ _, fun r h => by cases h⟩
theorem Tob.keep {w w' : World} {B : Nat} {t : TypeId} {v : Value} {os : List Ob} (h : Tob w B t v os) (hb : Below w.heap.size w w') : Tob w' B t v os := by
  obtain ⟨rs, e1, e2, e3⟩ := h
  exact ⟨rs, e1, ownsRow_keepB e2 hb, fun r hr => ⟨(e3 r hr).1.keep hb, (e3 r hr).2.1.keep hb, (e3 r hr).2.2⟩⟩
theorem Tob.mono {w : World} {B B' : Nat} {t : TypeId} {v : Value} {os : List Ob} (h : Tob w B t v os) (hb : B' ≤ B) : Tob w B' t v os := by
  obtain ⟨rs, e1, ⟨k0, k1 | ⟨g, c, cur, k1, k2, k3⟩⟩, e3⟩ := h
  · exact ⟨rs, e1, ⟨k0, .inl k1⟩, fun r hr => ⟨(e3 r hr).1.mono hb, (e3 r hr).2.1.mono hb, (e3 r hr).2.2⟩⟩
  · exact ⟨rs, e1, ⟨k0, .inr ⟨g, c, cur, k1, by omega, k3⟩⟩, fun r hr => ⟨(e3 r hr).1.mono hb, (e3 r hr).2.1.mono hb, (e3 r hr).2.2⟩⟩
theorem row_kind {w : World} {B : Nat} {t : TypeId} {a : Option Addr} {n c s : Nat} {xs : List Value} (h : w.ownsRow B t s (.slice a n c) n xs) : ∀ g, ob a = some g → B ≤ g ∧ ∃ cur, w.heap[g]? = some (.cells cur t (0, 0)) := fun g hg => by
  obtain ⟨_, ⟨h1, _⟩ | ⟨g', c', cur, h1, hb, h2, _⟩⟩ := h
  · have : a = none := by injection h1
    subst this; cases hg
  · cases h1
    cases hg
    exact ⟨hb, cur, h2⟩
theorem Tob.more (t ts : TypeId) (hu : Tryd.prog.underlying ts = some (.slice t)) (hI : (Tryd.prog.info? t).map (fun i => (i.zero, i.size, i.bytes)) = some (some (.agg #[.int .u64 0, .int .i64 0, .slice none 0 0, .slice none 0 0]), 4, 64)) (ht5 : t ≠ 5) (htH : t ≠ 41) {B : Nat} {w : World} (hB : B ≤ w.heap.size) {a : Option Addr} {n c : Nat} {os : List Ob} (h : Tob w B t (.slice a n c) os) (hl : os.length = n) (r : Rob) (h1 : OwnsB w B r.ba r.b r.bk) (h2 : Oh w B r.ha r.t r.hk) (h3 : AllB r.b) (h4 : r.ba ≠ none) (hn : n ≤ 100000) :
    ∃ a' c' w', (Builtin.append_ #[ts, ts] ts #[.slice a n c, .slice (some ⟨w.heap.size, 0, none⟩) 1 1]).run Tryd.prog (w.alloc (.cells r.cs.toArray t)) = .ok (.slice a' (n + 1) c') w' ∧ Tob w' B t (.slice a' (n + 1) c') (os ++ [r.toOb]) ∧ Below B w w' := by
  subst hl
  have b : Below w.heap.size w (w.alloc (.cells r.cs.toArray t)) := (Below.refl _ w).alloc (Nat.le_refl _) _
  obtain ⟨rs, e1, e2, e3⟩ := h.keep b
  obtain ⟨a', c', w', hr, o1, u1⟩ := appO_run t ts hu hI B _ (Nat.le_trans hB b.size) a _ c rs e2 w.heap.size r t (Go.heap_alloc_new w _) hn
  have hk := row_kind e2
  refine ⟨a', c', w', hr, ⟨rs ++ [r], by rw [List.map_append, e1]; rfl, by rw [List.length_append]; exact o1, fun q hq => ?_⟩, ?_⟩
  · have key : ∀ q : Rob, OwnsB (w.alloc (.cells r.cs.toArray t)) B q.ba q.b q.bk → Oh (w.alloc (.cells r.cs.toArray t)) B q.ha q.t q.hk → OwnsB w' B q.ba q.b q.bk ∧ Oh w' B q.ha q.t q.hk := fun q q1 q2 => by
      refine ⟨q1.same (fun g o hg ho => ?_), q2.same (fun g o hg ho => ?_)⟩
      · obtain ⟨_, cur, hc⟩ := q1.kind g hg
        refine u1.block g o ho (fun e => ?_)
        obtain ⟨_, cur2, hc2⟩ := hk g e
        exact kind_ne hc2 hc ht5 rfl
      · obtain ⟨cur, hc⟩ := q2.kind g hg
        refine u1.block g o ho (fun e => ?_)
        obtain ⟨_, cur2, hc2⟩ := hk g e
        exact kind_ne hc2 hc htH rfl
    rcases List.mem_append.1 hq with k | k
    · have := e3 q k
      exact ⟨(key q this.1 this.2.1).1, (key q this.1 this.2.1).2, this.2.2⟩
    · obtain rfl : q = r := by simpa using k
      exact ⟨(key q (h1.keep b) (h2.keep b)).1, (key q (h1.keep b) (h2.keep b)).2, h3, h4⟩
  · exact ((Below.refl _ w).alloc hB _).trans (u1.below (fun i e => (hk i e).1) (Nat.le_trans hB b.size))
theorem isH_of {w : World} {B : Nat} {a : Option Addr} {l : List Nat} {c : Nat} (h : Oh w B a l c) : IsH w a l ∧ l.length ≤ 9223372036854775807 := by
  refine ⟨?_, Nat.le_trans h.len.1 h.len.2⟩
  by_cases e : l = []
  · exact .inl e
  · obtain ⟨g, ea, hb, hs, _⟩ := h.cells 0 (by rcases l with _ | ⟨x, l⟩; exact absurd rfl e; simp)
    refine .inr ⟨g, ea, hs, fun i hi => ?_⟩
    obtain ⟨g', ea', _, _, hc⟩ := h.cells i hi
    rw [ea] at ea'
    cases ea'
    exact hc
theorem Tob.rd {w : World} {B : Nat} {t : TypeId} {a : Option Addr} {n c : Nat} {os : List Ob} (h : Tob w B t (.slice a n c) os) : RdO w a os := by
  obtain ⟨rs, e1, e2, e3⟩ := h
  intro i hi
  have hl : rs.length = os.length := by rw [← e1, List.length_map]
  have hi' : i < rs.length := by omega
  have eo : os[i] = rs[i].toOb := by subst e1; simp
  obtain ⟨c0, c1, c2, c3⟩ := Rob.cs_at rs i hi'
  obtain ⟨r1, r2, r3, _⟩ := e3 rs[i] (List.getElem_mem hi')
  obtain ⟨_, ⟨h1, h0⟩ | ⟨g, c', cur, h1, hb, h2, h3, h4, h5, h6⟩⟩ := e2
  · omega
  · cases h1
    have hc : ∀ j v, j < os.length * 4 → (rs.flatMap Rob.cs)[j]? = some v → w.cell? ⟨g, j, none⟩ = some v := fun j v hj hv => by
      rw [cell_of_row _ _ j _ _ _ h2, ← Array.getElem?_toList]
      rw [← h6, List.getElem?_take_of_lt hj] at hv
      exact hv
    refine ⟨g, 0, rs[i].ba, rs[i].bk, rs[i].ha, rs[i].hk, rfl, ?_, ?_, ?_, ?_, ?_, ?_, ?_⟩
    · rw [Nat.zero_add, eo]; exact hc _ _ (by omega) c0
    · rw [Nat.zero_add, eo]; exact hc _ _ (by omega) c1
    · rw [Nat.zero_add, eo]; exact hc _ _ (by omega) c2
    · rw [Nat.zero_add, eo]; exact hc _ _ (by omega) c3
    · rw [eo]; exact ownsB_isB r3 r1
    · rw [eo]; exact (isH_of r2).1
    · rw [eo]; exact (isH_of r2).2
end Go.Proofs.YtebmegghojiegaaDoor
