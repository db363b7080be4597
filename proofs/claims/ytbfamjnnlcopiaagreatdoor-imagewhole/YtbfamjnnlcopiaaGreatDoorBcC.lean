/- The document's Copy of a view: its walk. -/
import Derived.Test.YtbfamjnnlcopiaaGreatDoorGzBB
namespace Go.Proofs.YtbfamjnnlcopiaaGreatDoor
open Go.RowKit
set_option linter.unusedVariables false
set_option maxRecDepth 4000
set_option linter.unusedSimpArgs false

theorem six {w : World} {g : Nat} {t : TypeId} {a b c d e f : Value} (h : w.heap[g]? = some (.cells #[a, b, c, d, e, f] t (0, 0))) : w.cell? ⟨g, 0, none⟩ = some a ∧ w.cell? ⟨g, 1, none⟩ = some b ∧ w.cell? ⟨g, 2, none⟩ = some c ∧ w.cell? ⟨g, 3, none⟩ = some d ∧ w.cell? ⟨g, 4, none⟩ = some e ∧ w.cell? ⟨g, 5, none⟩ = some f :=
  ⟨cell_of_row _ _ 0 _ _ _ h, cell_of_row _ _ 1 _ _ _ h, cell_of_row _ _ 2 _ _ _ h, cell_of_row _ _ 3 _ _ _ h, cell_of_row _ _ 4 _ _ _ h, cell_of_row _ _ 5 _ _ _ h⟩
theorem sixF {w : World} {g : Nat} {t : TypeId} {cs : Array Value} (h : w.heap[g]? = some (.cells cs t (0, 0))) : w.frozen? ⟨g, 0, none⟩ = false ∧ w.frozen? ⟨g, 1, none⟩ = false ∧ w.frozen? ⟨g, 2, none⟩ = false ∧ w.frozen? ⟨g, 3, none⟩ = false ∧ w.frozen? ⟨g, 4, none⟩ = false ∧ w.frozen? ⟨g, 5, none⟩ = false :=
  ⟨frozen_of_row _ _ 0 _ _ h, frozen_of_row _ _ 1 _ _ h, frozen_of_row _ _ 2 _ _ h, frozen_of_row _ _ 3 _ _ h, frozen_of_row _ _ 4 _ _ h, frozen_of_row _ _ 5 _ _ h⟩
/-- Six cells of a view laid into its box. -/
def layV (w : World) (g : Nat) (a b c d e f : Value) : World := (((((w.setCell ⟨g, 0, none⟩ a).setCell ⟨g, 1, none⟩ b).setCell ⟨g, 2, none⟩ c).setCell ⟨g, 3, none⟩ d).setCell ⟨g, 4, none⟩ e).setCell ⟨g, 5, none⟩ f
theorem layV_only (w : World) (g : Nat) (a b c d e f : Value) : Only g w (layV w g a b c d e f) :=
  (((((Only.set g 0 a w).trans (Only.set g 1 b _)).trans (Only.set g 2 c _)).trans (Only.set g 3 d _)).trans (Only.set g 4 e _)).trans (Only.set g 5 f _)
theorem layV_row {w : World} {g : Nat} {t : TypeId} {a b c d e f a0 b0 c0 d0 e0 f0 : Value} (h : w.heap[g]? = some (.cells #[a0, b0, c0, d0, e0, f0] t (0, 0))) : (layV w g a b c d e f).heap[g]? = some (.cells #[a, b, c, d, e, f] t (0, 0)) := by
  unfold layV
  have h1 := heap_setCell_same w g 0 _ _ a h
  have h2 := heap_setCell_same _ g 1 _ _ b h1
  have h3 := heap_setCell_same _ g 2 _ _ c h2
  have h4 := heap_setCell_same _ g 3 _ _ d h3
  have h5 := heap_setCell_same _ g 4 _ _ e h4
  have h6 := heap_setCell_same _ g 5 _ _ f h5
  exact h6
theorem layV_else {w : World} {g h j : Nat} {a b c d e f u : Value} (hne : h ≠ g) (hc : w.cell? ⟨h, j, none⟩ = some u) : (layV w g a b c d e f).cell? ⟨h, j, none⟩ = some u := by
  rw [(layV_only w g a b c d e f).cell (p := ⟨h, j, none⟩) hne]; exact hc
/-- A view under way to be copied: so many kinds are. -/
structure Cvw (w wz : World) (G : Nat) (V : Vw) (A : Va) (gr gb j : Nat) : Prop where
  g0 : w.heap.size + 1 < G
  rg : wz.heap[G]? = some (.cells #[.int .i64 V.base, .int .i64 V.pgs, .slice A.ka A.kn A.kc, .slice A.ra A.rn A.rc, .slice A.sa A.sn A.sc, .slice A.ba A.bn A.bc] 27 (0, 0))
  r0 : wz.heap[w.heap.size + 1]? = some (.cells zV 27 (0, 0))
  cp : Cpy wz w.heap.size ⟨V.base, V.pgs, V.ks.take j, V.rs, V.ts, V.bs⟩ A gr gb
  bw : Below w.heap.size w wz
theorem Cvw.keep {w wz wy : World} {G : Nat} {V : Vw} {A : Va} {gr gb j : Nat} (h : Cvw w wz G V A gr gb j) (b : Bl wz wy) : Cvw w wy G V A gr gb j :=
  ⟨h.g0, b.row h.rg, b.row h.r0, h.cp.keep b, h.bw.trans (Below.mono b h.bw.size)⟩
/-- Blocks of the kinds of a copied view are others than its boxes. -/
theorem cvw_new {w w3 wz : World} {G : Nat} {V : Vw} {rn sn bn rc1 sc1 bc1 gr gb : Nat} {sa : Option Addr} (hG : w.heap.size + 1 < G) (on : ∀ (g : Nat) (c : Array Value) (t : TypeId), w3.heap[g]? = some (.cells c t (0, 0)) → t ≠ 27 → wz.heap[g]? = some (.cells c t (0, 0)))
    (rg : wz.heap[G]? = some (.cells #[.int .i64 V.base, .int .i64 V.pgs, .slice none 0 0, .slice (some ⟨gr, 0, none⟩) rn rc1, .slice sa sn sc1, .slice (some ⟨gb, 0, none⟩) bn bc1] 27 (0, 0))) (r0 : wz.heap[w.heap.size + 1]? = some (.cells zV 27 (0, 0))) (bw : Below w.heap.size w wz)
    (h1 : V.rs.length = rn) (h2 : V.ts.length = sn) (h3 : V.bs.length = bn) (o1 : Ow w3 w.heap.size (some ⟨gr, 0, none⟩) V.rs rc1) (o2 : Told w3 w.heap.size (.slice sa sn sc1) V.ts) (o3 : OwnsB w3 w.heap.size (some ⟨gb, 0, none⟩) V.bs bc1) :
    Cvw w wz G V ⟨none, some ⟨gr, 0, none⟩, sa, some ⟨gb, 0, none⟩, 0, rn, sn, bn, 0, rc1, sc1, bc1⟩ gr gb 0 := by
  refine ⟨hG, rg, r0, ⟨rfl, rfl, h1, h2, h3, rfl, o1.same (fun g o hg ho => ?_), o2.same (fun g c t hg ht => on g c t hg ?_), o3.same (fun g o hg ho => ?_), Kow.nil _ _⟩, bw⟩
  · obtain ⟨c, hc⟩ := o1.kind g hg
    rw [ho] at hc; cases hc
    exact on g _ _ ho (by decide)
  · rcases ht with rfl | rfl <;> decide
  · obtain ⟨_, c, hc⟩ := o3.kind g hg
    rw [ho] at hc; cases hc
    exact on g _ _ ho (by decide)
/-- A kind more. -/
theorem Kow.more {w : World} {B : Nat} (hB : B ≤ w.heap.size) {a : Option Addr} {ks : List Kn} {n c : Nat} (h : Kow w B a ks c) (hl : ks.length = n) (s : Int) (l : List Int) (la : Option Addr) (ln lc : Nat) (hln : l.length = ln) (ho : OwnsI w B la l lc) (hn : n ≤ 1000000) :
    ∃ a' c' w', (Builtin.append_ #[22, 22] 22 #[.slice a n c, .slice (some ⟨w.heap.size, 0, none⟩) 1 1]).run Tryz.prog (w.alloc (.cells #[.int .i64 s, .slice la ln lc] 66)) = .ok (.slice a' (n + 1) c') w' ∧ Kow w' B a' (ks ++ [⟨s, l⟩]) c' ∧ (∀ (g : Nat) (cu : Array Value) (t : TypeId), w.heap[g]? = some (.cells cu t (0, 0)) → t ≠ 66 → w'.heap[g]? = some (.cells cu t (0, 0))) ∧ Below B w w' := by
  subst hl hln
  have b : Bl w (w.alloc (.cells #[.int .i64 s, .slice la l.length lc] 66)) := (Bl.refl w).alloc _
  obtain ⟨xs, e1, e2, e3⟩ := h
  have hx : xs.length = ks.length := by rw [← e1, List.length_map]
  have rn := Go.heap_alloc_new w (.cells #[.int .i64 s, .slice la l.length lc] 66)
  obtain ⟨a', c', w', hr, k1, k2, _⟩ := appK _ B (Nat.le_trans hB (Below.size b)) a xs c (e2.keep b) w.heap.size 1 ⟨s, la, lc, l⟩ (cell_of_row _ _ 0 _ _ _ rn) (cell_of_row _ _ 1 _ _ _ rn) (by omega)
  rw [hx] at hr
  have hk : ∀ g, ob a = some g → B ≤ g ∧ ∃ cur, (w.alloc (.cells #[.int .i64 s, .slice la l.length lc] 66)).heap[g]? = some (.cells cur 66 (0, 0)) := row_kind (e2.keep b)
  have tu : Tu (fun k => ob a = some k) _ w' := Tu.grown k2 (fun g hg => hg)
  have st : ∀ (g : Nat) (cu : Array Value) (t : TypeId), (w.alloc (.cells #[.int .i64 s, .slice la l.length lc] 66)).heap[g]? = some (.cells cu t (0, 0)) → t ≠ 66 → w'.heap[g]? = some (.cells cu t (0, 0)) := fun g cu t hg ht => tu.block g _ hg (fun e => by
    obtain ⟨_, cur, hc⟩ := hk g e
    exact kind_ne hg hc ht rfl)
  refine ⟨a', c', w', hr, ⟨xs ++ [⟨s, la, lc, l⟩], by rw [List.map_append, e1]; rfl, k1, fun x hxm => ?_⟩, fun g cu t hg ht => st g cu t (b.row hg) ht, Below.trans (Below.alloc (Below.refl _ w) hB _) (tu.below (fun i e => (hk i e).1) (Nat.le_trans hB (Below.size b)))⟩
  have key : ∀ x : Kd, OwnsI w B x.a x.l x.c → OwnsI w' B x.a x.l x.c := fun x hx => by
    refine (hx.keep b).same (fun g o hg ho => ?_)
    obtain ⟨cur, hc⟩ := (hx.keep b).kind g hg
    rw [ho] at hc; cases hc
    exact st g _ _ ho (by decide)
  rcases List.mem_append.1 hxm with q | q
  · exact key x (e3 x q)
  · obtain rfl : x = ⟨s, la, lc, l⟩ := by simpa using q
    exact key _ ho
/-- A kind more in a view under way. -/
theorem Cvw.more {w wz wy : World} {G : Nat} {V : Vw} {ka ra sa ba ka' : Option Addr} {kn rn sn bn kc rc sc bc kc' gr gb j : Nat} {x : Kn} (h : Cvw w wz G V ⟨ka, ra, sa, ba, kn, rn, sn, bn, kc, rc, sc, bc⟩ gr gb j) (hj : V.ks.take (j + 1) = V.ks.take j ++ [x]) (ho : Kow wy w.heap.size ka' (V.ks.take j ++ [x]) kc') (st : ∀ (g : Nat) (cu : Array Value) (t : TypeId), wz.heap[g]? = some (.cells cu t (0, 0)) → t ≠ 66 → t ≠ 3 → wy.heap[g]? = some (.cells cu t (0, 0))) (st3 : ∀ (g : Nat) (cu : Array Value), wz.heap[g]? = some (.cells cu 3 (0, 0)) → wy.heap[g]? = some (.cells cu 3 (0, 0))) (b : Below w.heap.size w wy) :
    Cvw w (wy.setCell ⟨G, 2, none⟩ (.slice ka' (kn + 1) kc')) G V ⟨ka', ra, sa, ba, kn + 1, rn, sn, bn, kc', rc, sc, bc⟩ gr gb (j + 1) := by
  have rg := st G _ _ h.rg (by decide) (by decide)
  have r0 := st _ _ _ h.r0 (by decide) (by decide)
  have on := Only.set G 2 (.slice ka' (kn + 1) kc') wy
  have key : ∀ (g : Nat) (cu : Array Value) (t : TypeId), wz.heap[g]? = some (.cells cu t (0, 0)) → t ≠ 66 → t ≠ 27 → (wy.setCell ⟨G, 2, none⟩ (.slice ka' (kn + 1) kc')).heap[g]? = some (.cells cu t (0, 0)) := fun g cu t hg h1 h2 => by
    have q : wy.heap[g]? = some (.cells cu t (0, 0)) := by
      by_cases e : t = 3
      · subst e; exact st3 g cu hg
      · exact st g cu t hg h1 e
    rw [on.block g (kind_ne q rg h2)]; exact q
  have hc := h.cp
  refine ⟨h.g0, heap_setCell_same wy G 2 _ _ _ rg, by rw [on.block _ (Nat.ne_of_lt h.g0)]; exact r0, ⟨hc.ra, hc.ba, hc.rn, hc.sn, hc.bn, ?_, hc.rows.same (fun g o hg ho => ?_), hc.spans.same (fun g cu t hg ht => key g cu t hg ?_ ?_), hc.bytes.same (fun g o hg ho => ?_), ?_⟩, b.trans (on.below (by have := h.g0; omega))⟩
  · have := hc.kn
    show (V.ks.take (j + 1)).length = kn + 1
    rw [hj, List.length_append]
    have e : (V.ks.take j).length = kn := this
    rw [e]; rfl
  · obtain ⟨c, hc2⟩ := hc.rows.kind g hg
    rw [ho] at hc2; cases hc2
    exact key g _ _ ho (by decide) (by decide)
  · rcases ht with rfl | rfl <;> decide
  · rcases ht with rfl | rfl <;> decide
  · obtain ⟨_, c, hc2⟩ := hc.bytes.kind g hg
    rw [ho] at hc2; cases hc2
    exact key g _ _ ho (by decide) (by decide)
  · show Kow _ _ _ (V.ks.take (j + 1)) _
    rw [hj]
    exact ho.same (fun g cu t hg ht => by rw [on.block g (kind_ne hg rg (by rcases ht with rfl | rfl <;> decide))]; exact hg)
/-- Boxes turned: a view of one's own stays. -/
theorem Cpy.boxed {w w' : World} {B : Nat} {V : Vw} {A : Va} {gr gb : Nat} (h : Cpy w B V A gr gb) (on : ∀ (g : Nat) (c : Array Value) (t : TypeId), w.heap[g]? = some (.cells c t (0, 0)) → t ≠ 27 → w'.heap[g]? = some (.cells c t (0, 0))) : Cpy w' B V A gr gb := by
  refine ⟨h.ra, h.ba, h.rn, h.sn, h.bn, h.kn, h.rows.same (fun g o hg ho => ?_), h.spans.same (fun g c t hg ht => on g c t hg ?_), h.bytes.same (fun g o hg ho => ?_), h.kinds.same (fun g c t hg ht => on g c t hg ?_)⟩
  · obtain ⟨c, hc⟩ := h.rows.kind g hg
    rw [ho] at hc; cases hc
    exact on g _ _ ho (by decide)
  · rcases ht with rfl | rfl <;> decide
  · obtain ⟨_, c, hc⟩ := h.bytes.kind g hg
    rw [ho] at hc; cases hc
    exact on g _ _ ho (by decide)
  · rcases ht with rfl | rfl <;> decide
theorem ent_kCopy : (match Tryz.prog.funcs[27]? with | some fn => !(fn.name == "runtime.NumGoroutine") && !fn.body.isNone | none => false) = true := by kernel_rfl
end Go.Proofs.YtbfamjnnlcopiaaGreatDoor
