/- The document's Copy of a view. -/
import Derived.Test.YtbfamjnnlcopiaaGreatDoorGzBC
import Derived.Deep.RegionLaw
import Derived.BigQuiet
namespace Go.Proofs.YtbfamjnnlcopiaaGreatDoor
open Go.RowKit
set_option linter.unusedVariables false
set_option maxRecDepth 4000
set_option linter.unusedSimpArgs false

/-- Just new memory. -/
def Bl (a w : World) : Prop := Below a.heap.size a w
theorem Bl.refl (a : World) : Bl a a := Below.refl _ a
theorem Bl.trans {a b c : World} (h : Bl a b) (k : Bl b c) : Bl a c := Below.trans h (Below.mono k (Below.size h))
theorem Bl.alloc {a b : World} (h : Bl a b) (o : Obj) : Bl a (b.alloc o) := Below.alloc h (Below.size h) _
theorem Bl.drew {a b : World} (h : Bl a b) : Bl a b.drew := below_drewN h 1
theorem Bl.row {a b : World} {g : Nat} {o : Obj} (h : Bl a b) (hg : a.heap[g]? = some o) : b.heap[g]? = some o := bblock h hg
def zV : Array Value := #[.int .i64 0, .int .i64 0, .slice none 0 0, .slice none 0 0, .slice none 0 0, .slice none 0 0]
/-- Rows of any list put behind none: a list of one's own. -/
theorem appW_all (B : Nat) (w : World) (hB : B ≤ w.heap.size) (g0 : Nat) (h : Ow w B (some ⟨g0, 0, none⟩) [] 0) (la : Option Addr) (l : List HRw) (n lk : Nat) (hn : l.length = n) (hI : IsW w la l) (hl : l.length ≤ 300) :
    ∃ g' cap' w', (Builtin.append_ #[23, 23] 23 #[.slice (some ⟨g0, 0, none⟩) 0 0, .slice la n lk]).run Tryz.prog w = .ok (.slice (some ⟨g', 0, none⟩) n cap') w' ∧ Ow w' B (some ⟨g', 0, none⟩) l cap' ∧ Tu (fun k => k = g0) w w' := by
  subst hn
  obtain ⟨i0, hi, hz0, hz2, hz3⟩ := info_parts Tryz.infoW
  cases la with
  | none =>
    have e : l = [] := by
      rcases hI with e | ⟨b, off, e, _⟩
      · exact e
      · cases e
    subst e
    refine ⟨g0, 0, w, ?_, h, Tu.refl _ _⟩
    show (Builtin.append_ #[23, 23] 23 #[.slice (some ⟨g0, 0, none⟩) 0 0, .slice none 0 lk]).run Tryz.prog w = _
    rw [app_nil_cap Tryz.prog w _ _ _ Tryz.undRows hi]
    exact run_append_owned_none (P := Tryz.prog) (w := w) B 23 23 73 i0 4 Tryz.undRows hi _ _ _ h
  | some x =>
    have hc : ∀ j u, (cellsW l)[j]? = some u → w.cell? (x.add j) = some u := fun j u hj => by
      rcases hI with e | ⟨b, off, e, _, hc⟩
      · subst e; simp [cellsW] at hj
      · cases e
        have hlt : j < l.length * 4 := by have := (List.getElem?_eq_some_iff.1 hj).1; rw [cellsW_len] at this; exact this
        have hi2 : j / 4 < l.length := by omega
        rw [addr_add]
        obtain ⟨k0, k1, k2, k3⟩ := cellsW_at l (j / 4) hi2
        obtain ⟨q0, q1, q2, q3⟩ := hc (j / 4) hi2
        rcases (by omega : j % 4 = 0 ∨ j % 4 = 1 ∨ j % 4 = 2 ∨ j % 4 = 3) with e | e | e | e
        · have e' : j / 4 * 4 = j := by omega
          rw [e'] at k0 q0
          rw [q0, ← k0]; exact hj
        · have e' : j / 4 * 4 + 1 = j := by omega
          rw [Nat.add_assoc, e'] at q1
          rw [e'] at k1
          rw [q1, ← k1]; exact hj
        · have e' : j / 4 * 4 + 2 = j := by omega
          rw [Nat.add_assoc, e'] at q2
          rw [e'] at k2
          rw [q2, ← k2]; exact hj
        · have e' : j / 4 * 4 + 3 = j := by omega
          rw [Nat.add_assoc, e'] at q3
          rw [e'] at k3
          rw [q3, ← k3]; exact hj
    obtain ⟨v', w', hr, h2, h3, _, h4⟩ := run_append_own_at (P := Tryz.prog) w B 23 23 73 i0 _ 4 32 Tryz.undRows hi hz0 hz2 hz3 rfl (by decide) (.slice (some ⟨g0, 0, none⟩) 0 0) 0 (cellsW []) h x l.length lk (cellsW l) (cellsW_len l) hc (cellsW_one l) (by unfold maxLen; omega) (by omega) hB
    simp only [Nat.zero_add, cellsW, List.nil_append] at h2
    obtain ⟨a', cap', rfl⟩ := howns_form h2
    have hg : ∃ g', a' = some ⟨g', 0, none⟩ := by
      obtain ⟨_, ⟨k1, k2⟩ | ⟨g, c, cur, k1, _⟩⟩ := h2
      · rw [k1] at h4
        rcases h4 with h4 | h4 <;> cases h4
      · cases k1; exact ⟨_, rfl⟩
    obtain ⟨g', rfl⟩ := hg
    refine ⟨g', cap', w', by simpa using hr, h2, Tu.grown h3 (fun g hg => ?_)⟩
    have : some g0 = some g := hg
    exact (Option.some.inj this).symm
/-- Lists of one's own under way. -/
theorem tu_keeps {w w' : World} {g0 : Nat} {c0 : Array Value} (u : Tu (fun k => k = g0) w w') (h0 : w.heap[g0]? = some (.cells c0 73 (0, 0))) {g : Nat} {c : Array Value} {t : TypeId} (h : w.heap[g]? = some (.cells c t (0, 0))) (ht : t ≠ 73) : w'.heap[g]? = some (.cells c t (0, 0)) :=
  u.block g _ h (fun e => by subst e; rw [h0] at h; cases h; exact ht rfl)
/-- Three worlds in which rows are put behind none, and what is there behind it. -/
theorem rows_put (D : World) (ra : Option Addr) (rs : List HRw) (rn rc : Nat) (hn : rs.length = rn) (hI : IsW D ra rs) (hl : rs.length ≤ 300) :
    (∃ gr rc1 w1, (Builtin.append_ #[23, 23] 23 #[.slice (some ⟨D.heap.size, 0, none⟩) 0 0, .slice ra rn rc]).run Tryz.prog (D.alloc (.cells #[] 73)).drew = .ok (.slice (some ⟨gr, 0, none⟩) rn rc1) w1 ∧ Ow w1 D.heap.size (some ⟨gr, 0, none⟩) rs rc1 ∧ Bl D w1) ∧
    (∃ gr rc1 w1, (Builtin.append_ #[23, 23] 23 #[.slice (some ⟨D.heap.size, 0, none⟩) 0 0, .slice ra rn rc]).run Tryz.prog ((D.alloc (.cells #[] 73)).alloc (.cells zV 27)).drew = .ok (.slice (some ⟨gr, 0, none⟩) rn rc1) w1 ∧ Ow w1 D.heap.size (some ⟨gr, 0, none⟩) rs rc1 ∧ Bl D w1 ∧ w1.heap[D.heap.size + 1]? = some (.cells zV 27 (0, 0))) ∧
    (∃ gr rc1 w1, (Builtin.append_ #[23, 23] 23 #[.slice (some ⟨D.heap.size + 1, 0, none⟩) 0 0, .slice ra rn rc]).run Tryz.prog ((D.alloc (.cells zV 27)).alloc (.cells #[] 73)).drew = .ok (.slice (some ⟨gr, 0, none⟩) rn rc1) w1 ∧ Ow w1 D.heap.size (some ⟨gr, 0, none⟩) rs rc1 ∧ Bl D w1 ∧ w1.heap[D.heap.size]? = some (.cells zV 27 (0, 0))) := by
  have key : ∀ (W : World) (g0 : Nat), Bl D W → D.heap.size ≤ g0 → W.heap[g0]? = some (.cells #[] 73 (0, 0)) → ∃ gr rc1 w1, (Builtin.append_ #[23, 23] 23 #[.slice (some ⟨g0, 0, none⟩) 0 0, .slice ra rn rc]).run Tryz.prog W = .ok (.slice (some ⟨gr, 0, none⟩) rn rc1) w1 ∧ Ow w1 D.heap.size (some ⟨gr, 0, none⟩) rs rc1 ∧ Bl D w1 ∧ Tu (fun k => k = g0) W w1 := fun W g0 hb hg h0 => by
    have o : Ow W D.heap.size (some ⟨g0, 0, none⟩) [] 0 := ⟨rfl, .inr ⟨g0, 0, #[], rfl, hg, h0, Nat.le_refl _, Nat.zero_le _, rfl, rfl⟩⟩
    obtain ⟨gr, rc1, w1, h1, h2, h3⟩ := appW_all D.heap.size W (Below.size hb) g0 o ra rs rn rc hn (hI.keep hb) hl
    exact ⟨gr, rc1, w1, h1, h2, Below.trans hb (h3.below (fun i e => by rw [e]; exact hg) (Below.size hb)), h3⟩
  refine ⟨?_, ?_, ?_⟩
  · obtain ⟨gr, rc1, w1, h1, h2, h3, _⟩ := key (D.alloc (.cells #[] 73)).drew D.heap.size ((Bl.refl D).alloc _).drew (Nat.le_refl _) (Go.heap_alloc_new D _)
    exact ⟨gr, rc1, w1, h1, h2, h3⟩
  · have r0 : ((D.alloc (.cells #[] 73)).alloc (.cells zV 27)).heap[D.heap.size]? = some (.cells #[] 73 (0, 0)) := ((Bl.refl (D.alloc (.cells #[] 73))).alloc _).row (Go.heap_alloc_new D _)
    obtain ⟨gr, rc1, w1, h1, h2, h3, h4⟩ := key ((D.alloc (.cells #[] 73)).alloc (.cells zV 27)).drew D.heap.size (((Bl.refl D).alloc _).alloc _).drew (Nat.le_refl _) r0
    have z : ((D.alloc (.cells #[] 73)).alloc (.cells zV 27)).drew.heap[D.heap.size + 1]? = some (.cells zV 27 (0, 0)) := by
      have z' : ((D.alloc (.cells #[] 73)).alloc (.cells zV 27)).heap[D.heap.size + 1]? = some (.cells zV 27 (0, 0)) := by
        have := Go.heap_alloc_new (D.alloc (.cells #[] 73)) (.cells zV 27)
        simpa using this
      exact z'
    exact ⟨gr, rc1, w1, h1, h2, h3, tu_keeps h4 r0 z (by decide)⟩
  · have r0 : ((D.alloc (.cells zV 27)).alloc (.cells #[] 73)).heap[D.heap.size + 1]? = some (.cells #[] 73 (0, 0)) := by
      have := Go.heap_alloc_new (D.alloc (.cells zV 27)) (.cells #[] 73)
      simpa using this
    obtain ⟨gr, rc1, w1, h1, h2, h3, h4⟩ := key ((D.alloc (.cells zV 27)).alloc (.cells #[] 73)).drew (D.heap.size + 1) (((Bl.refl D).alloc _).alloc _).drew (Nat.le_succ _) r0
    have z : ((D.alloc (.cells zV 27)).alloc (.cells #[] 73)).drew.heap[D.heap.size]? = some (.cells zV 27 (0, 0)) := ((Bl.refl (D.alloc (.cells zV 27))).alloc _).row (Go.heap_alloc_new D _)
    exact ⟨gr, rc1, w1, h1, h2, h3, tu_keeps h4 r0 z (by decide)⟩
end Go.Proofs.YtbfamjnnlcopiaaGreatDoor

/- The document's Copy of a view: its walk. -/
namespace Go.Proofs.YtbfamjnnlcopiaaGreatDoor
open Go.RowKit
set_option linter.unusedVariables false
set_option maxRecDepth 4000
set_option linter.unusedSimpArgs false

theorem six {w : World} {g : Nat} {t : TypeId} {a b c d e f : Value} (h : w.heap[g]? = some (.cells #[a, b, c, d, e, f] t (0, 0))) : w.cell? ⟨g, 0, none⟩ = some a ∧ w.cell? ⟨g, 1, none⟩ = some b ∧ w.cell? ⟨g, 2, none⟩ = some c ∧ w.cell? ⟨g, 3, none⟩ = some d ∧ w.cell? ⟨g, 4, none⟩ = some e ∧ w.cell? ⟨g, 5, none⟩ = some f :=
  ⟨cell_of_row _ _ 0 _ _ _ h, cell_of_row _ _ 1 _ _ _ h, cell_of_row _ _ 2 _ _ _ h, cell_of_row _ _ 3 _ _ _ h, cell_of_row _ _ 4 _ _ _ h, cell_of_row _ _ 5 _ _ _ h⟩
theorem sixF {w : World} {g : Nat} {t : TypeId} {cs : Array Value} (h : w.heap[g]? = some (.cells cs t (0, 0))) : w.frozen? ⟨g, 0, none⟩ = false ∧ w.frozen? ⟨g, 1, none⟩ = false ∧ w.frozen? ⟨g, 2, none⟩ = false ∧ w.frozen? ⟨g, 3, none⟩ = false ∧ w.frozen? ⟨g, 4, none⟩ = false ∧ w.frozen? ⟨g, 5, none⟩ = false :=
  ⟨frozen_of_row _ _ 0 _ _ h, frozen_of_row _ _ 1 _ _ h, frozen_of_row _ _ 2 _ _ h, frozen_of_row _ _ 3 _ _ h, frozen_of_row _ _ 4 _ _ h, frozen_of_row _ _ 5 _ _ h⟩
/-- Six cells of a view laid into its box. -/
def layV (w : World) (g : Nat) (a b c d e f : Value) : World := (((((w.setCell ⟨g, 0, none⟩ a).setCell ⟨g, 1, none⟩ b).setCell ⟨g, 2, none⟩ c).setCell ⟨g, 3, none⟩ d).setCell ⟨g, 4, none⟩ e).setCell ⟨g, 5, none⟩ f
theorem layV_only (w : World) (g : Nat) (a b c d e f : Value) : Only g w (layV w g a b c d e f) :=
  (((((Only.set g 0 a w).trans (Only.set g 1 b _)).trans (Only.set g 2 c _)).trans (Only.set g 3 d _)).trans (Only.set g 4 e _)).trans (Only.set g 5 f _)
theorem layV_row {w : World} {g : Nat} {t : TypeId} {a b c d e f a0 b0 c0 d0 e0 f0 : Value} (h : w.heap[g]? = some (.cells #[a0, b0, c0, d0, e0, f0] t (0, 0))) : (layV w g a b c d e f).heap[g]? = some (.cells #[a, b, c, d, e, f] t (0, 0)) := by
  unfold layV
  have h1 := heap_setCell_same w g 0 _ _ a h
  have h2 := heap_setCell_same _ g 1 _ _ b h1
  have h3 := heap_setCell_same _ g 2 _ _ c h2
  have h4 := heap_setCell_same _ g 3 _ _ d h3
  have h5 := heap_setCell_same _ g 4 _ _ e h4
  have h6 := heap_setCell_same _ g 5 _ _ f h5
  exact h6
theorem layV_else {w : World} {g h j : Nat} {a b c d e f u : Value} (hne : h ≠ g) (hc : w.cell? ⟨h, j, none⟩ = some u) : (layV w g a b c d e f).cell? ⟨h, j, none⟩ = some u := by
  rw [(layV_only w g a b c d e f).cell (p := ⟨h, j, none⟩) hne]; exact hc
/-- A view under way to be copied: so many kinds are. -/
structure Cvw (w wz : World) (G : Nat) (V : Vw) (A : Va) (gr gb j : Nat) : Prop where
  g0 : w.heap.size + 1 < G
  rg : wz.heap[G]? = some (.cells #[.int .i64 V.base, .int .i64 V.pgs, .slice A.ka A.kn A.kc, .slice A.ra A.rn A.rc, .slice A.sa A.sn A.sc, .slice A.ba A.bn A.bc] 27 (0, 0))
  r0 : wz.heap[w.heap.size + 1]? = some (.cells zV 27 (0, 0))
  cp : Cpy wz w.heap.size ⟨V.base, V.pgs, V.ks.take j, V.rs, V.ts, V.bs⟩ A gr gb
  bw : Below w.heap.size w wz
theorem Cvw.keep {w wz wy : World} {G : Nat} {V : Vw} {A : Va} {gr gb j : Nat} (h : Cvw w wz G V A gr gb j) (b : Bl wz wy) : Cvw w wy G V A gr gb j :=
  ⟨h.g0, b.row h.rg, b.row h.r0, h.cp.keep b, h.bw.trans (Below.mono b h.bw.size)⟩
/-- Blocks of the kinds of a copied view are others than its boxes. -/
theorem cvw_new {w w3 wz : World} {G : Nat} {V : Vw} {rn sn bn rc1 sc1 bc1 gr gb : Nat} {sa : Option Addr} (hG : w.heap.size + 1 < G) (on : ∀ (g : Nat) (c : Array Value) (t : TypeId), w3.heap[g]? = some (.cells c t (0, 0)) → t ≠ 27 → wz.heap[g]? = some (.cells c t (0, 0)))
    (rg : wz.heap[G]? = some (.cells #[.int .i64 V.base, .int .i64 V.pgs, .slice none 0 0, .slice (some ⟨gr, 0, none⟩) rn rc1, .slice sa sn sc1, .slice (some ⟨gb, 0, none⟩) bn bc1] 27 (0, 0))) (r0 : wz.heap[w.heap.size + 1]? = some (.cells zV 27 (0, 0))) (bw : Below w.heap.size w wz)
    (h1 : V.rs.length = rn) (h2 : V.ts.length = sn) (h3 : V.bs.length = bn) (o1 : Ow w3 w.heap.size (some ⟨gr, 0, none⟩) V.rs rc1) (o2 : Told w3 w.heap.size (.slice sa sn sc1) V.ts) (o3 : OwnsB w3 w.heap.size (some ⟨gb, 0, none⟩) V.bs bc1) :
    Cvw w wz G V ⟨none, some ⟨gr, 0, none⟩, sa, some ⟨gb, 0, none⟩, 0, rn, sn, bn, 0, rc1, sc1, bc1⟩ gr gb 0 := by
  refine ⟨hG, rg, r0, ⟨rfl, rfl, h1, h2, h3, rfl, o1.same (fun g o hg ho => ?_), o2.same (fun g c t hg ht => on g c t hg ?_), o3.same (fun g o hg ho => ?_), Kow.nil _ _⟩, bw⟩
  · obtain ⟨c, hc⟩ := o1.kind g hg
    rw [ho] at hc; cases hc
    exact on g _ _ ho (by decide)
  · rcases ht with rfl | rfl <;> decide
  · obtain ⟨_, c, hc⟩ := o3.kind g hg
    rw [ho] at hc; cases hc
    exact on g _ _ ho (by decide)
/-- A kind more. -/
theorem Kow.more {w : World} {B : Nat} (hB : B ≤ w.heap.size) {a : Option Addr} {ks : List Kn} {n c : Nat} (h : Kow w B a ks c) (hl : ks.length = n) (s : Int) (l : List Int) (la : Option Addr) (ln lc : Nat) (hln : l.length = ln) (ho : OwnsI w B la l lc) (hn : n ≤ 1000000) :
    ∃ a' c' w', (Builtin.append_ #[22, 22] 22 #[.slice a n c, .slice (some ⟨w.heap.size, 0, none⟩) 1 1]).run Tryz.prog (w.alloc (.cells #[.int .i64 s, .slice la ln lc] 66)) = .ok (.slice a' (n + 1) c') w' ∧ Kow w' B a' (ks ++ [⟨s, l⟩]) c' ∧ (∀ (g : Nat) (cu : Array Value) (t : TypeId), w.heap[g]? = some (.cells cu t (0, 0)) → t ≠ 66 → w'.heap[g]? = some (.cells cu t (0, 0))) ∧ Below B w w' := by
  subst hl hln
  have b : Bl w (w.alloc (.cells #[.int .i64 s, .slice la l.length lc] 66)) := (Bl.refl w).alloc _
  obtain ⟨xs, e1, e2, e3⟩ := h
  have hx : xs.length = ks.length := by rw [← e1, List.length_map]
  have rn := Go.heap_alloc_new w (.cells #[.int .i64 s, .slice la l.length lc] 66)
  obtain ⟨a', c', w', hr, k1, k2, _⟩ := appK _ B (Nat.le_trans hB (Below.size b)) a xs c (e2.keep b) w.heap.size 1 ⟨s, la, lc, l⟩ (cell_of_row _ _ 0 _ _ _ rn) (cell_of_row _ _ 1 _ _ _ rn) (by omega)
  rw [hx] at hr
  have hk : ∀ g, ob a = some g → B ≤ g ∧ ∃ cur, (w.alloc (.cells #[.int .i64 s, .slice la l.length lc] 66)).heap[g]? = some (.cells cur 66 (0, 0)) := row_kind (e2.keep b)
  have tu : Tu (fun k => ob a = some k) _ w' := Tu.grown k2 (fun g hg => hg)
  have st : ∀ (g : Nat) (cu : Array Value) (t : TypeId), (w.alloc (.cells #[.int .i64 s, .slice la l.length lc] 66)).heap[g]? = some (.cells cu t (0, 0)) → t ≠ 66 → w'.heap[g]? = some (.cells cu t (0, 0)) := fun g cu t hg ht => tu.block g _ hg (fun e => by
    obtain ⟨_, cur, hc⟩ := hk g e
    exact kind_ne hg hc ht rfl)
  refine ⟨a', c', w', hr, ⟨xs ++ [⟨s, la, lc, l⟩], by rw [List.map_append, e1]; rfl, k1, fun x hxm => ?_⟩, fun g cu t hg ht => st g cu t (b.row hg) ht, Below.trans (Below.alloc (Below.refl _ w) hB _) (tu.below (fun i e => (hk i e).1) (Nat.le_trans hB (Below.size b)))⟩
  have key : ∀ x : Kd, OwnsI w B x.a x.l x.c → OwnsI w' B x.a x.l x.c := fun x hx => by
    refine (hx.keep b).same (fun g o hg ho => ?_)
    obtain ⟨cur, hc⟩ := (hx.keep b).kind g hg
    rw [ho] at hc; cases hc
    exact st g _ _ ho (by decide)
  rcases List.mem_append.1 hxm with q | q
  · exact key x (e3 x q)
  · obtain rfl : x = ⟨s, la, lc, l⟩ := by simpa using q
    exact key _ ho
/-- A kind more in a view under way. -/
theorem Cvw.more {w wz wy : World} {G : Nat} {V : Vw} {ka ra sa ba ka' : Option Addr} {kn rn sn bn kc rc sc bc kc' gr gb j : Nat} {x : Kn} (h : Cvw w wz G V ⟨ka, ra, sa, ba, kn, rn, sn, bn, kc, rc, sc, bc⟩ gr gb j) (hj : V.ks.take (j + 1) = V.ks.take j ++ [x]) (ho : Kow wy w.heap.size ka' (V.ks.take j ++ [x]) kc') (st : ∀ (g : Nat) (cu : Array Value) (t : TypeId), wz.heap[g]? = some (.cells cu t (0, 0)) → t ≠ 66 → t ≠ 3 → wy.heap[g]? = some (.cells cu t (0, 0))) (st3 : ∀ (g : Nat) (cu : Array Value), wz.heap[g]? = some (.cells cu 3 (0, 0)) → wy.heap[g]? = some (.cells cu 3 (0, 0))) (b : Below w.heap.size w wy) :
    Cvw w (wy.setCell ⟨G, 2, none⟩ (.slice ka' (kn + 1) kc')) G V ⟨ka', ra, sa, ba, kn + 1, rn, sn, bn, kc', rc, sc, bc⟩ gr gb (j + 1) := by
  have rg := st G _ _ h.rg (by decide) (by decide)
  have r0 := st _ _ _ h.r0 (by decide) (by decide)
  have on := Only.set G 2 (.slice ka' (kn + 1) kc') wy
  have key : ∀ (g : Nat) (cu : Array Value) (t : TypeId), wz.heap[g]? = some (.cells cu t (0, 0)) → t ≠ 66 → t ≠ 27 → (wy.setCell ⟨G, 2, none⟩ (.slice ka' (kn + 1) kc')).heap[g]? = some (.cells cu t (0, 0)) := fun g cu t hg h1 h2 => by
    have q : wy.heap[g]? = some (.cells cu t (0, 0)) := by
      by_cases e : t = 3
      · subst e; exact st3 g cu hg
      · exact st g cu t hg h1 e
    rw [on.block g (kind_ne q rg h2)]; exact q
  have hc := h.cp
  refine ⟨h.g0, heap_setCell_same wy G 2 _ _ _ rg, by rw [on.block _ (Nat.ne_of_lt h.g0)]; exact r0, ⟨hc.ra, hc.ba, hc.rn, hc.sn, hc.bn, ?_, hc.rows.same (fun g o hg ho => ?_), hc.spans.same (fun g cu t hg ht => key g cu t hg ?_ ?_), hc.bytes.same (fun g o hg ho => ?_), ?_⟩, b.trans (on.below (by have := h.g0; omega))⟩
  · have := hc.kn
    show (V.ks.take (j + 1)).length = kn + 1
    rw [hj, List.length_append]
    have e : (V.ks.take j).length = kn := this
    rw [e]; rfl
  · obtain ⟨c, hc2⟩ := hc.rows.kind g hg
    rw [ho] at hc2; cases hc2
    exact key g _ _ ho (by decide) (by decide)
  · rcases ht with rfl | rfl <;> decide
  · rcases ht with rfl | rfl <;> decide
  · obtain ⟨_, c, hc2⟩ := hc.bytes.kind g hg
    rw [ho] at hc2; cases hc2
    exact key g _ _ ho (by decide) (by decide)
  · show Kow _ _ _ (V.ks.take (j + 1)) _
    rw [hj]
    exact ho.same (fun g cu t hg ht => by rw [on.block g (kind_ne hg rg (by rcases ht with rfl | rfl <;> decide))]; exact hg)
/-- Boxes turned: a view of one's own stays. -/
theorem Cpy.boxed {w w' : World} {B : Nat} {V : Vw} {A : Va} {gr gb : Nat} (h : Cpy w B V A gr gb) (on : ∀ (g : Nat) (c : Array Value) (t : TypeId), w.heap[g]? = some (.cells c t (0, 0)) → t ≠ 27 → w'.heap[g]? = some (.cells c t (0, 0))) : Cpy w' B V A gr gb := by
  refine ⟨h.ra, h.ba, h.rn, h.sn, h.bn, h.kn, h.rows.same (fun g o hg ho => ?_), h.spans.same (fun g c t hg ht => on g c t hg ?_), h.bytes.same (fun g o hg ho => ?_), h.kinds.same (fun g c t hg ht => on g c t hg ?_)⟩
  · obtain ⟨c, hc⟩ := h.rows.kind g hg
    rw [ho] at hc; cases hc
    exact on g _ _ ho (by decide)
  · rcases ht with rfl | rfl <;> decide
  · obtain ⟨_, c, hc⟩ := h.bytes.kind g hg
    rw [ho] at hc; cases hc
    exact on g _ _ ho (by decide)
  · rcases ht with rfl | rfl <;> decide
theorem ent_kCopy : (match Tryz.prog.funcs[27]? with | some fn => !(fn.name == "runtime.NumGoroutine") && !fn.body.isNone | none => false) = true := by kernel_rfl
end Go.Proofs.YtbfamjnnlcopiaaGreatDoor
