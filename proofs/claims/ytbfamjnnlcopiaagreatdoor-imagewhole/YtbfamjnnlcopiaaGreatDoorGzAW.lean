/- Layer 17: what Read of the code goes by: a reader, an image under way, and the result's cell. -/
import Derived.Test.YtbfamjnnlcopiaaGreatDoorGzAS
import Derived.Test.YtbfamjnnlcopiaaGreatDoorIgH
import Derived.Test.YtbfamjnnlcopiaaGreatDoorGzAU
import Derived.Test.YtbfamjnnlcopiaaGreatDoorGzAR
import Derived.Test.YtbfamjnnlcopiaaGreatDoorGzAI
namespace Go.Proofs.YtbfamjnnlcopiaaGreatDoor
open Go.RowKit
set_option linter.unusedVariables false
set_option maxRecDepth 4000

/-- A table that is read off a reader with a fault. -/
theorem oread_fault (B : Nat) (l : List Int) (er : Int) (w : World) (h : RdAt w B l er) (hne : er ≠ 0) :
    Calls Tryz.prog 52 #[.pointer (some ⟨B, 0, none⟩)] w (ReadP w B [] [] er) := by
  have HR : Hid (RdAt w B l er) := h
  have HU : Hid (upS l er 8192 = (0, l, er)) := if_neg hne
  clear h
  go_enter Tryz.func52, Tryz.ntmps52
  go_wp2_with fail
  refine (upto_any B l er 8192 _ HR.out).mono ?_
  rw [HU.out]
  rintro r w1 ⟨rfl, r1, g1⟩
  have R1 : Hid (RdAt w1 B l er) := r1
  have T1 : Hid (Tg B w w1) := Tg.ofGrown g1
  clear r1 g1
  go_wp2
  refine wp_loop_rounds 1 ?_
  rw [rounds_succ]
  go_wp2
  go_ret
  exact ⟨none, 0, l, rfl, IsI.nil _ _, fun _ => ⟨rfl, rfl⟩, R1.out, fun h => absurd h hne, T1.out, (fun ad h => by cases h), by simp⟩
/-- A table that is read off any reader. -/
def TabR (w : World) (B : Nat) (l : List Int) (e0 : Int) (e : Ending) (w' : World) : Prop :=
  ∃ a' c' ps l' er, e = .returned (.slice a' (List.length ps) c') ∧ IsI w' a' ps ∧ RdAt w' B l' er ∧ Tg B w w' ∧ (∀ ad, a' = some ad → w.heap.size ≤ ad.block) ∧ ps.length ≤ 8192 ∧
    ((e0 ≠ 0 ∧ er = e0) ∨ (e0 = 0 ∧ er ≠ 0 ∧ (readT l).2.2 = er) ∨ (e0 = 0 ∧ er = 0 ∧ readT l = (ps, l', 0)))
theorem otab_any (B : Nat) (l : List Int) (e0 : Int) (w : World) (h : RdAt w B l e0) : Calls Tryz.prog 52 #[.pointer (some ⟨B, 0, none⟩)] w (TabR w B l e0) := by
  by_cases he : e0 = 0
  · subst he
    rcases hk : readT l with ⟨ps, rest, er⟩
    refine (oread_any B l ps rest er w h hk).mono ?_
    rintro e w' ⟨a', c', l', q1, q2, q3, q4, q5, q6, q7, q8⟩
    refine ⟨a', c', ps, l', er, q1, q2, q4, q6, q7, q8, ?_⟩
    by_cases h0 : er = 0
    · subst h0
      rw [q5 rfl]
      exact .inr (.inr ⟨rfl, rfl, hk⟩)
    · exact .inr (.inl ⟨rfl, h0, by rw [hk]⟩)
  · refine (oread_fault B l e0 w h he).mono ?_
    rintro e w' ⟨a', c', l', q1, q2, q3, q4, q5, q6, q7, q8⟩
    exact ⟨a', c', [], l', e0, q1, q2, q4, q6, q7, q8, .inl ⟨he, rfl⟩⟩

/-- Seven cells are laid. -/
def lay7 (w : World) (g : Nat) (v0 v1 v2 v3 v4 v5 v6 : Value) : World := ((((((w.setCell ⟨g, 0, none⟩ v0).setCell ⟨g, 1, none⟩ v1).setCell ⟨g, 2, none⟩ v2).setCell ⟨g, 3, none⟩ v3).setCell ⟨g, 4, none⟩ v4).setCell ⟨g, 5, none⟩ v5).setCell ⟨g, 6, none⟩ v6
theorem lay7_only (w : World) (g : Nat) (a b c d e f h : Value) : Only g w (lay7 w g a b c d e f h) :=
  ((((((Only.set g 0 a w).trans (Only.set g 1 b _)).trans (Only.set g 2 c _)).trans (Only.set g 3 d _)).trans (Only.set g 4 e _)).trans (Only.set g 5 f _)).trans (Only.set g 6 h _)
theorem lay7_rowV {w : World} {g : Nat} {t : TypeId} {a b c d e f k a0 b0 c0 d0 e0 f0 k0 : Value} (h : w.heap[g]? = some (.cells #[a0, b0, c0, d0, e0, f0, k0] t (0, 0))) : (lay7 w g a b c d e f k).heap[g]? = some (.cells #[a, b, c, d, e, f, k] t (0, 0)) := by
  unfold lay7
  have h1 : (w.setCell ⟨g, 0, none⟩ a).heap[g]? = some (.cells #[a, b0, c0, d0, e0, f0, k0] t (0, 0)) := heap_setCell_same w g 0 _ _ a h
  have h2 := heap_setCell_same _ g 1 _ _ b h1
  have h2 : ((w.setCell ⟨g, 0, none⟩ a).setCell ⟨g, 1, none⟩ b).heap[g]? = some (.cells #[a, b, c0, d0, e0, f0, k0] t (0, 0)) := h2
  have h3 := heap_setCell_same _ g 2 _ _ c h2
  have h3 : (((w.setCell ⟨g, 0, none⟩ a).setCell ⟨g, 1, none⟩ b).setCell ⟨g, 2, none⟩ c).heap[g]? = some (.cells #[a, b, c, d0, e0, f0, k0] t (0, 0)) := h3
  have h4 := heap_setCell_same _ g 3 _ _ d h3
  have h4 : ((((w.setCell ⟨g, 0, none⟩ a).setCell ⟨g, 1, none⟩ b).setCell ⟨g, 2, none⟩ c).setCell ⟨g, 3, none⟩ d).heap[g]? = some (.cells #[a, b, c, d, e0, f0, k0] t (0, 0)) := h4
  have h5 := heap_setCell_same _ g 4 _ _ e h4
  have h5 : (((((w.setCell ⟨g, 0, none⟩ a).setCell ⟨g, 1, none⟩ b).setCell ⟨g, 2, none⟩ c).setCell ⟨g, 3, none⟩ d).setCell ⟨g, 4, none⟩ e).heap[g]? = some (.cells #[a, b, c, d, e, f0, k0] t (0, 0)) := h5
  have h6 := heap_setCell_same _ g 5 _ _ f h5
  have h6 : ((((((w.setCell ⟨g, 0, none⟩ a).setCell ⟨g, 1, none⟩ b).setCell ⟨g, 2, none⟩ c).setCell ⟨g, 3, none⟩ d).setCell ⟨g, 4, none⟩ e).setCell ⟨g, 5, none⟩ f).heap[g]? = some (.cells #[a, b, c, d, e, f, k0] t (0, 0)) := h6
  exact heap_setCell_same _ g 6 _ _ k h6
theorem lay7_row {w : World} {g : Nat} {t : TypeId} {p c s p0 c0 s0 base base0 : Int} {la oa ba la0 oa0 ba0 : Option Addr} {ln lc on oc bn bc ln0 lc0 on0 oc0 bn0 bc0 : Nat} (h : w.heap[g]? = some (.cells (icells p0 c0 s0 la0 ln0 lc0 base0 oa0 on0 oc0 ba0 bn0 bc0) t (0, 0))) :
    (lay7 w g (.int .i64 p) (.int .i64 c) (.int .i64 s) (.slice la ln lc) (.int .i64 base) (.slice oa on oc) (.slice ba bn bc)).heap[g]? = some (.cells (icells p c s la ln lc base oa on oc ba bn bc) t (0, 0)) := lay7_rowV h
theorem ithawed {t : TypeId} {w : World} {g : Nat} {p c s : Int} {la : Option Addr} {ln lc : Nat} {base : Int} {oa : Option Addr} {on oc : Nat} {ba : Option Addr} {bn bc : Nat} (h : w.heap[g]? = some (.cells (icells p c s la ln lc base oa on oc ba bn bc) t (0, 0))) (j : Nat) : w.frozen? ⟨g, j, none⟩ = false := frozen_of_row _ _ j _ _ h
def z7 : Array Value := icells 0 0 0 none 0 0 0 none 0 0 none 0 0

/-- What stands under way. -/
structure St (w wk : World) (B M : Nat) (l : List Int) (e : Int) (p c s : Int) (la : Option Addr) (ln lc : Nat) (base : Int) (oa : Option Addr) (on oc : Nat) (ba : Option Addr) (bn bc : Nat) : Prop where
  rd : RdAt wk B l e
  row : wk.heap[M]? = some (.cells (icells p c s la ln lc base oa on oc ba bn bc) 35 (0, 0))
  res : wk.heap[w.heap.size]? = some (.cells z7 35 (0, 0))
  low : Below w.heap.size w wk
  hB : w.heap.size < B
  hM : B < M
theorem row_lt {w : World} {g : Nat} {o : Obj} (h : w.heap[g]? = some o) : g < w.heap.size := (Array.getElem?_eq_some_iff.1 h).1
theorem St.tg {w wk wj : World} {B M : Nat} {l l2 : List Int} {e e2 p c s : Int} {la : Option Addr} {ln lc : Nat} {base : Int} {oa : Option Addr} {on oc : Nat} {ba : Option Addr} {bn bc : Nat} (h : St w wk B M l e p c s la ln lc base oa on oc ba bn bc) (t : Tg B wk wj) (r : RdAt wj B l2 e2) : St w wj B M l2 e2 p c s la ln lc base oa on oc ba bn bc :=
  ⟨r, by rw [t.block M (row_lt h.row) (by have := h.hM; omega)]; exact h.row, by rw [t.block w.heap.size (row_lt h.res) (by have := h.hB; omega)]; exact h.res, h.low.trans (t.below (by have := h.hB; omega) h.low.size), h.hB, h.hM⟩
theorem St.keep {w wk wj : World} {B M : Nat} {l : List Int} {e p c s : Int} {la : Option Addr} {ln lc : Nat} {base : Int} {oa : Option Addr} {on oc : Nat} {ba : Option Addr} {bn bc : Nat} (h : St w wk B M l e p c s la ln lc base oa on oc ba bn bc) (b : Below wk.heap.size wk wj) : St w wj B M l e p c s la ln lc base oa on oc ba bn bc :=
  h.tg (Tg.ofBelow b) (rd_keep h.rd b)
theorem St.only {w wk wj : World} {B M : Nat} {l : List Int} {e p c s p' c' s' : Int} {la la' : Option Addr} {ln lc ln' lc' : Nat} {base base' : Int} {oa oa' : Option Addr} {on oc on' oc' : Nat} {ba ba' : Option Addr} {bn bc bn' bc' : Nat} (h : St w wk B M l e p c s la ln lc base oa on oc ba bn bc) (o : Only M wk wj) (r : wj.heap[M]? = some (.cells (icells p' c' s' la' ln' lc' base' oa' on' oc' ba' bn' bc') 35 (0, 0))) : St w wj B M l e p' c' s' la' ln' lc' base' oa' on' oc' ba' bn' bc' :=
  ⟨h.rd.below (base := B + 1) (o.below (by have := h.hM; omega)) (by omega), r, by rw [o.block w.heap.size (by have := h.hB; have := h.hM; omega)]; exact h.res, h.low.trans (o.below (by have := h.hB; have := h.hM; omega)), h.hB, h.hM⟩
theorem St.set4 {w wk : World} {B M : Nat} {l : List Int} {e p c s : Int} {la : Option Addr} {ln lc : Nat} {base : Int} {oa : Option Addr} {on oc : Nat} {ba : Option Addr} {bn bc : Nat} (h : St w wk B M l e p c s la ln lc base oa on oc ba bn bc) (b' : Int) : St w (wk.setCell ⟨M, 4, none⟩ (.int .i64 b')) B M l e p c s la ln lc b' oa on oc ba bn bc :=
  h.only (Only.set M 4 _ _) (heap_setCell_same wk M 4 _ _ (.int .i64 b') h.row)
theorem St.set5 {w wk : World} {B M : Nat} {l : List Int} {e p c s : Int} {la : Option Addr} {ln lc : Nat} {base : Int} {oa : Option Addr} {on oc : Nat} {ba : Option Addr} {bn bc : Nat} (h : St w wk B M l e p c s la ln lc base oa on oc ba bn bc) (a' : Option Addr) (n' k' : Nat) : St w (wk.setCell ⟨M, 5, none⟩ (.slice a' n' k')) B M l e p c s la ln lc base a' n' k' ba bn bc :=
  h.only (Only.set M 5 _ _) (heap_setCell_same wk M 5 _ _ (.slice a' n' k') h.row)
theorem St.set6 {w wk : World} {B M : Nat} {l : List Int} {e p c s : Int} {la : Option Addr} {ln lc : Nat} {base : Int} {oa : Option Addr} {on oc : Nat} {ba : Option Addr} {bn bc : Nat} (h : St w wk B M l e p c s la ln lc base oa on oc ba bn bc) (a' : Option Addr) (n' k' : Nat) : St w (wk.setCell ⟨M, 6, none⟩ (.slice a' n' k')) B M l e p c s la ln lc base oa on oc a' n' k' :=
  h.only (Only.set M 6 _ _) (heap_setCell_same wk M 6 _ _ (.slice a' n' k') h.row)
theorem St.ic {w wk : World} {B M : Nat} {l : List Int} {e p c s : Int} {la : Option Addr} {ln lc : Nat} {base : Int} {oa : Option Addr} {on oc : Nat} {ba : Option Addr} {bn bc : Nat} (h : St w wk B M l e p c s la ln lc base oa on oc ba bn bc) : Ic wk M p c s la ln lc base oa on oc ba bn bc := icell h.row

/-- Numbers that stay: none, or in a block that is neither written. -/
structure Sy (w : World) (B M : Nat) (a : Option Addr) (l : List Int) : Prop where
  isI : IsI w a l
  off : l = [] ∨ ∀ ad, a = some ad → B < ad.block ∧ ad.block ≠ M
theorem Sy.tg {w w' : World} {B M : Nat} {a : Option Addr} {l : List Int} (h : Sy w B M a l) (t : Tg B w w') : Sy w' B M a l := by
  refine ⟨?_, h.off⟩
  rcases h.off with q | q
  · subst q; exact IsI.nil _ _
  · exact h.isI.tgG t (fun ad e => by have := (q ad e).1; omega)
theorem Sy.only {w w' : World} {B M : Nat} {a : Option Addr} {l : List Int} (h : Sy w B M a l) (t : Only M w w') : Sy w' B M a l := by
  refine ⟨?_, h.off⟩
  rcases h.off with q | q
  · subst q; exact IsI.nil _ _
  · exact h.isI.tgG (Tg.ofOnly t) (fun ad e => (q ad e).2)
theorem Sy.keep {w w' : World} {B M : Nat} {a : Option Addr} {l : List Int} (h : Sy w B M a l) (t : Below w.heap.size w w') : Sy w' B M a l := h.tg (Tg.ofBelow t)

theorem Sy.low {w w' : World} {B M R : Nat} {a : Option Addr} {l : List Int} (h : Sy w B M a l) (t : Only R w w') (hR : R < B) : IsI w' a l := by
  rcases h.off with q | q
  · subst q; exact IsI.nil _ _
  · exact h.isI.tgG (Tg.ofOnly t) (fun ad e => by have := (q ad e).1; omega)

/-! What the reader's state says of the image. -/
theorem tail_up {p c s : Int} {live l r : List Int} {q x : Int} (h : upS l 0 4294967296 = (q, r, x)) : (x = 0 → tailG p c s live l = tabG p c s live (256 * q) r) ∧ (x ≠ 0 → tailG p c s live l = badG x) :=
  ⟨fun e => by subst e; unfold tailG; rw [bindU_ok h], fun e => by unfold tailG; rw [bindU_bad h e]⟩
end Go.Proofs.YtbfamjnnlcopiaaGreatDoor

/- Layer 17: what Move leaves behind; lists in new memory. -/
namespace Go.Proofs.YtbfamjnnlcopiaaGreatDoor
open Go.RowKit
set_option linter.unusedVariables false
set_option maxRecDepth 4000

theorem Hid.mk' {p : Prop} (h : p) : Hid p := h
theorem ownsI_ne {w : World} {base cap g : Nat} {a : Option Addr} {l : List Int} {C : Array Value} {T : TypeId} (h : OwnsI w base a l cap) (r : w.heap[g]? = some (.cells C T (0, 0))) (hT : T ≠ 3) : ∀ ad, a = some ad → ad.block ≠ g := by
  intro ad e q
  obtain ⟨q1, ⟨q2, _⟩ | ⟨g', c', cur, r1, r2, r3, r4⟩⟩ := h
  · injection q2 with q2; rw [q2] at e; cases e
  · injection r1 with r1
    rw [r1] at e
    cases e
    subst q
    rw [r3] at r
    cases r
    exact hT rfl
theorem ownsB_ne {w : World} {base cap g : Nat} {a : Option Addr} {l : List Int} {C : Array Value} {T : TypeId} (h : OwnsB w base a l cap) (r : w.heap[g]? = some (.cells C T (0, 0))) (hT : T ≠ 5) : ∀ ad, a = some ad → ad.block ≠ g := by
  intro ad e q
  obtain ⟨q1, ⟨q2, _⟩ | ⟨g', c', cur, r1, r2, r3, r4⟩⟩ := h
  · injection q2 with q2; rw [q2] at e; cases e
  · injection r1 with r1
    rw [r1] at e
    cases e
    subst q
    rw [r3] at r
    cases r
    exact hT rfl
theorem byB_ge {w : World} {base cap : Nat} {a : Option Addr} {l : List Int} (h : OwnsB w base a l cap) : ∀ ad, a = some ad → base ≤ ad.block := by
  intro ad e
  obtain ⟨q1, ⟨q2, _⟩ | ⟨g', c', cur, r1, r2, r3, r4⟩⟩ := h
  · injection q2 with q2; rw [q2] at e; cases e
  · injection r1 with r1
    rw [r1] at e
    cases e
    exact r2
theorem ownsI_ge {w : World} {base cap : Nat} {a : Option Addr} {l : List Int} (h : OwnsI w base a l cap) : ∀ ad, a = some ad → base ≤ ad.block := by
  intro ad e
  obtain ⟨q1, ⟨q2, _⟩ | ⟨g', c', cur, r1, r2, r3, r4⟩⟩ := h
  · injection q2 with q2; rw [q2] at e; cases e
  · injection r1 with r1
    rw [r1] at e
    cases e
    exact r2
/-- A list of numbers that lies in new memory, and not in g. -/
def FarI (E W : World) (g : Nat) (a : Option Addr) (l : List Int) : Prop := IsI W a l ∧ ∀ ad, a = some ad → E.heap.size ≤ ad.block ∧ ad.block ≠ g
def FarB (E W : World) (g : Nat) (a : Option Addr) (l : List Int) : Prop := IsB W a l ∧ ∀ ad, a = some ad → E.heap.size ≤ ad.block ∧ ad.block ≠ g
theorem FarI.keep {E W W' : World} {g : Nat} {a : Option Addr} {l : List Int} (h : FarI E W g a l) (b : Below W.heap.size W W') : FarI E W' g a l := ⟨h.1.keep b, h.2⟩
theorem FarB.keep {E W W' : World} {g : Nat} {a : Option Addr} {l : List Int} (h : FarB E W g a l) (b : Below W.heap.size W W') : FarB E W' g a l := ⟨h.1.keep b, h.2⟩
theorem FarI.only {E W W' : World} {g : Nat} {a : Option Addr} {l : List Int} (h : FarI E W g a l) (o : Only g W W') : FarI E W' g a l := ⟨h.1.tgG (Tg.ofOnly o) (fun ad e => (h.2 ad e).2), h.2⟩
theorem FarB.only {E W W' : World} {g : Nat} {a : Option Addr} {l : List Int} (h : FarB E W g a l) (o : Only g W W') : FarB E W' g a l := ⟨Tg.isB (Tg.ofOnly o) h.1 (fun ad e => (h.2 ad e).2), h.2⟩
theorem FarI.low {E W W' : World} {g r : Nat} {a : Option Addr} {l : List Int} (h : FarI E W g a l) (o : Only r W W') (hr : r < E.heap.size) : IsI W' a l := h.1.tgG (Tg.ofOnly o) (fun ad e => by have := (h.2 ad e).1; omega)
theorem FarB.low {E W W' : World} {g r : Nat} {a : Option Addr} {l : List Int} (h : FarB E W g a l) (o : Only r W W') (hr : r < E.heap.size) : IsB W' a l := Tg.isB (Tg.ofOnly o) h.1 (fun ad e => by have := (h.2 ad e).1; omega)
theorem row_set46 {w : World} {g : Nat} {T : TypeId} {p c s base t : Int} {la oa ba a5 : Option Addr} {ln lc on oc bn bc n5 k5 : Nat} (h : w.heap[g]? = some (.cells (icells p c s la ln lc base oa on oc ba bn bc) T (0, 0))) :
    ((w.setCell ⟨g, 4, none⟩ (.int .i64 t)).setCell ⟨g, 6, none⟩ (.slice a5 n5 k5)).heap[g]? = some (.cells (icells p c s la ln lc t oa on oc a5 n5 k5) T (0, 0)) := by
  have h1 : (w.setCell ⟨g, 4, none⟩ (.int .i64 t)).heap[g]? = some (.cells (icells p c s la ln lc t oa on oc ba bn bc) T (0, 0)) := heap_setCell_same w g 4 _ _ _ h
  exact heap_setCell_same _ g 6 _ _ _ h1
theorem img_nobyte {w : World} {g off : Nat} {T : TypeId} {p c s base x : Int} {la oa ba : Option Addr} {ln lc on oc bn bc : Nat} (h : w.heap[g]? = some (.cells (icells p c s la ln lc base oa on oc ba bn bc) T (0, 0))) (q : w.cell? ⟨g, off, none⟩ = some (.int .u8 x)) : False := by
  obtain ⟨c0, c1, c2, c3, c4, c5, c6⟩ := icell h
  match off, q with
  | 0, q => rw [c0] at q; cases q
  | 1, q => rw [c1] at q; cases q
  | 2, q => rw [c2] at q; cases q
  | 3, q => rw [c3] at q; cases q
  | 4, q => rw [c4] at q; cases q
  | 5, q => rw [c5] at q; cases q
  | 6, q => rw [c6] at q; cases q
  | k + 7, q => simp [World.cell?, h, icells] at q
theorem isB_only {w w' : World} {g : Nat} {T : TypeId} {p c s base : Int} {la oa ba a : Option Addr} {ln lc on oc bn bc : Nat} {l : List Int} (k : IsB w a l) (h : w.heap[g]? = some (.cells (icells p c s la ln lc base oa on oc ba bn bc) T (0, 0))) (o : Only g w w') : IsB w' a l := by
  obtain ⟨h1, rfl | ⟨b, off, rfl, h3, h4⟩⟩ := k
  · exact ⟨h1, .inl rfl⟩
  · rcases l with _ | ⟨x, l⟩
    · exact ⟨h1, .inl rfl⟩
    · have hb : b ≠ g := fun e => by
        subst e
        exact img_nobyte h (h4 0 (by simp))
      exact Tg.isB (Tg.ofOnly o) ⟨h1, .inr ⟨b, off, rfl, h3, h4⟩⟩ (fun ad e => by cases e; exact hb)
/-- What Move of the code leaves behind. -/
def MoveC (w : World) (m : Im) (t n : Int) (e : Ending) (w' : World) : Prop :=
  ∃ la lc oa oc ba bc, e = .returned (.tuple #[.agg #[.int .i64 (moveG m t n).1.p, .int .i64 (moveG m t n).1.c, .int .i64 (moveG m t n).1.s, .slice la (moveG m t n).1.live.length lc, .int .i64 (moveG m t n).1.base, .slice oa (moveG m t n).1.offs.length oc, .slice ba (moveG m t n).1.bytes.length bc], .int .i64 (moveG m t n).2]) ∧ IsI w' la (moveG m t n).1.live ∧ IsI w' oa (moveG m t n).1.offs ∧ IsB w' ba (moveG m t n).1.bytes ∧ (moveG m t n).1.bytes.length ≤ bc ∧ Below w.heap.size w w'
theorem row_set3 {w : World} {g : Nat} {T : TypeId} {p c s base : Int} {la oa ba a5 : Option Addr} {ln lc on oc bn bc n5 k5 : Nat} (h : w.heap[g]? = some (.cells (icells p c s la ln lc base oa on oc ba bn bc) T (0, 0))) :
    (w.setCell ⟨g, 3, none⟩ (.slice a5 n5 k5)).heap[g]? = some (.cells (icells p c s a5 n5 k5 base oa on oc ba bn bc) T (0, 0)) := heap_setCell_same w g 3 _ _ _ h
theorem clonei_all (a : Option Addr) (c n : Nat) (l : List Int) (w : World) (hn : n = l.length) (hB : IsI w a l) (hlen : l.length ≤ 17592186044416) :
    Calls Tryz.prog 56 #[.slice a n c] w fun e w' => ∃ a' c', e = .returned (.slice a' l.length c') ∧ OwnsI w' w.heap.size a' l c' ∧ Below w.heap.size w w' := by
  subst hn
  rcases a with _ | ad
  · obtain ⟨_, rfl | ⟨b, off, e, _⟩⟩ := hB
    · refine (clonei_nil _ _ w).mono ?_
      rintro e w' ⟨rfl, rfl⟩
      exact ⟨none, 0, rfl, ownsI_none _ _, Below.refl _ _⟩
    · cases e
  · exact clonei_at ad c l w hB hlen
/-- Bytes of one's own. -/
theorem fresh_own {w : World} {base cap : Nat} {a : Option Addr} {l : List Int} (h : FreshB w base a l cap) : OwnsB w base a l cap := by
  rcases h with ⟨rfl, rfl, rfl⟩ | ⟨g, rfl, _, h⟩
  · exact ⟨by simp, .inl ⟨rfl, rfl⟩⟩
  · exact h
theorem ownsB_cap {w : World} {base cap : Nat} {a : Option Addr} {l : List Int} (h : OwnsB w base a l cap) : l.length ≤ cap := by
  obtain ⟨q1, ⟨q2, _⟩ | ⟨g', c', cur, r1, r2, r3, r4, r5, r6, r7⟩⟩ := h
  · injection q2 with q2 q3 q4; omega
  · injection r1 with r1 q3 q4
    subst q4
    omega
end Go.Proofs.YtbfamjnnlcopiaaGreatDoor
