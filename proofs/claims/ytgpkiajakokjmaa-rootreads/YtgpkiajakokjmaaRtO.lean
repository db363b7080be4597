/- Layer 20: Read of the document. -/
import Derived.Test.YtgpkiajakokjmaaRtK
import Derived.Test.YtgpkiajakokjmaaRtM
import Derived.Deep.CutRange
namespace Go.Proofs.Ytgpkiajakokjmaa
open Go.RowKit
set_option linter.unusedVariables false
set_option maxRecDepth 4000

theorem made_I20 (n : Nat) : madeCells #[.int .i64 0] n = ((List.replicate n (0 : Int)).map (Value.int .i64)).toArray := by
  apply Array.ext'
  simp [madeCells]
  apply List.ext_getElem
  · simp
  · intro i h1 h2
    simp [Nat.mod_one]
theorem make_I20 (w : World) (n : Nat) (hn : n ≤ 1000000000) : (Instr.makeSlice 47 (.int .i64 (n : Nat)) (.int .i64 (n : Nat))).run Try.prog w = .ok (.slice (some ⟨w.heap.size, 0, none⟩) n n) (w.alloc (.cells ((List.replicate n (0 : Int)).map (Value.int .i64)).toArray 3)) := by
  obtain ⟨i0, hi, hz0, hz1, hz2⟩ := info_parts Try.info3
  have := run_make (P := Try.prog) w 47 3 i0 (.int .i64 0) Try.underlying47 hi hz0 .i64 .i64 n n (by omega) (by omega) (by rw [hz2]; omega) (by omega)
  rw [hz1] at this
  simp only [Int.toNat_natCast, Nat.mul_one] at this
  rw [this, ← made_I20]
  rfl
theorem zeros_isI (w : World) (n : Nat) : IsI (w.alloc (.cells ((List.replicate n (0 : Int)).map (Value.int .i64)).toArray 3)) (some ⟨w.heap.size, 0, none⟩) (List.replicate n 0) := by
  have r := Go.heap_alloc_new w (.cells ((List.replicate n (0 : Int)).map (Value.int .i64)).toArray 3)
  refine ⟨fun x hx => by rw [List.eq_of_mem_replicate hx]; omega, .inr ⟨w.heap.size, 0, rfl, hlt r, fun i hi => ?_⟩⟩
  rw [Nat.zero_add, cell_of_row _ _ i _ _ _ r]
  have hi' : i < n := by simpa using hi
  simp [List.getD, hi']
/-- The document's reader, new. -/
theorem newrf20 {w w3 D : World} {g cap : Nat} {l : List Int} (h : w3.alloc (.cells #[.slice (some ⟨g, 0, none⟩) l.length cap, .int .i64 0] 73) = D) (o : OwnsB w3 w.heap.size (some ⟨g, 0, none⟩) l cap) (hb : AllB l) (h0 : 0 < w.heap.size) : RfAt D 0 w3.heap.size l 0 ∧ Below w3.heap.size w3 D := by
  have bel : Below w3.heap.size w3 D := by rw [← h]; exact below_alloc _ _
  refine ⟨⟨some ⟨g, 0, none⟩, cap, by rw [← h]; exact Go.heap_alloc_new w3 _, (ownsB_isL o).1, (ownsB_isL o).2.1, hb, ?_⟩, bel⟩
  have o' := o
  obtain ⟨_, ⟨h1, _⟩ | ⟨g', c', cur, h1, hg, h2, _⟩⟩ := o'
  · cases h1
  · cases h1
    refine .inr ⟨g, 0, rfl, by omega, hlt h2, fun i hi => ?_⟩
    rw [bel.cell (p := ⟨g, 0 + i, none⟩) (hlt h2)]
    exact (ownsB_isB hb o).at i hi
theorem rf_tg {w w' : World} {lo M g : Nat} {l : List Int} {e : Int} (h : RfAt w lo M l e) (t : Tg g w w') (hg : M < g) : RfAt w' lo M l e := by
  obtain ⟨a, cap, hh, h1, h2, h3, h4⟩ := h
  refine ⟨a, cap, (t.block M (lt_of_block hh) (by omega)).trans hh, h1, h2, h3, ?_⟩
  rcases h4 with h4 | ⟨b, off, e1, e0, e2, e3⟩
  · exact .inl h4
  · exact .inr ⟨b, off, e1, e0, e2, fun i hi => t.cell (e3 i hi) (by omega)⟩
/-- A reader that is behind a fault, or reads l. -/
def RfR (w : World) (M : Nat) (l : List Int) (e : Int) : Prop := ∃ lr, RfAt w 0 M lr e ∧ (e = 0 → lr = l)
theorem from_rel (lo hi : Int) (M : Nat) (l : List Int) (e0 n : Int) (r : List Int) (e1 : Int) (w : World) (h : RfR w M l e0) (hh : hi ≤ 9223372036854775807) (hn : numR lo hi l e0 = (n, r, e1)) :
    Calls Try.prog 39 #[.pointer (some ⟨M, 0, none⟩), .int .i64 lo, .int .i64 hi] w fun e w' => e = .returned (.int .i64 n) ∧ RfR w' M r e1 ∧ Tg M w w' := by
  obtain ⟨lr, h1, h2⟩ := h
  by_cases h0 : e0 = 0
  · obtain rfl := h2 h0
    exact (from_any lo hi 0 M lr e0 n r e1 w h1 hh hn).mono fun e w' q => q
  · rw [num_stay h0] at hn
    simp only [Prod.mk.injEq] at hn
    obtain ⟨rfl, rfl, rfl⟩ := hn
    refine (from_any lo hi 0 M lr e0 0 lr e0 w h1 hh (num_stay h0)).mono fun e w' q => ?_
    obtain ⟨q1, ⟨r', q2, _⟩, q3⟩ := q
    exact ⟨q1, ⟨r', q2, fun q => absurd q h0⟩, q3⟩
/-- A root under way: the reader, the root's box, the answer's box. -/
structure Yb (w wr : World) (M K : Nat) (l : List Int) (e : Int) (cs : Array Value) : Prop where
  rd : RfR wr M l e
  box : wr.heap[K]? = some (.cells cs 28 (0, 0))
  res : wr.heap[w.heap.size]? = some (.cells #[.int .i64 0, .int .i64 0, .int .i64 0, .int .i64 0, .int .i64 0, .int .i64 0, .slice none 0 0] 28 (0, 0))
  low : Below w.heap.size w wr
  hM : w.heap.size < M
  hK : M < K
theorem Yb.go {w wr w1 : World} {M K : Nat} {l l' : List Int} {e e' : Int} {cs : Array Value} (h : Yb w wr M K l e cs) (t : Tg M wr w1) (r : RfR w1 M l' e') : Yb w w1 M K l' e' cs := by
  have hM := h.hM
  have hK := h.hK
  exact ⟨r, by rw [t.block K (hlt h.box) (by omega)]; exact h.box, by rw [t.block _ (hlt h.res) (by omega)]; exact h.res, h.low.trans (t.below (by omega) (Nat.le_of_lt (hlt h.res))), hM, hK⟩
theorem Yb.far {w wr w1 : World} {M K g : Nat} {l : List Int} {e : Int} {cs : Array Value} (h : Yb w wr M K l e cs) (on : Only g wr w1) (hg : K < g) : Yb w w1 M K l e cs := by
  have hM := h.hM
  have hK := h.hK
  obtain ⟨lr, h1, h2⟩ := h.rd
  exact ⟨⟨lr, rf_tg h1 (Tg.ofOnly on) (by omega), h2⟩, by rw [on.block K (by omega)]; exact h.box, by rw [on.block _ (by omega)]; exact h.res, h.low.trans (on.below (by omega)), hM, hK⟩
theorem Yb.keep {w wr w1 : World} {M K : Nat} {l : List Int} {e : Int} {cs : Array Value} (h : Yb w wr M K l e cs) (b : Below wr.heap.size wr w1) : Yb w w1 M K l e cs := by
  obtain ⟨lr, h1, h2⟩ := h.rd
  exact ⟨⟨lr, rf_keep h1 b, h2⟩, by rw [b.block K (hlt h.box)]; exact h.box, by rw [b.block _ (hlt h.res)]; exact h.res, h.low.trans (b.mono h.low.size), h.hM, h.hK⟩
theorem Yb.put {w wr : World} {M K : Nat} {l : List Int} {e : Int} {cs cs' : Array Value} (h : Yb w wr M K l e cs) (j : Nat) (v : Value) (he : cs.setIfInBounds j v = cs') : Yb w (wr.setCell ⟨K, j, none⟩ v) M K l e cs' := by
  have on := Only.set K j v wr
  have hM := h.hM
  have hK := h.hK
  obtain ⟨lr, h1, h2⟩ := h.rd
  exact ⟨⟨lr, rf_tg h1 (Tg.ofOnly on) hK, h2⟩, by rw [heap_setCell_same wr K j _ _ _ h.box, he], by rw [on.block _ (by omega)]; exact h.res, h.low.trans (on.below (by omega)), hM, hK⟩
theorem cellsW_set1 (x : Int) : ∀ (l : List Ent) (i : Nat), i < l.length → (cellsW l).set (i * 4 + 1) (.int .i64 x) = cellsW (l.set i { rwD l i with i := x })
  | q :: l, 0, _ => rfl
  | q :: l, i + 1, h => by
    have := cellsW_set1 x l i (by simpa using h)
    rw [show (i + 1) * 4 = i * 4 + 4 by omega]
    show .int .i64 q.t :: .int .i64 q.i :: .int .i64 q.f :: .int .i64 q.n :: (cellsW l).set (i * 4 + 1) (.int .i64 x) = _
    rw [this]
    rfl
theorem cellsW_set2 (x : Int) : ∀ (l : List Ent) (i : Nat), i < l.length → (cellsW l).set (i * 4 + 2) (.int .i64 x) = cellsW (l.set i { rwD l i with f := x })
  | q :: l, 0, _ => rfl
  | q :: l, i + 1, h => by
    have := cellsW_set2 x l i (by simpa using h)
    rw [show (i + 1) * 4 = i * 4 + 4 by omega]
    show .int .i64 q.t :: .int .i64 q.i :: .int .i64 q.f :: .int .i64 q.n :: (cellsW l).set (i * 4 + 2) (.int .i64 x) = _
    rw [this]
    rfl
theorem cellsW_set3 (x : Int) : ∀ (l : List Ent) (i : Nat), i < l.length → (cellsW l).set (i * 4 + 3) (.int .i64 x) = cellsW (l.set i { rwD l i with n := x })
  | q :: l, 0, _ => rfl
  | q :: l, i + 1, h => by
    have := cellsW_set3 x l i (by simpa using h)
    rw [show (i + 1) * 4 = i * 4 + 4 by omega]
    show .int .i64 q.t :: .int .i64 q.i :: .int .i64 q.f :: .int .i64 q.n :: (cellsW l).set (i * 4 + 3) (.int .i64 x) = _
    rw [this]
    rfl
theorem Ow.put {w w' : World} {B g c : Nat} {l l' : List Ent} (h : Ow w B (some ⟨g, 0, none⟩) l c) (hl : l'.length = l.length) (k : ∀ cur : Array Value, w.heap[g]? = some (.cells cur 54 (0, 0)) → cur.toList.take (l.length * 4) = cellsW l → ∃ cur' : Array Value, w'.heap[g]? = some (.cells cur' 54 (0, 0)) ∧ cur'.size = cur.size ∧ cur'.toList.take (l.length * 4) = cellsW l') : Ow w' B (some ⟨g, 0, none⟩) l' c := by
  obtain ⟨h0, ⟨h1, _⟩ | ⟨g', c', cur, h1, hb, h2, h3, h4, h5, h6⟩⟩ := h
  · cases h1
  · cases h1
    obtain ⟨cur', k1, k2, k3⟩ := k cur h2 h6
    refine ⟨by rw [cellsW_len], .inr ⟨g, c, cur', by rw [hl], hb, k1, by omega, h4, by omega, by rw [hl]; exact k3⟩⟩
theorem Ow.setI {w : World} {B g c : Nat} {l : List Ent} (h : Ow w B (some ⟨g, 0, none⟩) l c) (i : Nat) (hi : i < l.length) (x : Int) : Ow (w.setCell ⟨g, i * 4 + 1, none⟩ (.int .i64 x)) B (some ⟨g, 0, none⟩) (l.set i { rwD l i with i := x }) c :=
  h.put (by simp) (fun cur hc hk => ⟨_, heap_setCell_same w g _ _ _ _ hc, by simp, by rw [Array.toList_setIfInBounds, List.take_set, hk, cellsW_set1 x l i hi]⟩)
theorem Ow.setF {w : World} {B g c : Nat} {l : List Ent} (h : Ow w B (some ⟨g, 0, none⟩) l c) (i : Nat) (hi : i < l.length) (x : Int) : Ow (w.setCell ⟨g, i * 4 + 2, none⟩ (.int .i64 x)) B (some ⟨g, 0, none⟩) (l.set i { rwD l i with f := x }) c :=
  h.put (by simp) (fun cur hc hk => ⟨_, heap_setCell_same w g _ _ _ _ hc, by simp, by rw [Array.toList_setIfInBounds, List.take_set, hk, cellsW_set2 x l i hi]⟩)
theorem Ow.setN {w : World} {B g c : Nat} {l : List Ent} (h : Ow w B (some ⟨g, 0, none⟩) l c) (i : Nat) (hi : i < l.length) (x : Int) : Ow (w.setCell ⟨g, i * 4 + 3, none⟩ (.int .i64 x)) B (some ⟨g, 0, none⟩) (l.set i { rwD l i with n := x }) c :=
  h.put (by simp) (fun cur hc hk => ⟨_, heap_setCell_same w g _ _ _ _ hc, by simp, by rw [Array.toList_setIfInBounds, List.take_set, hk, cellsW_set3 x l i hi]⟩)
theorem rwD_set {l : List Ent} {i : Nat} (hi : i < l.length) (x : Ent) : rwD (l.set i x) i = x := by
  rw [rwD_at (by simpa using hi), List.getElem_set_self]
/-- A root under way, with its entries. -/
structure Lq (w wr : World) (M K : Nat) (cs : Array Value) (ae : Option Addr) (ce : Nat) (q : List Ent) (l : List Int) (e : Int) : Prop where
  yb : Yb w wr M K l e cs
  own : Ow wr (K + 1) ae q ce
theorem Lq.go {w wr w1 : World} {M K : Nat} {cs : Array Value} {ae : Option Addr} {ce : Nat} {q : List Ent} {l l' : List Int} {e e' : Int} (h : Lq w wr M K cs ae ce q l e) (t : Tg M wr w1) (r : RfR w1 M l' e') : Lq w w1 M K cs ae ce q l' e' :=
  ⟨h.yb.go t r, h.own.tg t (by have := h.yb.hK; omega)⟩
theorem Lq.setI {w wr : World} {M K g : Nat} {cs : Array Value} {ce : Nat} {q : List Ent} {l : List Int} {e : Int} (h : Lq w wr M K cs (some ⟨g, 0, none⟩) ce q l e) (i : Nat) (hi : i < q.length) (x : Int) : Lq w (wr.setCell ⟨g, i * 4 + 1, none⟩ (.int .i64 x)) M K cs (some ⟨g, 0, none⟩) ce (q.set i { rwD q i with i := x }) l e :=
  ⟨h.yb.far (Only.set g _ _ wr) (by have := (h.own.ge g rfl).1; omega), h.own.setI i hi x⟩
theorem Lq.setF {w wr : World} {M K g : Nat} {cs : Array Value} {ce : Nat} {q : List Ent} {l : List Int} {e : Int} (h : Lq w wr M K cs (some ⟨g, 0, none⟩) ce q l e) (i : Nat) (hi : i < q.length) (x : Int) : Lq w (wr.setCell ⟨g, i * 4 + 2, none⟩ (.int .i64 x)) M K cs (some ⟨g, 0, none⟩) ce (q.set i { rwD q i with f := x }) l e :=
  ⟨h.yb.far (Only.set g _ _ wr) (by have := (h.own.ge g rfl).1; omega), h.own.setF i hi x⟩
theorem Lq.setN {w wr : World} {M K g : Nat} {cs : Array Value} {ce : Nat} {q : List Ent} {l : List Int} {e : Int} (h : Lq w wr M K cs (some ⟨g, 0, none⟩) ce q l e) (i : Nat) (hi : i < q.length) (x : Int) : Lq w (wr.setCell ⟨g, i * 4 + 3, none⟩ (.int .i64 x)) M K cs (some ⟨g, 0, none⟩) ce (q.set i { rwD q i with n := x }) l e :=
  ⟨h.yb.far (Only.set g _ _ wr) (by have := (h.own.ge g rfl).1; omega), h.own.setN i hi x⟩
end Go.Proofs.Ytgpkiajakokjmaa
